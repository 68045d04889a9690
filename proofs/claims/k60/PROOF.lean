import PyProof.Rows.All
import Wide.All
import OpenK.AllK
import Wide.FinOn
import Lean
import PyProof.EqAt
import PyProof.EqKinds
import PyProof.TupleCall
import PySem.Challenge.RW_spinfloor_k60_answers_read
set_option Elab.async false
set_option linter.all false
set_option maxRecDepth 100000
/-! THE HAND LAYER, for ints, bools, texts, own classes, LISTS and tuples (index, slices, in, append, pop ..), calls, loops. Paste it whole ahead of your own text; what your proof does not reach may be deleted. -/
namespace L2
open PySem PySem.Spec PyProof.Rows

/-- a key: an int or a str -/
abbrev Key := Sum Int Str
def keyIs : Key → Value → Bool
  | .inl k, v => Value.isInt k v
  | .inr x, v => Value.isStrOf x v
def keyH (w : World) : Key → Int
  | .inl k => hashInt k
  | .inr x => hashStr w x
theorem keyIs_shape : ∀ {k : Key} {v : Value}, keyIs k v = true → (∃ i t, k = Sum.inl i ∧ v = Value.int i t) ∨ (∃ x t, k = Sum.inr x ∧ v = Value.str x t)
  | .inl i, v, h => by
    obtain ⟨t, e⟩ := Value.isInt_shape (k := i) (v := v) h
    exact .inl ⟨i, t, rfl, e⟩
  | .inr x, v, h => by
    obtain ⟨t, e⟩ := Value.isStrOf_shape (x := x) (v := v) h
    exact .inr ⟨x, t, rfl, e⟩
theorem key_ll (a b : Int) : decide ((Sum.inl a : Key) = Sum.inl b) = (a == b) := by
  by_cases e : a = b
  · subst e; simp
  · have h : ¬ (Sum.inl a : Key) = Sum.inl b := fun q => e (Sum.inl.inj q)
    rw [decide_eq_false h]
    exact (beq_eq_false_iff_ne.mpr e).symm
theorem key_rr (a b : Str) : decide ((Sum.inr a : Key) = Sum.inr b) = decide (a = b) := by
  by_cases e : a = b
  · subst e; simp
  · have h : ¬ (Sum.inr a : Key) = Sum.inr b := fun q => e (Sum.inr.inj q)
    rw [decide_eq_false h, decide_eq_false e]
theorem key_lr (a : Int) (b : Str) : decide ((Sum.inl a : Key) = Sum.inr b) = false := decide_eq_false (fun q => nomatch q)
theorem key_rl (a : Str) (b : Int) : decide ((Sum.inr a : Key) = Sum.inl b) = false := decide_eq_false (fun q => nomatch q)

def mixKind (prog : Program) (w : World) : PySem.KeyKind prog w Key where
  is := keyIs
  hash := keyH w
  inj := fun v a b ha hb => by
    rcases keyIs_shape ha with ⟨i, t, rfl, rfl⟩ | ⟨x, t, rfl, rfl⟩
    · rcases keyIs_shape hb with ⟨j, u, rfl, e⟩ | ⟨y, u, rfl, e⟩
      · injection e with e1 _; rw [e1]
      · exact nomatch e
    · rcases keyIs_shape hb with ⟨j, u, rfl, e⟩ | ⟨y, u, rfl, e⟩
      · exact nomatch e
      · injection e with e1 _; rw [e1]
  byValue := fun k v h => by
    rcases keyIs_shape h with ⟨i, t, rfl, rfl⟩ | ⟨x, t, rfl, rfl⟩ <;> rfl
  pyHash := fun hv h => by
    rcases keyIs_shape hv with ⟨i, t, rfl, rfl⟩ | ⟨x, t, rfl, rfl⟩
    · exact wpAny_pyHash_int h
    · exact wpAny_pyHash_str h
  eqBool := fun hu hv h => by
    rcases keyIs_shape hu with ⟨i, t, rfl, rfl⟩ | ⟨x, t, rfl, rfl⟩
    · rcases keyIs_shape hv with ⟨j, u, rfl, rfl⟩ | ⟨y, u, rfl, rfl⟩
      · rw [key_ll] at h; exact wpAny_eqBool_int h
      · rw [key_lr] at h; exact SeqAt.EqAt.int_str i t y u _ _ _ _ h
    · rcases keyIs_shape hv with ⟨j, u, rfl, rfl⟩ | ⟨y, u, rfl, rfl⟩
      · rw [key_rl] at h; exact SeqAt.EqAt.str_int x t j u _ _ _ _ h
      · rw [key_rr] at h; exact wpAny_eqBool_str h
  «strs» := fun k x t v h => by
    rcases keyIs_shape h with ⟨i, u, rfl, e⟩ | ⟨y, u, rfl, e⟩
    · exact nomatch e
    · injection e with e1 _
      subst e1
      cases v <;> rfl

end L2

namespace L2
open PySem PySem.Spec PyProof.Rows

/-- a value, without the heap -/
inductive V where
  | non | bl (b : Bool) | int (i : Int) | str (x : Str) | byt (b : Array UInt8) | flt (b : UInt64) | ref (a : Addr) | ty (n : String)
  deriving DecidableEq

def RelV : V → Value → Prop
  | .non, u => u = Value.none
  | .bl b, u => u = Value.bool b
  | .int i, u => ∃ t, u = Value.int i t
  | .str x, u => ∃ t, u = Value.str x t
  | .byt b, u => ∃ t, u = Value.bytes b t
  | .flt b, u => ∃ t, u = Value.float b t
  | .ref a, u => u = Value.ref a
  | .ty n, u => u = Value.type n

abbrev Vals : List V → List Value → Prop := Paired RelV
theorem Vals.length {xs : List V} {us : List Value} (r : Vals xs us) : xs.length = us.length := Paired.length r
theorem Vals.get : ∀ {xs : List V} {us : List Value} {i : Nat} {x : V}, Vals xs us → xs[i]? = some x → ∃ u, us[i]? = some u ∧ RelV x u
  | _, _, _, _, .nil, e => by simp at e
  | _, _, 0, _, .cons r _, e => by simp at e; subst e; exact ⟨_, rfl, r⟩
  | _, _, i + 1, x, .cons _ t, e => by
    obtain ⟨u, h1, h2⟩ := Vals.get (i := i) (x := x) t (by simpa using e)
    exact ⟨u, by simpa using h1, h2⟩
theorem Vals.append : ∀ {xs ys : List V} {us ws : List Value}, Vals xs us → Vals ys ws → Vals (xs ++ ys) (us ++ ws)
  | _, _, _, _, .nil, s => s
  | _, _, _, _, .cons r t, s => .cons r (Vals.append t s)
theorem Vals.take : ∀ {xs : List V} {us : List Value} (n : Nat), Vals xs us → Vals (xs.take n) (us.take n)
  | _, _, 0, _ => .nil
  | _, _, _ + 1, .nil => .nil
  | _, _, n + 1, .cons r t => .cons r (Vals.take n t)
theorem Vals.drop : ∀ {xs : List V} {us : List Value} (n : Nat), Vals xs us → Vals (xs.drop n) (us.drop n)
  | _, _, 0, r => r
  | _, _, _ + 1, .nil => .nil
  | _, _, n + 1, .cons _ t => Vals.drop n t

def RelO : Option V → Option Value → Prop
  | some v, some u => RelV v u
  | none, none => True
  | _, _ => False
def KV {κ : Type} : List (κ × V) → List (κ × Value) → Prop := Paired fun (p : κ × V) (q : κ × Value) => p.1 = q.1 ∧ RelV p.2 q.2

/-- a key of a dict (00_mix): an int or a text -/
def kV : Key → V
  | .inl i => .int i
  | .inr x => .str x

/-- what stands at a tracked address -/
inductive HO where
  /-- a list -/
  | lst (xs : List V)
  /-- a tuple (never changes) -/
  | tup (xs : List V)
  /-- a dict whose keys are ints and texts; one whose keys are tuples of ints and texts (the empty one is both) -/
  | dK (kvs : List (Key × V)) | dT (kvs : List (List Key × V))
  /-- a set of ints: its members, its size -/
  | set (S : Int → Bool) (n : Nat)
  /-- an instance of the class at C, its dict at dx, its attributes -/
  | ins (C dx : Addr) (fs : List (Str × V))
  /-- the dict of the instance at x -/
  | own (x : Addr)
  /-- the dict of an exception -/
  | xd (fs : List (Str × V))
  /-- a bound method, f of x -/
  | met (f x : Addr)
  /-- a range object lo, lo + 1, .. below hi -/
  | rng (lo hi : Int)
  /-- a thing that is known to the object (the script; a dict while a loop walks it): read, never written while it is so -/
  | frz (o : Obj) (u : HO)
  /-- a code object's table -/
  | tbl (ps : Array Value)
  /-- any other thing, by what is true of its one object (a def of one's own: SetO a S n := HO.ext fun h => ..) -/
  | ext (φ : Heap → Prop)

abbrev Hp := Addr → Option HO
def upd (H : Hp) (a : Addr) (o : HO) : Hp := fun b => if b = a then some o else H b
theorem upd_same {H : Hp} {a : Addr} {o : HO} : upd H a o a = some o := by unfold upd; rw [if_pos rfl]
theorem upd_ne {H : Hp} {a b : Addr} {o : HO} (h : b ≠ a) : upd H a o b = H b := by unfold upd; rw [if_neg h]
theorem ne_of_none {H : Hp} {a b : Addr} {o : HO} (h : H a = some o) (h' : H b = none) : a ≠ b := by
  intro e; subst e; rw [h] at h'; cases h'

section
variable (P : Program) (w : World)
def ObjOk (H : Hp) (h : Heap) (a : Addr) : HO → Prop
  | .lst xs => xs.length ≤ sizeLine ∧ ∃ (its : List Value) (n : Nat), Vals xs its ∧ h.get? a = some { cls := .type "list", data := .seq its.toArray n }
  | .tup xs => xs.length ≤ sizeLine ∧ ∃ its : List Value, Vals xs its ∧ IsTup h a its.toArray
  | .dK kvs => kvs.length ≤ sizeLine ∧ (a == sysModules) = false ∧ ∃ vs, KV kvs vs ∧ h.DictOf (mixKind P w) a vs
  | .dT kvs => kvs.length ≤ sizeLine ∧ (a == sysModules) = false ∧ ∃ xs : List (List Key × Addr × Value),
      Paired (fun (p : List Key × V) (q : List Key × Addr × Value) => p.1 = q.1 ∧ H q.2.1 = some (.tup (p.1.map kV)) ∧ RelV p.2 q.2.2) kvs xs ∧
      ∃ o es ep, h.get? a = some o ∧ o.ExactDict ∧ o.data = .dict es ep ∧ es.toList = xs.map (entryOfKey (tupleKind (mixKind P w))) ∧ (xs.map (·.1)).Nodup
  | .set S n => h.SetOf (intKind P w) a S n
  | .ins C dx fs => H dx = some (.own a) ∧ fs.length ≤ 1000 ∧ dx ≠ a ∧ h.get? a = some (PySem.W.instObj C dx) ∧
      ∃ mA, h.Ns1 dx mA ∧ (∀ f, RelO (fs.lookup f) (mA f)) ∧ PySem.Within mA (fs.map (·.1))
  | .own _ => ∃ o, h.get? a = some o
  | .xd fs => ∃ mA, h.Ns1 a mA ∧ ∀ f, RelO (fs.lookup f) (mA f)
  | .rng lo hi => ∃ t u v, h.get? a = some { cls := .type "range", data := .fields #[.int lo t, .int hi u, .int 1 v] }
  | .frz o u => h.get? a = some o ∧ ObjOk H h a u
  | .tbl ps => h.get? a = some { cls := .none, data := .fields ps }
  | .met f x => h.get? a = some (PySem.W.methodObj (.ref f) (.ref x))
  | .ext φ => φ h ∧ (∃ o, h.get? a = some o) ∧ ∀ h1 h2 : Heap, φ h1 → (∀ o, h1.get? a = some o → h2.get? a = some o) → φ h2
/-- the abstract heap is held -/
def HOk (H : Hp) (h : Heap) : Prop := ∀ a o, H a = some o → ObjOk P w H h a o
end

section
variable {P : Program} {w : World} {H H' : Hp} {h h' : Heap} {a : Addr} {o : HO}
theorem ObjOk.lt (x : ObjOk P w H h a o) : a < h.objs.size := by
  cases o with
  | lst xs => obtain ⟨_, _, _, _, e⟩ := x; exact Heap.lt_size e
  | tup xs => obtain ⟨_, _, _, p⟩ := x; exact p.lt
  | dK kvs => obtain ⟨_, _, _, _, o, _, _, e, _⟩ := x; exact Heap.lt_size e
  | dT kvs => obtain ⟨_, _, _, _, o, _, _, e, _⟩ := x; exact Heap.lt_size e
  | set S n => obtain ⟨o, _, _, _, e, _⟩ := x; exact Heap.lt_size e
  | ins C dx fs => obtain ⟨_, _, _, e, _⟩ := x; exact Heap.lt_size e
  | own y => obtain ⟨_, e⟩ := x; exact Heap.lt_size e
  | xd fs => obtain ⟨_, ⟨_, _, _, e, _⟩, _⟩ := x; exact Heap.lt_size e
  | rng lo hi => obtain ⟨_, _, _, e⟩ := x; exact Heap.lt_size e
  | frz ob u => obtain ⟨e, _⟩ := x; exact Heap.lt_size e
  | tbl ps => exact Heap.lt_size (show h.get? a = some _ from x)
  | met f y => exact Heap.lt_size (show h.get? a = some _ from x)
  | ext φ => obtain ⟨_, ⟨_, e⟩, _⟩ := x; exact Heap.lt_size e
theorem Paired.mapP {α β : Type} {F G : α → β → Prop} : ∀ {l₁ : List α} {l₂ : List β}, Paired F l₁ l₂ → (∀ a b, F a b → G a b) → Paired G l₁ l₂
  | _, _, .nil, _ => .nil
  | _, _, .cons r t, f => .cons (f _ _ r) (Paired.mapP t f)
/-- what an object's description leans on: its own object, its own dict, the tuples -/
theorem ObjOk.stay (x : ObjOk P w H h a o) (k : ∀ b u, (b = a ∨ H b = some (.own a)) → h.get? b = some u → h'.get? b = some u)
    (ho : ∀ b, H b = some (.own a) → H' b = some (.own a)) (ht : ∀ b xs, H b = some (.tup xs) → H' b = some (.tup xs)) : ObjOk P w H' h' a o := by
  induction o with
  | lst xs => obtain ⟨z, its, n, r, e⟩ := x; exact ⟨z, its, n, r, k _ _ (.inl rfl) e⟩
  | tup xs => obtain ⟨z, its, r, ob, e, c⟩ := x; exact ⟨z, its, r, ob, k _ _ (.inl rfl) e, c⟩
  | dK kvs => obtain ⟨z, y, vs, r, ob, es, ep, e, c⟩ := x; exact ⟨z, y, vs, r, ob, es, ep, k _ _ (.inl rfl) e, c⟩
  | dT kvs =>
    obtain ⟨z, y, xs, r, ob, es, ep, e, c⟩ := x
    exact ⟨z, y, xs, Paired.mapP r fun p q z => ⟨z.1, ht _ _ z.2.1, z.2.2⟩, ob, es, ep, k _ _ (.inl rfl) e, c⟩
  | set S n => obtain ⟨ob, es, ep, t, e, c⟩ := x; exact ⟨ob, es, ep, t, k _ _ (.inl rfl) e, c⟩
  | ins C dx fs =>
    obtain ⟨d, z, ne, e, mA, ⟨od, es, ep, e2, c⟩, r⟩ := x
    exact ⟨ho _ d, z, ne, k _ _ (.inl rfl) e, mA, ⟨od, es, ep, k _ _ (.inr d) e2, c⟩, r⟩
  | own y => obtain ⟨ob, e⟩ := x; exact ⟨ob, k _ _ (.inl rfl) e⟩
  | xd fs => obtain ⟨mA, ⟨od, es, ep, e, c⟩, r⟩ := x; exact ⟨mA, ⟨od, es, ep, k _ _ (.inl rfl) e, c⟩, r⟩
  | rng lo hi => obtain ⟨t, u, v, e⟩ := x; exact ⟨t, u, v, k _ _ (.inl rfl) e⟩
  | frz ob u ih => obtain ⟨e, q⟩ := x; exact ⟨k _ _ (.inl rfl) e, ih q⟩
  | tbl ps =>
    have e : h.get? a = some { cls := .none, data := .fields ps } := x
    show h'.get? a = some { cls := .none, data := .fields ps }
    exact k a _ (.inl rfl) e
  | met f y =>
    have e : h.get? a = some (PySem.W.methodObj (.ref f) (.ref y)) := x
    show h'.get? a = some (PySem.W.methodObj (.ref f) (.ref y))
    exact k a _ (.inl rfl) e
  | ext φ => obtain ⟨p, ⟨o, e⟩, st⟩ := x; exact ⟨st _ _ p fun o q => k _ _ (.inl rfl) q, ⟨o, k _ _ (.inl rfl) e⟩, st⟩
theorem HOk.lt (x : HOk P w H h) (e : H a = some o) : a < h.objs.size := (x a o e).lt
theorem HOk.fresh (x : HOk P w H h) (e : h.objs.size ≤ a) : H a = none := by
  cases q : H a with
  | none => rfl
  | some u => exact absurd (Nat.lt_of_lt_of_le (x.lt q) e) (Nat.lt_irrefl _)
/-- every object of the heap is kept -/
theorem HOk.kept (x : HOk P w H h) (k : ∀ b u, h.get? b = some u → h'.get? b = some u) : HOk P w H h' := fun a o e =>
  (x a o e).stay (fun b u _ q => k b u q) (fun _ q => q) fun _ _ q => q
/-- a new object is laid and tracked -/
theorem HOk.laid (x : HOk P w H h) (k : ∀ b u, h.get? b = some u → h'.get? b = some u) (hp : h.objs.size ≤ a) (new : ObjOk P w (upd H a o) h' a o) : HOk P w (upd H a o) h' := fun b u e => by
  have hn := x.fresh hp
  by_cases hb : b = a
  · subst hb; rw [upd_same] at e; cases e; exact new
  · rw [upd_ne hb] at e
    exact (x b u e).stay (fun c v _ q => k c v q) (fun c q => by rw [upd_ne (ne_of_none q hn)]; exact q) fun c xs q => by rw [upd_ne (ne_of_none q hn)]; exact q
end

/-- what may be read as u: it is u, or a known u -/
def Rd (H : Hp) (a : Addr) (u : HO) : Prop := H a = some u ∨ ∃ o, H a = some (.frz o u)
theorem Rd.ok {P : Program} {w : World} {H : Hp} {h : Heap} {a : Addr} {u : HO} (r : Rd H a u) (x : HOk P w H h) : ObjOk P w H h a u := by
  rcases r with r | ⟨o, r⟩
  · exact x a u r
  · obtain ⟨_, q⟩ := x a _ r
    exact q
/-- what may be written -/
def Mut : Option HO → Prop
  | some (.lst _) => True
  | some (.dK _) => True
  | some (.dT _) => True
  | some (.set _ _) => True
  | some (.ins _ _ _) => True
  | some (.ext _) => True
  | _ => False
section
variable {P : Program} {w : World} {H : Hp} {h h' : Heap} {x e : Addr} {o' : HO}
/-- the object at e is changed: x itself, or the dict of the instance x -/
theorem HOk.write (ok : HOk P w H h) (mu : Mut (H x)) (he : e = x ∨ H e = some (.own x)) (k : ∀ b u, b ≠ e → h.get? b = some u → h'.get? b = some u) (heo : ∃ u, h'.get? e = some u)
    (new : ObjOk P w (upd H x o') h' x o') : HOk P w (upd H x o') h' := fun b u q => by
  have nown : ∀ c y, H c = some (.own y) → c ≠ x := fun c y r z => by subst z; rw [r] at mu; exact mu
  have ntup : ∀ c xs, H c = some (.tup xs) → c ≠ x := fun c xs r z => by subst z; rw [r] at mu; exact mu
  by_cases hb : b = x
  · subst hb; rw [upd_same] at q; cases q; exact new
  · rw [upd_ne hb] at q
    by_cases hbe : b = e
    · have q' : H b = some (.own x) := by
        rcases he with z | z
        · exact absurd (hbe.trans z) hb
        · rw [hbe]; exact z
      rw [q] at q'; cases q'
      obtain ⟨v, hv⟩ := heo
      exact ⟨v, by rw [hbe]; exact hv⟩
    · refine (ok b u q).stay (fun c v hc r => k c v ?_ r) (fun c r => by rw [upd_ne (nown c b r)]; exact r) fun c xs r => by rw [upd_ne (ntup c xs r)]; exact r
      rcases hc with rfl | hc
      · exact hbe
      · rintro rfl
        rcases he with z | z
        · exact nown c b hc z
        · rw [hc] at z; cases z; exact hb rfl
end

/-! ### kept unless tracked; of the frames at fs (the callers') the slots may change (an exception that passes writes there); of the records at ex (iterators) nothing is said -/
structure Un (fs ex : List Addr) (H H' : Hp) (h h' : Heap) : Prop where
  keep : ∀ b o, h.get? b = some o → H b = none → b ∉ fs → b ∉ ex → h'.get? b = some o
  slot : ∀ b o, h.get? b = some o → H b = none → b ∈ fs → b ∉ ex → ∃ sl, h'.get? b = some { o with slots := sl }
  free : ∀ b o, h.get? b = some o → H b = none → b ∉ ex → H' b = none
  there : ∀ b o, h.get? b = some o → b ∉ ex → ∃ o', h'.get? b = some o'
  tups : ∀ b xs, H b = some (.tup xs) → H' b = some (.tup xs)
  frzs : ∀ b o u, H b = some (.frz o u) → H' b = some (.frz o u)
  tbls : ∀ b ps, H b = some (.tbl ps) → ∃ more, H' b = some (.tbl (ps ++ more))
section
variable {fs fs' ex ex' : List Addr} {H H1 H2 : Hp} {h h1 h2 h' : Heap} {a x e : Addr} {o : HO}
theorem Un.any (u : Un fs ex H H1 h h1) {b : Addr} {ob : Obj} (q : h.get? b = some ob) (n : H b = none) (hx : b ∉ ex) : ∃ sl, h1.get? b = some { ob with slots := sl } := by
  by_cases hb : b ∈ fs
  · exact u.slot b ob q n hb hx
  · exact ⟨ob.slots, u.keep b ob q n hb hx⟩
theorem Un.kept (k : ∀ b u, h.get? b = some u → h'.get? b = some u) : Un fs ex H H h h' :=
  ⟨fun b ob q _ _ _ => k b ob q, fun b ob q _ _ _ => ⟨ob.slots, k b ob q⟩, fun _ _ _ n _ => n, fun b ob q _ => ⟨ob, k b ob q⟩, fun _ _ q => q, fun _ _ _ q => q, fun _ ps q => ⟨#[], by rw [q]; simp⟩⟩
theorem Un.refl : Un fs ex H H h h := Un.kept fun _ _ q => q
theorem Un.laid (k : ∀ b u, h.get? b = some u → h'.get? b = some u) (hp : h.objs.size ≤ a) (hn : H a = none) : Un fs ex H (upd H a o) h h' where
  keep := fun b u q _ _ _ => k b u q
  slot := fun b u q _ _ _ => ⟨u.slots, k b u q⟩
  free := fun b u q n _ => by rw [upd_ne (Nat.ne_of_lt (Nat.lt_of_lt_of_le (Heap.lt_size q) hp))]; exact n
  there := fun b u q _ => ⟨u, k b u q⟩
  tups := fun b xs q => by rw [upd_ne (ne_of_none q hn)]; exact q
  frzs := fun b u xs q => by rw [upd_ne (ne_of_none q hn)]; exact q
  tbls := fun b ps q => ⟨#[], by rw [upd_ne (ne_of_none q hn), q]; simp⟩
theorem Un.write (mu : Mut (H x)) (he : e = x ∨ H e = some (.own x)) (k : ∀ b u, b ≠ e → h.get? b = some u → h'.get? b = some u) (heo : ∃ u, h'.get? e = some u) : Un fs ex H (upd H x o) h h' := by
  have hx : ∀ b, H b = none → b ≠ x := fun b n z => by subst z; rw [n] at mu; exact mu
  have hb : ∀ b, H b = none → b ≠ e := fun b n z => by
    subst z
    rcases he with r | r
    · exact hx b n r
    · rw [n] at r; cases r
  have hm : ∀ b u, H b = some u → ¬ Mut (some u) → b ≠ x := fun b u q nm z => by subst z; rw [q] at mu; exact nm mu
  refine ⟨fun b u q n _ _ => k b u (hb b n) q, fun b u q n _ _ => ⟨u.slots, k b u (hb b n) q⟩, fun b u q n _ => by rw [upd_ne (hx b n)]; exact n, fun b u q _ => ?_,
    fun b xs q => by rw [upd_ne (hm b _ q fun z => z)]; exact q, fun b u xs q => by rw [upd_ne (hm b _ q fun z => z)]; exact q, fun b ps q => ⟨#[], by rw [upd_ne (hm b _ q fun z => z), q]; simp⟩⟩
  by_cases hbe : b = e
  · subst hbe; exact heo
  · exact ⟨u, k b u hbe q⟩
end

/-! ### the heap without what is tracked -/
def trk (h : Heap) (H : Hp) : List Addr := (List.range h.objs.size).filter fun a => (H a).isSome
def hidT (h : Heap) (H : Hp) : Heap := PySem.W.hideAll h (trk h H)
theorem hidT_size (h : Heap) (H : Hp) : (hidT h H).objs.size = h.objs.size := PySem.W.hideAll_size _ _
theorem hidT_get {h : Heap} {H : Hp} {b : Addr} {o : Obj} (e : h.get? b = some o) (n : H b = none) : (hidT h H).get? b = some o :=
  PySem.W.hideAll_get _ e fun hm => by
    have q : (H b).isSome = true := (List.mem_filter.mp hm).2
    rw [n] at q; simp at q
theorem of_hidT {h : Heap} {H : Hp} {b : Addr} {o : Obj} (e : (hidT h H).get? b = some o) : h.get? b = some o ∧ H b = none := by
  have e' : h.get? b = some o := PySem.W.of_hideAll (trk h H) e
  refine ⟨e', ?_⟩
  cases q : H b with
  | none => rfl
  | some x =>
    have hm : b ∈ trk h H := List.mem_filter.mpr ⟨List.mem_range.mpr (Heap.lt_size e'), by simp [q]⟩
    have z : (hidT h H).get? b = none := PySem.W.hideAll_none (trk h H) hm
    rw [z] at e; cases e

/-! ### OpenK's ledger, filled with every new object but one -/
end L2

namespace L2
open PySem PySem.Spec PyProof.Rows

/-- the module's facts, over the base: the heap at the law's entry without what is tracked there -/
structure Mod (K : PySem.W.Frag) (mg : Str → Option Value) (base : Heap) : Prop where
  kin : K.In base
  glob : base.Ns mainGlobals mg
  blt : ∃ mb, base.Ns builtinsNs mb ∧ ∀ x : Str, x ≠ "__name__" → mb x = bootBuiltins x
  nolimit : base.NoLimit

/-- the context: a def's body (or a comprehension's block) running. base: fixed through the whole law; s₀, H₀: the entry; outer: the frames whose slots others may change (a def's callers); stack: all frames that run;
   ex: iterators that were made ahead of the entry and are walked here (a comprehension's); fn: the names whose cells were made at the entry (a def: all; a comprehension's block: its own); calm: not within an except suite; pn: pins that every state bears; xe: what is wanted of an exception that leaves the code -/
structure Cx where
  prog : Program
  w : World
  K : PySem.W.Frag
  mg : Str → Option Value
  base : Heap
  A : Around
  N : List Str
  s₀ : Shared
  H₀ : Hp
  env : Env
  outer : List Env
  stack : List Env
  ex : List Addr
  fn : Str → Bool
  calm : Bool
  pn : List (Addr × Obj)
  xe : Value → Shared → Prop
/-- the callers' frames -/
def frs (l : List Env) : List Addr := l.filterMap (·.frame)
abbrev Cx.fs (X : Cx) : List Addr := frs X.outer

def Vis (sc : Scope) (x : Str) : Prop := sc.names.lookup x = some .local ∨ sc.names.lookup x = some .cell ∨ sc.names.lookup x = some .free
def Loc (sc : Scope) (x : Str) : Prop := sc.names.lookup x = some .local ∨ sc.names.lookup x = some .cell
def Look (env : Env) (h : Heap) (m : Str → Option Value) (x : Str) (u : Value) : Prop :=
  (env.kindOf x = some .local ∧ m x = some u) ∨ ((env.kindOf x = some .cell ∨ env.kindOf x = some .free) ∧ ∃ c, env.cells.lookup x = some c ∧ h.IsCell c (some u))

structure Cx.Ok (X : Cx) : Prop where
  mod : Mod X.K X.mg X.base
  kind : X.env.scope.kind = .function
  glob : X.env.globals = mainGlobals
  blt : X.env.builtins = builtinsNs
  above : X.s₀.heap.objs.size ≤ X.env.locals
  inj : ∀ x y c, X.env.cells.lookup x = some c → X.env.cells.lookup y = some c → x = y
  has : ∀ x, (X.env.kindOf x = some .cell ∨ X.env.kindOf x = some .free) → ∃ c, X.env.cells.lookup x = some c
  cab : ∀ x c, X.fn x = true → X.env.cells.lookup x = some c → X.s₀.heap.objs.size ≤ c
  hd : X.calm = true → X.A.handled = none
  frames : X.A.frames = some X.stack
  stk : X.stack = X.outer ∨ (X.stack = X.env :: X.outer ∧ X.env.frame = some X.env.locals)
  exf : ∀ b ∈ X.ex, b ≠ X.env.locals ∧ ∀ x c, X.env.cells.lookup x = some c → c ≠ b
  bs : ∀ b o, X.base.get? b = some o → X.s₀.heap.get? b = some o ∧ X.H₀ b = none
  bsz : X.base.objs.size ≤ X.s₀.heap.objs.size
  noex : ∀ b o, X.base.get? b = some o → b ∉ X.ex
  exfs : ∀ b ∈ X.ex, b ∉ X.fs
  funs : X.s₀.heap.FunFrames X.base X.outer
  frf : ∀ b ∈ X.fs, X.H₀ b = none

structure Inv (X : Cx) (pins : List (Addr × Obj)) (σ : List (Option V)) (H : Hp) (s : Shared) : Prop where
  ok : X.Ok
  os : s.os = X.s₀.os
  bare : AllBare s.gens
  base : Un X.fs X.ex X.H₀ H X.s₀.heap s.heap
  loc : ∃ m, s.heap.Ns X.env.locals m ∧ ∀ (i : Nat) (x : Str) (v : V), X.N[i]? = some x → σ[i]? = some (some v) → Vis X.env.scope x → ∃ u, RelV v u ∧ Look X.env s.heap m x u
  cell : ∀ x c, X.env.cells.lookup x = some c → ∃ v, s.heap.IsCell c v
  free : H X.env.locals = none
  freeC : ∀ x c, X.env.cells.lookup x = some c → H c = none
  pin : ∀ p ∈ X.pn ++ pins, s.heap.get? p.1 = some p.2 ∧ H p.1 = none ∧ p.1 ≠ X.env.locals ∧ p.1 ∉ X.fs ∧ ∀ v, p.2.data ≠ .cell v
  hok : HOk X.prog X.w H s.heap
  len : σ.length = X.N.length

section
variable {X : Cx} {pins : List (Addr × Obj)} {σ : List (Option V)} {H H' : Hp} {s : Shared} {h' : Heap}

theorem Cx.Ok.nofr (ok : X.Ok) {b : Addr} {o : Obj} (e : X.base.get? b = some o) : b ∉ X.fs := fun hb => by
  have := (ok.funs.mem hb).1
  rw [e] at this; cases this
theorem Inv.bs (I : Inv X pins σ H s) : ∀ b o, X.base.get? b = some o → s.heap.get? b = some o ∧ H b = none := fun b o e =>
  ⟨I.base.keep b o (I.ok.bs b o e).1 (I.ok.bs b o e).2 (I.ok.nofr e) (I.ok.noex b o e), I.base.free b o (I.ok.bs b o e).1 (I.ok.bs b o e).2 (I.ok.noex b o e)⟩
theorem Inv.bk (I : Inv X pins σ H s) : ∀ b o, X.base.get? b = some o → s.heap.get? b = some o := fun b o e => (I.bs b o e).1
theorem Inv.mod (I : Inv X pins σ H s) : Mod X.K X.mg X.base := I.ok.mod
theorem Inv.kIn (I : Inv X pins σ H s) : X.K.In s.heap := I.ok.mod.kin.keeps I.bk
theorem Inv.lt (I : Inv X pins σ H s) : X.env.locals < s.heap.objs.size := let ⟨_, hn, _⟩ := I.loc; hn.lt
theorem Inv.sz (I : Inv X pins σ H s) : X.s₀.heap.objs.size ≤ s.heap.objs.size := Nat.le_trans I.ok.above (Nat.le_of_lt I.lt)
theorem Inv.nofs (I : Inv X pins σ H s) {a : Addr} (h : s.heap.objs.size ≤ a) : a ∉ X.fs := fun hb => by
  obtain ⟨_, o, ho, _⟩ := I.ok.funs.mem hb
  exact absurd (Nat.lt_of_lt_of_le (Heap.lt_size ho) (Nat.le_trans I.sz h)) (Nat.lt_irrefl _)
theorem Inv.cne (I : Inv X pins σ H s) : ∀ x c, X.env.cells.lookup x = some c → c ≠ X.env.locals := fun x c e z => by
  obtain ⟨v, o, ho, hd⟩ := I.cell x c e
  obtain ⟨m, ⟨o', es, ep, ho', hd', _⟩, _⟩ := I.loc
  rw [z, ho'] at ho; cases ho; rw [hd'] at hd; cases hd
theorem Inv.funs (I : Inv X pins σ H s) : s.heap.FunFrames X.base X.outer := by
  have all : ∀ (l : List Env), (∀ b ∈ frs l, b ∈ X.fs) → X.s₀.heap.FunFrames X.base l → s.heap.FunFrames X.base l := by
    intro l
    induction l with
    | nil => intro _ _; trivial
    | cons env r ih =>
      intro hs hl
      obtain ⟨hk, ⟨L, o, hf, hn, ho, hd⟩, hr⟩ := hl
      have hL : L ∈ X.fs := hs L (by unfold frs; rw [List.filterMap_cons, hf]; exact List.mem_cons_self)
      obtain ⟨sl, e⟩ := I.base.slot L o ho (I.ok.frf L hL) hL fun z => I.ok.exfs L z hL
      exact ⟨hk, ⟨L, _, hf, hn, e, hd⟩, ih (fun b hb => hs b (by unfold frs; rw [List.filterMap_cons, hf]; exact List.mem_cons_of_mem _ hb)) hr⟩
  exact all X.outer (fun _ hb => hb) I.ok.funs

/-- the frames that run, for a call -/
theorem Inv.stack (I : Inv X pins σ H s) : s.heap.FunFrames X.base X.stack := by
  rcases I.ok.stk with e | ⟨e, hf⟩
  · rw [e]; exact I.funs
  · rw [e]
    obtain ⟨m, hn, _⟩ := I.loc
    refine .cons (by rw [I.ok.kind]; decide) hf hn ?_ I.funs
    exact Heap.get?_none_of_le (Nat.le_trans I.ok.bsz I.ok.above)
theorem Inv.stkSub (I : Inv X pins σ H s) : ∀ b ∈ frs X.stack, b ∈ X.env.locals :: X.fs := fun b hb => by
  rcases I.ok.stk with e | ⟨e, hf⟩
  · rw [e] at hb; exact List.mem_cons_of_mem _ hb
  · rw [e] at hb
    unfold frs at hb
    rw [List.filterMap_cons, hf] at hb
    exact hb
theorem Inv.stkFree (I : Inv X pins σ H s) : ∀ b ∈ frs X.stack, H b = none := fun b hb => by
  rcases List.mem_cons.mp (I.stkSub b hb) with e | hb
  · rw [e]; exact I.free
  · obtain ⟨_, o, ho, _⟩ := I.ok.funs.mem hb
    exact I.base.free b o ho (I.ok.frf b hb) fun z => I.ok.exfs b z hb

/-- THE STEP: the untracked objects but the frame and the records at ch are kept (the callers' frames up to slots), the frame's map is kept, the new abstract heap is held -/
theorem Inv.step {g' : Array GenState} {t' : Nat} {d' : Drawn} {ch : List Addr} (I : Inv X pins σ H s)
    (hch : ∀ b ∈ ch, (b ∈ X.ex ∨ X.s₀.heap.objs.size ≤ b) ∧ b ≠ X.env.locals ∧ (∀ x c, X.env.cells.lookup x = some c → c ≠ b) ∧ ∀ p ∈ X.pn ++ pins, p.1 ≠ b)
    (keep : ∀ b o, b ≠ X.env.locals → b ∉ X.fs → b ∉ ch → s.heap.get? b = some o → H b = none → h'.get? b = some o)
    (slot : ∀ b o, b ≠ X.env.locals → b ∈ X.fs → b ∉ ch → s.heap.get? b = some o → H b = none → ∃ sl, h'.get? b = some { o with slots := sl }) (free : ∀ b o, b ∉ ch → s.heap.get? b = some o → H b = none → H' b = none)
    (there : ∀ b o, b ∉ ch → s.heap.get? b = some o → ∃ o', h'.get? b = some o')
    (tups : ∀ b xs, H b = some (.tup xs) → H' b = some (.tup xs)) (frzs : ∀ b o u, H b = some (.frz o u) → H' b = some (.frz o u)) (tbls : ∀ b ps, H b = some (.tbl ps) → ∃ more, H' b = some (.tbl (ps ++ more)))
    (ns : ∀ m, s.heap.Ns X.env.locals m → h'.Ns X.env.locals m) (hok : HOk X.prog X.w H' h') (hg : AllBare g') :
    Inv X pins σ H' { s with heap := h', gens := g', drawn := d', toks := t' } := by
  have neL : ∀ b o, X.s₀.heap.get? b = some o → b ≠ X.env.locals := fun b o e => Nat.ne_of_lt (Nat.lt_of_lt_of_le (Heap.lt_size e) I.ok.above)
  have neC : ∀ b o, X.s₀.heap.get? b = some o → b ∉ X.ex → b ∉ ch := fun b o e hx hb => by
    rcases (hch b hb).1 with z | z
    · exact hx z
    · exact absurd (Nat.lt_of_lt_of_le (Heap.lt_size e) z) (Nat.lt_irrefl _)
  have cellK : ∀ x c, X.env.cells.lookup x = some c → ∀ v, s.heap.IsCell c v → h'.IsCell c v := fun x c e v ⟨o, ho, hd⟩ => by
    have nch : c ∉ ch := fun z => (hch c z).2.2.1 x c e rfl
    by_cases hc : c ∈ X.fs
    · obtain ⟨sl, q⟩ := slot c o (I.cne x c e) hc nch ho (I.freeC x c e)
      exact ⟨_, q, hd⟩
    · exact ⟨o, keep c o (I.cne x c e) hc nch ho (I.freeC x c e), hd⟩
  refine ⟨I.ok, I.os, hg, ⟨fun b o e n hb hx => ?_, fun b o e n hb hx => ?_, fun b o e n hx => ?_, fun b o e hx => ?_, fun b xs e => tups b xs (I.base.tups b xs e), fun b o xs e => frzs b o xs (I.base.frzs b o xs e), fun b ps e => ?_⟩, ?_, fun x c e => ?_, ?_, fun x c e => ?_, fun p hp => ?_, hok, I.len⟩
  · exact keep b o (neL b o e) hb (neC b o e hx) (I.base.keep b o e n hb hx) (I.base.free b o e n hx)
  · obtain ⟨sl, e1⟩ := I.base.slot b o e n hb hx
    obtain ⟨sl', e2⟩ := slot b _ (neL b o e) hb (neC b o e hx) e1 (I.base.free b o e n hx)
    exact ⟨sl', e2⟩
  · obtain ⟨o', e1⟩ := I.base.there b o e hx
    exact free b o' (neC b o e hx) e1 (I.base.free b o e n hx)
  · obtain ⟨o', e1⟩ := I.base.there b o e hx
    exact there b o' (neC b o e hx) e1
  · obtain ⟨m1, e1⟩ := I.base.tbls b ps e
    obtain ⟨m2, e2⟩ := tbls b _ e1
    exact ⟨m1 ++ m2, by rw [e2, Array.append_assoc]⟩
  · obtain ⟨m, hn, hl⟩ := I.loc
    refine ⟨m, ns m hn, fun i x v e1 e2 e3 => ?_⟩
    obtain ⟨u, r, l⟩ := hl i x v e1 e2 e3
    refine ⟨u, r, ?_⟩
    rcases l with l | ⟨k, c, e, z⟩
    · exact .inl l
    · exact .inr ⟨k, c, e, cellK x c e _ z⟩
  · obtain ⟨v, z⟩ := I.cell x c e
    exact ⟨v, cellK x c e v z⟩
  · obtain ⟨m, ⟨o, _, _, ho, _⟩, _⟩ := I.loc
    exact free _ o (fun z => (hch _ z).2.1 rfl) ho I.free
  · obtain ⟨v, o, ho, hd⟩ := I.cell x c e
    exact free c o (fun z => (hch c z).2.2.1 x c e rfl) ho (I.freeC x c e)
  · obtain ⟨e, n, ne, nf, d⟩ := I.pin p hp
    have nch : p.1 ∉ ch := fun z => (hch p.1 z).2.2.2 p hp rfl
    exact ⟨keep p.1 p.2 ne nf nch e n, free p.1 p.2 nch e n, ne, nf, d⟩
/-- .. where the frame's own object is kept too -/
theorem Inv.un {t' : Nat} (I : Inv X pins σ H s) (u : Un X.fs [] H H' s.heap h') (hok : HOk X.prog X.w H' h') : Inv X pins σ H' { s with heap := h', toks := t' } := by
  obtain ⟨m, ⟨o, es, ep, ho, r⟩, _⟩ := id I.loc
  obtain ⟨sl, hL⟩ := u.any ho I.free (by simp)
  exact I.step (g' := s.gens) (d' := s.drawn) (ch := []) (fun _ z => nomatch z) (fun b o _ hb _ e n => u.keep b o e n hb (by simp)) (fun b o _ hb _ e n => u.slot b o e n hb (by simp)) (fun b o _ e n => u.free b o e n (by simp)) (fun b o _ e => u.there b o e (by simp)) u.tups u.frzs u.tbls (fun m' hm => by
    obtain ⟨o', es', ep', ho', r'⟩ := hm
    rw [ho] at ho'; cases ho'
    exact ⟨_, es', ep', hL, r'⟩) hok I.bare
/-- behind a call (or a comprehension's block): the slots of this frame may have changed too, the records at ch may have turned -/
theorem Inv.call {g' : Array GenState} {t' : Nat} {d' : Drawn} {ch : List Addr} (I : Inv X pins σ H s) (u : Un (frs X.stack) ch H H' s.heap h') (hok : HOk X.prog X.w H' h') (hg : AllBare g')
    (hch : ∀ b ∈ ch, (b ∈ X.ex ∨ X.s₀.heap.objs.size ≤ b) ∧ b ≠ X.env.locals ∧ (∀ x c, X.env.cells.lookup x = some c → c ≠ b) ∧ ∀ p ∈ X.pn ++ pins, p.1 ≠ b) :
    Inv X pins σ H' { s with heap := h', gens := g', drawn := d', toks := t' } := by
  obtain ⟨m, ⟨o, es, ep, ho, r⟩, _⟩ := id I.loc
  obtain ⟨sl, hL⟩ := u.any ho I.free fun z => (hch _ z).2.1 rfl
  exact I.step (ch := ch) hch (fun b o hL hb hc e n => u.keep b o e n (fun z => (List.mem_cons.mp (I.stkSub b z)).elim hL hb) hc) (fun b o _ _ hc e n => u.any e n hc) (fun b o hc e n => u.free b o e n hc) (fun b o hc e => u.there b o e hc) u.tups u.frzs u.tbls (fun m' hm => by
    obtain ⟨o', es', ep', ho', r'⟩ := hm
    rw [ho] at ho'; cases ho'
    exact ⟨_, es', ep', hL, r'⟩) hok hg
/-- an untracked record of ours (an iterator) has turned -/
theorem Inv.turned {t' : Nat} {it : Addr} (I : Inv X pins σ H s) (k : ∀ b o, b ≠ it → s.heap.get? b = some o → h'.get? b = some o) (hn : H it = none) (hL : it ≠ X.env.locals)
    (h1 : it ∈ X.ex ∨ X.s₀.heap.objs.size ≤ it) (h2 : ∀ x c, X.env.cells.lookup x = some c → c ≠ it) (h3 : ∀ p ∈ X.pn ++ pins, p.1 ≠ it) : Inv X pins σ H { s with heap := h', toks := t' } := by
  have nit : ∀ b u, H b = some u → b ≠ it := fun b u e z => by rw [z, hn] at e; cases e
  refine I.step (g' := s.gens) (d' := s.drawn) (ch := [it]) (fun b hb => ?_) (fun b o _ _ hc e _ => k b o (fun z => hc (by simp [z])) e) (fun b o _ _ hc e _ => ⟨o.slots, k b o (fun z => hc (by simp [z])) e⟩) (fun _ _ _ _ n => n)
    (fun b o hc e => ⟨o, k b o (fun z => hc (by simp [z])) e⟩) (fun _ _ e => e) (fun _ _ _ e => e) (fun b ps e => ⟨#[], by rw [e]; simp⟩) (fun m hm => ?_) (fun b u e => ?_) I.bare
  · have e : b = it := by simpa using hb
    subst e
    exact ⟨h1, hL, h2, h3⟩
  · obtain ⟨o, es, ep, ho, r⟩ := hm
    exact ⟨o, es, ep, k _ o (Ne.symm hL) ho, r⟩
  · refine (I.hok b u e).stay (fun c v hc q => k c v ?_ q) (fun _ q => q) fun _ _ q => q
    rcases hc with z | z
    · rw [z]; exact nit b u e
    · exact nit c _ z
theorem Inv.tok (I : Inv X pins σ H s) (t : Nat) : Inv X pins σ H { s with toks := t } := I.un (h' := s.heap) (t' := t) Un.refl I.hok
/-- all objects kept -/
theorem Inv.kept {t' : Nat} (I : Inv X pins σ H s) (k : ∀ b u, s.heap.get? b = some u → h'.get? b = some u) : Inv X pins σ H { s with heap := h', toks := t' } := I.un (Un.kept k) (I.hok.kept k)
/-- a new object laid and tracked -/
theorem Inv.laid {a : Addr} {o : HO} {t' : Nat} (I : Inv X pins σ H s) (k : ∀ b u, s.heap.get? b = some u → h'.get? b = some u) (hp : s.heap.objs.size ≤ a) (new : ObjOk X.prog X.w (upd H a o) h' a o) :
    Inv X pins σ (upd H a o) { s with heap := h', toks := t' } := I.un (Un.laid k hp (I.hok.fresh hp)) (I.hok.laid k hp new)
/-- an object written -/
theorem Inv.write {x e : Addr} {o : HO} {t' : Nat} (I : Inv X pins σ H s) (mu : Mut (H x)) (he : e = x ∨ H e = some (.own x)) (k : ∀ b u, b ≠ e → s.heap.get? b = some u → h'.get? b = some u) (heo : ∃ u, h'.get? e = some u)
    (new : ObjOk X.prog X.w (upd H x o) h' x o) : Inv X pins σ (upd H x o) { s with heap := h', toks := t' } := I.un (Un.write mu he k heo) (I.hok.write mu he k heo new)
/-- forgetting slots, pins -/
theorem Inv.weak {σ' : List (Option V)} (I : Inv X pins σ H s) (hl : σ'.length = σ.length) (w : ∀ (i : Nat) v, σ'[i]? = some (some v) → σ[i]? = some (some v)) : Inv X pins σ' H s :=
  ⟨I.ok, I.os, I.bare, I.base, let ⟨m, hn, hl'⟩ := I.loc; ⟨m, hn, fun i x v e1 e2 e3 => hl' i x v e1 (w i v e2) e3⟩, I.cell, I.free, I.freeC, I.pin, I.hok, hl.trans I.len⟩
theorem Inv.pins_of {pins' : List (Addr × Obj)} (I : Inv X pins σ H s) (h : ∀ p ∈ pins', s.heap.get? p.1 = some p.2 ∧ H p.1 = none ∧ p.1 ≠ X.env.locals ∧ p.1 ∉ X.fs ∧ ∀ v, p.2.data ≠ .cell v) : Inv X pins' σ H s :=
  ⟨I.ok, I.os, I.bare, I.base, I.loc, I.cell, I.free, I.freeC, fun p hp => (List.mem_append.mp hp).elim (fun z => I.pin p (List.mem_append_left _ z)) (h p), I.hok, I.len⟩

theorem nodup_ix {N : List Str} (hN : N.Nodup) {i j : Nat} {x : Str} (a : N[i]? = some x) (b : N[j]? = some x) : i = j := by
  obtain ⟨h1, e1⟩ := List.getElem?_eq_some_iff.mp a
  obtain ⟨h2, e2⟩ := List.getElem?_eq_some_iff.mp b
  exact (List.getElem_inj hN).mp (e1.trans e2.symm)

/-- a name is stored; what changed -/
theorem store_ok2 {M : Model} {A : Around} {E : Value → Shared → Prop} {i : Nat} {x : Str} {v : V} {u : Value} {Q : Unit → Shared → Prop} (I : Inv X pins σ H s) (hN : X.N.Nodup) (hi : X.N[i]? = some x) (hx : Loc X.env.scope x) (r : RelV v u)
    (h : ∀ s', Inv X pins (σ.set i (some v)) H s' → (∃ a, Heap.SameBut a s.heap s'.heap ∧ (a = X.env.locals ∨ X.env.cells.lookup x = some a)) → Q () s') (hf : X.fn x = true ∨ X.env.scope.names.lookup x = some .local := by first | exact .inl rfl | exact .inr rfl | assumption) : wpAny M A (storeName X.env x u) Q E s := by
  obtain ⟨m, hn, hl⟩ := id I.loc
  have hcls : (X.env.scope.kind == .class || (X.env.scope.kind == .module && X.env.locals != X.env.globals)) = false := by rw [I.ok.kind]; rfl
  have hiσ : i < σ.length := by rw [I.len]; exact (List.getElem?_eq_some_iff.mp hi).1
  have cne := I.cne
  have tracked : ∀ {a : Addr} {h' : Heap}, (∃ o, s.heap.get? a = some o ∧ H a = none) → Heap.SameBut a s.heap h' → HOk X.prog X.w H h' := fun {a h'} ha hs b ob e => by
    obtain ⟨_, _, hfree⟩ := ha
    refine (I.hok b ob e).stay (fun c w' hc q => (hs.2 c ?_).trans q) (fun _ q => q) fun _ _ q => q
    rintro rfl
    rcases hc with rfl | hc
    · rw [hfree] at e; cases e
    · rw [hfree] at hc; cases hc
  rcases hx with hk | hk
  · refine wpAny_storeName_local hk hn (fun h' hn' hs => ?_) hcls
    obtain ⟨oL, _, _, hoL, _⟩ := id hn
    refine h _ ⟨I.ok, I.os, I.bare, ⟨fun b o e n hb hx => ?_, fun b o e n hb hx => ?_, I.base.free, fun b o e hx => ?_, I.base.tups, I.base.frzs, I.base.tbls⟩, ⟨_, hn', fun j y v' e1 e2 e3 => ?_⟩, fun y c e => ?_, I.free, I.freeC, fun p hp => ?_, tracked ⟨oL, hoL, I.free⟩ hs, by simpa using I.len⟩ ⟨_, hs, .inl rfl⟩
    · exact (hs.2 b (Nat.ne_of_lt (Nat.lt_of_lt_of_le (Heap.lt_size e) I.ok.above))).trans (I.base.keep b o e n hb hx)
    · obtain ⟨sl, e1⟩ := I.base.slot b o e n hb hx
      exact ⟨sl, (hs.2 b (Nat.ne_of_lt (Nat.lt_of_lt_of_le (Heap.lt_size e) I.ok.above))).trans e1⟩
    · obtain ⟨o', e1⟩ := I.base.there b o e hx
      exact ⟨o', (hs.2 b (Nat.ne_of_lt (Nat.lt_of_lt_of_le (Heap.lt_size e) I.ok.above))).trans e1⟩
    · by_cases hj : j = i
      · subst hj
        rw [hi] at e1; cases e1
        rw [List.getElem?_set_self hiσ] at e2
        cases e2
        exact ⟨u, r, .inl ⟨hk, by simp⟩⟩
      · rw [List.getElem?_set_ne (Ne.symm hj)] at e2
        obtain ⟨u', r', q⟩ := hl j y v' e1 e2 e3
        refine ⟨u', r', ?_⟩
        rcases q with ⟨k, e⟩ | ⟨k, c, e, z⟩
        · refine .inl ⟨k, ?_⟩
          have : y ≠ x := fun e => hj (nodup_ix hN e1 (e ▸ hi))
          simp [this, e]
        · exact .inr ⟨k, c, e, z.sameBut hs (cne y c e)⟩
    · obtain ⟨w', z⟩ := I.cell y c e
      exact ⟨w', z.sameBut hs (cne y c e)⟩
    · obtain ⟨e, n, ne, nf, d⟩ := I.pin p hp
      exact ⟨(hs.2 p.1 ne).trans e, n, ne, nf, d⟩
  · have hfn : X.fn x = true := by
      rcases hf with z | z
      · exact z
      · rw [z] at hk; cases hk
    obtain ⟨c, hc⟩ := I.ok.has x (.inl hk)
    obtain ⟨w', z⟩ := I.cell x c hc
    refine wpAny_storeName_cell I.ok.kind hk hc z (fun h' hc' hs => ?_)
    obtain ⟨oc, hoc, hocd⟩ := id z
    refine h { s with heap := h' } ⟨I.ok, I.os, I.bare, ⟨fun b o e n hb hx => ?_, fun b o e n hb hx => ?_, I.base.free, fun b o e hx => ?_, I.base.tups, I.base.frzs, I.base.tbls⟩, ⟨m, hn.sameBut hs (Ne.symm (cne x c hc)), fun j y v' e1 e2 e3 => ?_⟩, fun y c' e => ?_, I.free, I.freeC, fun p hp => ?_, tracked ⟨oc, hoc, I.freeC x c hc⟩ hs, by simpa using I.len⟩ ⟨c, hs, .inr hc⟩
    · exact (hs.2 b (Nat.ne_of_lt (Nat.lt_of_lt_of_le (Heap.lt_size e) (I.ok.cab x c hfn hc)))).trans (I.base.keep b o e n hb hx)
    · obtain ⟨sl, e1⟩ := I.base.slot b o e n hb hx
      exact ⟨sl, (hs.2 b (Nat.ne_of_lt (Nat.lt_of_lt_of_le (Heap.lt_size e) (I.ok.cab x c hfn hc)))).trans e1⟩
    · obtain ⟨o', e1⟩ := I.base.there b o e hx
      exact ⟨o', (hs.2 b (Nat.ne_of_lt (Nat.lt_of_lt_of_le (Heap.lt_size e) (I.ok.cab x c hfn hc)))).trans e1⟩
    · by_cases hj : j = i
      · subst hj
        rw [hi] at e1; cases e1
        rw [List.getElem?_set_self hiσ] at e2
        cases e2
        exact ⟨u, r, .inr ⟨.inl hk, c, hc, hc'⟩⟩
      · rw [List.getElem?_set_ne (Ne.symm hj)] at e2
        obtain ⟨u', r', q⟩ := hl j y v' e1 e2 e3
        refine ⟨u', r', ?_⟩
        rcases q with q | ⟨k, c', e, z'⟩
        · exact .inl q
        · refine .inr ⟨k, c', e, z'.sameBut hs ?_⟩
          rintro rfl
          exact hj (nodup_ix hN e1 (I.ok.inj _ _ _ e hc ▸ hi))
    · by_cases hcc : c' = c
      · subst hcc; exact ⟨_, hc'⟩
      · obtain ⟨w2, z2⟩ := I.cell y c' e
        exact ⟨w2, z2.sameBut hs hcc⟩
    · obtain ⟨e, n, ne, nf, d⟩ := I.pin p hp
      refine ⟨(hs.2 p.1 ?_).trans e, n, ne, nf, d⟩
      intro q
      rw [q, hoc] at e
      have q' : oc = p.2 := Option.some.inj e
      exact d w' (by rw [← q']; exact hocd)
theorem store_ok {M : Model} {A : Around} {E : Value → Shared → Prop} {i : Nat} {x : Str} {v : V} {u : Value} {Q : Unit → Shared → Prop} (I : Inv X pins σ H s) (hN : X.N.Nodup) (hi : X.N[i]? = some x) (hx : Loc X.env.scope x) (r : RelV v u)
    (h : ∀ s', Inv X pins (σ.set i (some v)) H s' → Q () s') (hf : X.fn x = true ∨ X.env.scope.names.lookup x = some .local := by first | exact .inl rfl | exact .inr rfl | assumption) : wpAny M A (storeName X.env x u) Q E s :=
  store_ok2 I hN hi hx r (fun s' I' _ => h s' I') hf
/-- behind a call or a block, the state as it is -/
theorem Inv.call' {s' : Shared} {ch : List Addr} (I : Inv X pins σ H s) (ho : s'.os = s.os) (u : Un (frs X.stack) ch H H' s.heap s'.heap) (hok : HOk X.prog X.w H' s'.heap) (hg : AllBare s'.gens)
    (hch : ∀ b ∈ ch, (b ∈ X.ex ∨ X.s₀.heap.objs.size ≤ b) ∧ b ≠ X.env.locals ∧ (∀ x c, X.env.cells.lookup x = some c → c ≠ b) ∧ ∀ p ∈ X.pn ++ pins, p.1 ≠ b) : Inv X pins σ H' s' := by
  obtain ⟨h', g', d', t', o'⟩ := s'
  have e : o' = s.os := ho
  subst e
  exact I.call (g' := g') (t' := t') (d' := d') u hok hg hch
end

/-! ### the judgements -/
/-- an exception: its class, its own dict's address (where it has one), the abstract heap behind it -/
abbrev XK := Value → Option Addr → Hp → Prop
abbrev St := List (Option V)
abbrev VK := V → Hp → Prop
/-- an expression's reading; a test's; an argument list's -/
abbrev TE := St → Hp → VK → Prop
abbrev TT := St → Hp → (Bool → Hp → Prop) → Prop
abbrev TA := St → Hp → (List V → Hp → Prop) → Prop
/-- what is wanted behind a statement -/
structure Ends where
  nx : St → Hp → Prop
  rt : VK
  bk : St → Hp → Prop := fun _ _ => False
  ct : St → Hp → Prop := fun _ _ => False
abbrev TS := Ends → St → Hp → Prop

def EP (X : Cx) (pins : List (Addr × Obj)) (σ : St) (Q : VK) (u : Value) (s' : Shared) : Prop := ∃ v H', Inv X pins σ H' s' ∧ RelV v u ∧ Q v H'
def TP (X : Cx) (pins : List (Addr × Obj)) (σ : St) (Q : Bool → Hp → Prop) (b : Bool) (s' : Shared) : Prop := ∃ H', Inv X pins σ H' s' ∧ Q b H'
def AP (X : Cx) (pins : List (Addr × Obj)) (σ : St) (Q : List V → Hp → Prop) (us : List Value) (s' : Shared) : Prop := ∃ vs H', Inv X pins σ H' s' ∧ Vals vs us ∧ Q vs H'
def SP (X : Cx) (pins : List (Addr × Obj)) (D : Ends) (f : Flow) (s' : Shared) : Prop :=
  match f with
  | .next => ∃ σ' H', Inv X pins σ' H' s' ∧ D.nx σ' H'
  | .brk => ∃ σ' H', Inv X pins σ' H' s' ∧ D.bk σ' H'
  | .cont => ∃ σ' H', Inv X pins σ' H' s' ∧ D.ct σ' H'
  | .ret u => ∃ v σ' H', Inv X pins σ' H' s' ∧ RelV v u ∧ D.rt v H'

def PE (X : Cx) (e : Expr) (t : TE) : Prop :=
  ∀ (pins : List (Addr × Obj)) (s : Shared) (σ : St) (H : Hp) (Q : VK), Inv X pins σ H s → t σ H Q → wpAny (model X.prog X.w) X.A (eval e X.env) (EP X pins σ Q) X.xe s
def PT (X : Cx) (e : Expr) (t : TT) : Prop :=
  ∀ (pins : List (Addr × Obj)) (s : Shared) (σ : St) (H : Hp) (Q : Bool → Hp → Prop), Inv X pins σ H s → t σ H Q → wpAny (model X.prog X.w) X.A (isTrue e X.env (eval e X.env)) (TP X pins σ Q) X.xe s
/-- a test whatever its 'whole' is (and, or) -/
def PW (X : Cx) (e : Expr) (t : TT) : Prop :=
  ∀ (whole : Sem Value) (pins : List (Addr × Obj)) (s : Shared) (σ : St) (H : Hp) (Q : Bool → Hp → Prop), Inv X pins σ H s → t σ H Q → wpAny (model X.prog X.w) X.A (isTrue e X.env whole) (TP X pins σ Q) X.xe s
theorem PW.pt {X : Cx} {e : Expr} {t : TT} (h : PW X e t) : PT X e t := h _
/-- an argument list (no star), from the left -/
def PA (X : Cx) (es : List Expr) (t : TA) : Prop :=
  ∀ (pos : Pos) (pins : List (Addr × Obj)) (s : Shared) (σ : St) (H : Hp) (Q : List V → Hp → Prop), Inv X pins σ H s → t σ H Q → wpAny (model X.prog X.w) X.A (spliced (backTo pos (starEach es X.env))) (AP X pins σ Q) X.xe s
def PS (X : Cx) (st : Stmt) (t : TS) : Prop :=
  ∀ (pins : List (Addr × Obj)) (s : Shared) (σ : St) (H : Hp) (D : Ends), Inv X pins σ H s → t D σ H → wpAny (model X.prog X.w) X.A (exec st X.env) (SP X pins D) X.xe s
def PSs (X : Cx) (st : List Stmt) (t : TS) : Prop :=
  ∀ (pins : List (Addr × Obj)) (s : Shared) (σ : St) (H : Hp) (D : Ends), Inv X pins σ H s → t D σ H → wpAny (model X.prog X.w) X.A (execs st X.env) (SP X pins D) X.xe s
/-- weaken the end -/
theorem thn {α : Type} {t : Sem α} {Q Q' : α → Shared → Prop} {M : Model} {A : Around} {E : Value → Shared → Prop} {s : Shared} (h : wpAny M A t Q E s) (hQ : ∀ a s, Q a s → Q' a s) : wpAny M A t Q' E s := wpAny_mono h hQ fun _ _ x => x
end L2

namespace L2
open PySem PySem.Spec PyProof.Rows
section
variable {X : Cx}


/-! ### names and constants -/
def tVar (i : Nat) : TE := fun σ H Q => ∃ v, σ[i]? = some (some v) ∧ Q v H
def tC (v : V) : TE := fun _ H Q => Q v H
theorem pe_var {i : Nat} {x : Str} {pos : Pos} (hN : X.N[i]? = some x) (hv : Vis X.env.scope x) (hd : (x == ("__debug__" : Str)) = false := by decide) (hcd : (x == ("__classdict__" : Str)) = false := by decide) : PE X (.Name x pos) (tVar i) := by
  intro pins s σ H Q I h
  obtain ⟨v, e, h⟩ := h
  obtain ⟨m, hn, hl⟩ := I.loc
  obtain ⟨u, r, l⟩ := hl i x v hN e hv
  have fin : EP X pins σ Q u s := ⟨v, H, I, r, h⟩
  rcases l with ⟨hk, hm⟩ | ⟨hk, c, hc, hcell⟩
  · exact wpAny_Name (wpAny_loadName_local I.ok.kind hk hn hm fin) hd
  · rcases hk with hk | hk
    · exact wpAny_Name (wpAny_loadName_cell I.ok.kind hk hc hcell fin) hd
    · exact wpAny_Name (wpAny_loadName_free I.ok.kind hk hc hcell fin hcd) hd
theorem pe_int {i j pos} : PE X (.Constant (.int i) j pos) (tC (.int i)) := fun _ _ _ H _ I h => wpAny_Constant_int ⟨.int i, H, I.tok _, ⟨_, rfl⟩, h⟩
theorem pe_bl {b j pos} : PE X (.Constant (.bool b) j pos) (tC (.bl b)) := fun _ _ _ H _ I h => Constant_bool ⟨.bl b, H, I, rfl, h⟩
theorem pe_non {j pos} : PE X (.Constant .none j pos) (tC .non) := fun _ _ _ H _ I h => Constant_none ⟨.non, H, I, rfl, h⟩
theorem pe_str {x j pos} : PE X (.Constant (.str x) j pos) (tC (.str x)) := fun _ _ _ H _ I h => Calls.Constant_str ⟨.str x, H, I.tok _, ⟨_, rfl⟩, h⟩

/-- a global name of the def -/
def Gl (X : Cx) (x : Str) : Prop := X.env.kindOf x = some .globalImplicit
theorem ld_glob {E : Value → Shared → Prop} {pins : List (Addr × Obj)} {s : Shared} {σ : St} {H : Hp} {x : Str} {u : Value} {pos : Pos} {Q : Value → Shared → Prop} (I : Inv X pins σ H s) (hg : Gl X x) (hm : X.mg x = some u) (h : Q u s)
    (hd : (x == ("__debug__" : Str)) = false := by decide) : wpAny (model X.prog X.w) X.A (eval (.Name x pos) X.env) Q E s :=
  Calls.Name_function_global I.ok.kind hg (Calls.loadGlobal_global (by rw [I.ok.glob]; exact I.mod.glob.keeps I.bk) hm h) hd
theorem ld_blt {E : Value → Shared → Prop} {pins : List (Addr × Obj)} {s : Shared} {σ : St} {H : Hp} {x : Str} {u : Value} {pos : Pos} {Q : Value → Shared → Prop} (I : Inv X pins σ H s) (hg : Gl X x) (hm : X.mg x = none) (hv : bootBuiltins x = some u) (h : Q u s)
    (hn : x ≠ "__name__" := by decide) (hd : (x == ("__debug__" : Str)) = false := by decide) : wpAny (model X.prog X.w) X.A (eval (.Name x pos) X.env) Q E s := by
  obtain ⟨mb, h1, h2⟩ := I.mod.blt
  exact Calls.Name_function_global I.ok.kind hg (Calls.loadGlobal_builtin (by rw [I.ok.glob]; exact I.mod.glob.keeps I.bk) hm (by rw [I.ok.blt]; exact h1.keeps I.bk) ((h2 x hn).trans hv) h) hd
/-- a module's constant, a class, a function, as a value -/
theorem pe_glob {x : Str} {v : V} {u : Value} {pos : Pos} (hg : Gl X x) (hm : X.mg x = some u) (r : RelV v u) (hd : (x == ("__debug__" : Str)) = false := by decide) : PE X (.Name x pos) (tC v) :=
  fun _ _ _ H _ I h => ld_glob I hg hm ⟨v, H, I, r, h⟩ hd
theorem pe_bltn {x : Str} {v : V} {u : Value} {pos : Pos} (hg : Gl X x) (hm : X.mg x = none) (hv : bootBuiltins x = some u) (r : RelV v u) (hn : x ≠ "__name__" := by decide) (hd : (x == ("__debug__" : Str)) = false := by decide) : PE X (.Name x pos) (tC v) :=
  fun _ _ _ H _ I h => ld_blt I hg hm hv ⟨v, H, I, r, h⟩ hn hd

/-! ### arithmetic -/
variable {a b : Expr} {ta tb : TE} {pos : Pos}

/-! ### comparisons -/
/-- a comparison as a value, as a test -/
def tB (t : TE) : TT := fun σ H Q => t σ H fun x H1 => ∃ c, x = .bl c ∧ Q c H1
/-- an expression whose value is a bool, as a test -/
theorem pt_val {e : Expr} {t : TE} (h : PE X e t) (he : ∀ whole, isTrue e X.env whole = (do let v ← whole; standAt e.pos; holding [v] (truthy v)) := by intro _; rfl) : PT X e (tB t) := by
  intro pins s σ H Q I hw
  refine isTrue_plain (thn (h pins s σ H _ I hw) fun v s1 ⟨x, H1, I1, r1, q1⟩ => ?_) (he _)
  obtain ⟨d, rfl, q⟩ := q1
  cases r1
  exact wpAny_truthy_bool ⟨H1, I1, q⟩

/-! ### and, or, not -/
variable {tA tB' : TT} {rest : List Expr}
def tAnd (t u : TT) : TT := fun σ H Q => t σ H fun c H1 => if c = true then u σ H1 Q else Q false H1
def tOr (t u : TT) : TT := fun σ H Q => t σ H fun c H1 => if c = true then Q true H1 else u σ H1 Q
def tNot (t : TT) : TT := fun σ H Q => t σ H fun c H1 => Q (!c) H1
theorem pw_and1 (ha : PT X a tA) : PW X (.BoolOp .And [a] pos) tA := by
  intro wh pins s σ H Q I h
  refine isTrue_and (thn (ha pins s σ H Q I h) fun c s1 e => ?_)
  cases c with
  | true => exact isTrue_and_nil e
  | false => exact e
theorem pw_or1 (ha : PT X a tA) : PW X (.BoolOp .Or [a] pos) tA := by
  intro wh pins s σ H Q I h
  refine isTrue_or (thn (ha pins s σ H Q I h) fun c s1 e => ?_)
  cases c with
  | false => exact isTrue_or_nil e
  | true => exact e
theorem pw_and (ha : PT X a tA) (hb : PW X (.BoolOp .And (b :: rest) pos) tB') : PW X (.BoolOp .And (a :: b :: rest) pos) (tAnd tA tB') := by
  intro wh pins s σ H Q I h
  refine isTrue_and (thn (ha pins s σ H _ I h) fun c s1 ⟨H1, I1, q1⟩ => ?_)
  cases c with
  | true => exact hb wh pins s1 σ H1 Q I1 q1
  | false => exact ⟨H1, I1, q1⟩
theorem pw_or (ha : PT X a tA) (hb : PW X (.BoolOp .Or (b :: rest) pos) tB') : PW X (.BoolOp .Or (a :: b :: rest) pos) (tOr tA tB') := by
  intro wh pins s σ H Q I h
  refine isTrue_or (thn (ha pins s σ H _ I h) fun c s1 ⟨H1, I1, q1⟩ => ?_)
  cases c with
  | true => exact ⟨H1, I1, q1⟩
  | false => exact hb wh pins s1 σ H1 Q I1 q1
theorem pt_not (ha : PT X a tA) : PT X (.UnaryOp .Not a pos) (tNot tA) := by
  intro pins s σ H Q I h
  exact isTrue_not (ha pins s σ H (fun c H1 => Q (!c) H1) I h)
/-- .. as values (bools) -/
def tAndV (ta tb : TE) : TE := fun σ H Q => ta σ H fun x H1 => ∃ c, x = .bl c ∧ if c = true then tb σ H1 Q else Q (.bl false) H1
def tNotV (ta : TE) : TE := fun σ H Q => ta σ H fun x H1 => ∃ c, x = .bl c ∧ Q (.bl (!c)) H1
theorem pe_one {op} {t : TE} (h : PE X a t) : PE X (.BoolOp op [a] pos) t := fun pins s σ H Q I hw => BoolOp_one (h pins s σ H Q I hw)
theorem pe_and (ha : PE X a ta) (hb : PE X (.BoolOp .And (b :: rest) pos) tb) : PE X (.BoolOp .And (a :: b :: rest) pos) (tAndV ta tb) := by
  intro pins s σ H Q I h
  refine BoolOp_and (thn (ha pins s σ H _ I h) fun v s1 ⟨x, H1, I1, r1, q1⟩ => ?_)
  obtain ⟨c, rfl, q1⟩ := q1
  cases r1
  refine wpAny_truthy_bool ?_
  cases c with
  | true => exact hb pins s1 σ H1 Q I1 q1
  | false => exact ⟨.bl false, H1, I1, rfl, q1⟩
theorem pe_not (ha : PE X a ta) : PE X (.UnaryOp .Not a pos) (tNotV ta) := by
  intro pins s σ H Q I h
  refine UnaryOp_ (thn (ha pins s σ H _ I h) fun v s1 ⟨x, H1, I1, r1, q1⟩ => ?_)
  obtain ⟨c, rfl, q1⟩ := q1
  cases r1
  exact not_of (wpAny_truthy_bool ⟨.bl (!c), H1, I1, rfl, q1⟩)
/-- a if t else b -/
def tIf (t : TT) (ta tb : TE) : TE := fun σ H Q => t σ H fun c H1 => if c = true then ta σ H1 Q else tb σ H1 Q
theorem pe_ifExp {c : Expr} (hc : PT X c tA) (ha : PE X a ta) (hb : PE X b tb) : PE X (.IfExp c a b pos) (tIf tA ta tb) := by
  intro pins s σ H Q I h
  refine wpAny_IfExp (thn (hc pins s σ H _ I h) fun d s1 ⟨H1, I1, q1⟩ => ?_)
  cases d with
  | true => exact ha pins s1 σ H1 Q I1 q1
  | false => exact hb pins s1 σ H1 Q I1 q1
end
end L2

namespace L2
open PySem PySem.Spec PyProof.Rows

/-! ### a list, a tuple that is read: tracked, frozen, or an object of the module -/
def SqL (K : PySem.W.Frag) (H : Hp) (a : Addr) (xs : List V) : Prop :=
  Rd H a (.lst xs) ∨
    ∃ (o : Obj) (its : Array Value) (n : Nat), K.lookup a = some o ∧ o.cls = .type "list" ∧ o.dict = none ∧ o.data = .seq its n ∧ its.size ≤ sizeLine ∧ Vals xs its.toList
def SqT (K : PySem.W.Frag) (H : Hp) (a : Addr) (xs : List V) : Prop :=
  Rd H a (.tup xs) ∨
    ∃ (o : Obj) (its : Array Value) (n : Nat), K.lookup a = some o ∧ o.cls = .type "tuple" ∧ o.data = .seq its n ∧ its.size ≤ sizeLine ∧ Vals xs its.toList
def absV : Value → Option V
  | .none => some .non
  | .bool b => some (.bl b)
  | .int i _ => some (.int i)
  | .str x _ => some (.str x)
  | .bytes b _ => some (.byt b)
  | .float b _ => some (.flt b)
  | .ref a => some (.ref a)
  | .type n => some (.ty n)
  | _ => none
theorem RelV.abs {x : V} {u : Value} (r : RelV x u) : absV u = some x := by
  cases x with
  | non => cases r; rfl
  | bl _ => cases r; rfl
  | int _ => obtain ⟨t, rfl⟩ := r; rfl
  | str _ => obtain ⟨t, rfl⟩ := r; rfl
  | byt _ => obtain ⟨t, rfl⟩ := r; rfl
  | flt _ => obtain ⟨t, rfl⟩ := r; rfl
  | ref _ => cases r; rfl
  | ty _ => cases r; rfl
theorem RelV.inj {x y : V} {u : Value} (r : RelV x u) (q : RelV y u) : x = y := Option.some.inj (r.abs.symm.trans q.abs)
theorem Vals.inj : ∀ {xs ys : List V} {us : List Value}, Vals xs us → Vals ys us → xs = ys
  | _, _, _, .nil, .nil => rfl
  | _, _, _, .cons r t, .cons r' t' => by rw [r.inj r', Vals.inj t t']
section
variable {X : Cx} {pins : List (Addr × Obj)} {σ : St} {H : Hp} {s : Shared} {a : Addr} {xs ys : List V}
theorem SqL.of {K : PySem.W.Frag} (h : H a = some (.lst xs)) : SqL K H a xs := .inl (.inl h)
theorem SqT.of {K : PySem.W.Frag} (h : H a = some (.tup xs)) : SqT K H a xs := .inl (.inl h)
theorem Inv.list (I : Inv X pins σ H s) (h : SqL X.K H a xs) : ∃ its : List Value, Vals xs its ∧ PlainL s.heap a its.toArray ∧ xs.length ≤ sizeLine := by
  rcases h with h | ⟨o, its, n, hk, hc, hd, hs, hz, r⟩
  · obtain ⟨z, its, n, r, e⟩ := h.ok I.hok
    exact ⟨its, r, ⟨_, n, e, rfl, rfl, rfl⟩, z⟩
  · refine ⟨its.toList, r, ⟨o, n, I.kIn a o hk, hc, hd, by simpa using hs⟩, ?_⟩
    have e := r.length
    simp only [Array.length_toList] at e
    omega
theorem Inv.tuple (I : Inv X pins σ H s) (h : SqT X.K H a xs) : ∃ its : List Value, Vals xs its ∧ IsTup s.heap a its.toArray ∧ xs.length ≤ sizeLine := by
  rcases h with h | ⟨o, its, n, hk, hc, hs, hz, r⟩
  · obtain ⟨z, its, r, p⟩ := h.ok I.hok
    exact ⟨its, r, p, z⟩
  · refine ⟨its.toList, r, ⟨o, I.kIn a o hk, hc, n, by simpa using hs⟩, ?_⟩
    have e := r.length
    simp only [Array.length_toList] at e
    omega
theorem Inv.list_inj (I : Inv X pins σ H s) (h : SqL X.K H a xs) (h' : SqL X.K H a ys) : xs = ys := by
  obtain ⟨its, r, ⟨o, n, e, _, _, d⟩, _⟩ := I.list h
  obtain ⟨its', r', ⟨o', n', e', _, _, d'⟩, _⟩ := I.list h'
  rw [e] at e'; cases e'
  rw [d] at d'
  injection d' with d1 _
  have : its = its' := by simpa using congrArg Array.toList d1
  subst this
  exact r.inj r'
end

/-! ### another wish about exceptions -/
abbrev Cx.wish (X : Cx) (E : Value → Shared → Prop) : Cx := { X with xe := E }
/-- no exception leaves -/
abbrev Cx.nox (X : Cx) : Cx := X.wish fun _ _ => False
theorem Cx.Ok.wish {X : Cx} (ok : X.Ok) (E : Value → Shared → Prop) : (X.wish E).Ok :=
  ⟨ok.mod, ok.kind, ok.glob, ok.blt, ok.above, ok.inj, ok.has, ok.cab, ok.hd, ok.frames, ok.stk, ok.exf, ok.bs, ok.bsz, ok.noex, ok.exfs, ok.funs, ok.frf⟩
theorem Cx.Ok.unwish {X : Cx} {E : Value → Shared → Prop} (ok : (X.wish E).Ok) : X.Ok :=
  ⟨ok.mod, ok.kind, ok.glob, ok.blt, ok.above, ok.inj, ok.has, ok.cab, ok.hd, ok.frames, ok.stk, ok.exf, ok.bs, ok.bsz, ok.noex, ok.exfs, ok.funs, ok.frf⟩
section
variable {X : Cx} {pins : List (Addr × Obj)} {σ : St} {H : Hp} {s : Shared} {E : Value → Shared → Prop}
theorem Inv.wish (I : Inv X pins σ H s) (E : Value → Shared → Prop) : Inv (X.wish E) pins σ H s := ⟨I.ok.wish E, I.os, I.bare, I.base, I.loc, I.cell, I.free, I.freeC, I.pin, I.hok, I.len⟩
theorem Inv.unwish (I : Inv (X.wish E) pins σ H s) : Inv X pins σ H s := ⟨I.ok.unwish, I.os, I.bare, I.base, I.loc, I.cell, I.free, I.freeC, I.pin, I.hok, I.len⟩
theorem SP.unwish {D : Ends} {f : Flow} {s' : Shared} (h : SP (X.wish E) pins D f s') : SP X pins D f s' := by
  cases f with
  | next => obtain ⟨σ', H', I, q⟩ := h; exact ⟨σ', H', I.unwish, q⟩
  | brk => obtain ⟨σ', H', I, q⟩ := h; exact ⟨σ', H', I.unwish, q⟩
  | cont => obtain ⟨σ', H', I, q⟩ := h; exact ⟨σ', H', I.unwish, q⟩
  | ret u => obtain ⟨v, σ', H', I, r, q⟩ := h; exact ⟨v, σ', H', I.unwish, r, q⟩
theorem PSs.nox {st : List Stmt} {t : TS} (h : PSs X.nox st t) : PSs X st t := fun pins s σ H D I hw =>
  wpAny_mono (h pins s σ H D (I.wish _) hw) (fun _ _ q => q.unwish) fun _ _ z => False.elim z
end

/-! ### blocks and small statements -/
section
variable {X : Cx} {st : Stmt} {rest : List Stmt} {t u : TS} {e : Expr} {te : TE} {pos : Pos}
def tNext : TS := fun D σ H => D.nx σ H
def tSeq (t u : TS) : TS := fun D σ H => t { D with nx := u D } σ H
theorem pss_nil : PSs X [] tNext := fun _ _ σ H _ I h => wpAny_execs_nil ⟨σ, H, I, h⟩
theorem pss_cons (h1 : PS X st t) (h2 : PSs X rest u) : PSs X (st :: rest) (tSeq t u) := by
  intro pins s σ H D I h
  refine wpAny_execs_cons (thn (h1 pins s σ H { D with nx := u D } I h) fun f s1 q => ?_)
  cases f with
  | next =>
    obtain ⟨σ', H', I', q⟩ := q
    exact h2 pins s1 σ' H' D I' q
  | ret v => exact q
  | brk => exact q
  | cont => exact q
theorem pss_one (h1 : PS X st t) : PSs X [st] t := by
  intro pins s σ H D I h
  refine wpAny_execs_cons (thn (h1 pins s σ H D I h) fun f s1 q => ?_)
  cases f with
  | next => exact wpAny_execs_nil q
  | ret v => exact q
  | brk => exact q
  | cont => exact q
/-- in a def's body nothing is shown -/
theorem Inv.quiet {pins : List (Addr × Obj)} {σ : St} {H : Hp} {s : Shared} (I : Inv X pins σ H s) : interactive X.env = false := by simp [interactive, I.ok.kind]
/-- an expression whose value is dropped -/
def tDrop (te : TE) : TS := fun D σ H => te σ H fun _ H1 => D.nx σ H1
theorem ps_expr (he : PE X e te) (hs : swapsWith e none pos.line X.env = pure false := by rfl) : PS X (.Expr e pos) (tDrop te) := by
  intro pins s σ H D I h
  exact wpAny_Expr_any (thn (he pins s σ H _ I h) fun v s1 ⟨x, H1, I1, r1, q1⟩ => ⟨σ, H1, I1, q1⟩) I.quiet hs
def tRet (te : TE) : TS := fun D σ H => te σ H D.rt
theorem ps_ret (he : PE X e te) : PS X (.Return (some e) pos) (tRet te) := by
  intro pins s σ H D I h
  exact wpAny_Return_some (thn (he pins s σ H _ I h) fun v s1 ⟨x, H1, I1, r1, q1⟩ => ⟨x, σ, H1, I1, r1, q1⟩)
def tIfS (c : TT) (t u : TS) : TS := fun D σ H => c σ H fun b H1 => if b = true then t D σ H1 else u D σ H1
theorem ps_if {c : Expr} {a b : List Stmt} {tc : TT} (hc : PT X c tc) (ha : PSs X a t) (hb : PSs X b u) : PS X (.If c a b pos) (tIfS tc t u) := by
  intro pins s σ H D I h
  refine wpAny_If (thn (hc pins s σ H _ I h) fun d s1 ⟨H1, I1, q1⟩ => ?_)
  cases d with
  | true => exact ha pins s1 σ H1 D I1 q1
  | false => exact hb pins s1 σ H1 D I1 q1
end

/-! ### targets -/
abbrev TG := V → St → Hp → (St → Hp → Prop) → Prop
abbrev TGs := List V → St → Hp → (St → Hp → Prop) → Prop
def PG (X : Cx) (target : Expr) (t : TG) : Prop :=
  ∀ (pins : List (Addr × Obj)) (s : Shared) (σ : St) (H : Hp) (v : V) (u : Value) (Q : St → Hp → Prop), Inv X pins σ H s → RelV v u → t v σ H Q →
    wpAny (model X.prog X.w) X.A (assign target X.env u) (fun _ s' => ∃ σ' H', Inv X pins σ' H' s' ∧ Q σ' H') X.xe s
/-- several targets, one after another -/
def PGs (X : Cx) (ts : List Expr) (t : TGs) : Prop :=
  ∀ (pins : List (Addr × Obj)) (s : Shared) (σ : St) (H : Hp) (vs : List V) (us : List Value) (Q : St → Hp → Prop), Inv X pins σ H s → Vals vs us → t vs σ H Q →
    wpAny (model X.prog X.w) X.A (assignInOrder ((assignEach ts X.env).map (·.2)) us) (fun _ s' => ∃ σ' H', Inv X pins σ' H' s' ∧ Q σ' H') X.xe s
section
variable {X : Cx} {pos : Pos}
def gName (i : Nat) : TG := fun v σ H Q => Q (σ.set i (some v)) H
theorem pg_name {i : Nat} {x : Str} (hN : X.N.Nodup) (hi : X.N[i]? = some x) (hx : Loc X.env.scope x) (hf : X.fn x = true ∨ X.env.scope.names.lookup x = some .local := by first | exact .inl rfl | exact .inr rfl | assumption) : PG X (.Name x pos) (gName i) := by
  intro pins s σ H v u Q I r h
  exact wpAny_assign_Name (store_ok I hN hi hx r (fun s' I' => ⟨_, H, I', h⟩) hf)
def gNil : TGs := fun vs σ H Q => vs = [] ∧ Q σ H
def gCons (t : TG) (u : TGs) : TGs := fun vs σ H Q => ∃ v r, vs = v :: r ∧ t v σ H fun σ' H' => u r σ' H' Q
theorem pgs_nil : PGs X [] gNil := by
  intro pins s σ H vs us Q I r h
  obtain ⟨e, h⟩ := h
  subst e
  cases r
  exact assignInOrder_nil ⟨σ, H, I, h⟩
theorem pgs_cons {e : Expr} {es : List Expr} {t : TG} {u : TGs} (h1 : PG X e t) (h2 : PGs X es u)
    (hs : (assignEach (e :: es) X.env).map (·.2) = assign e X.env :: (assignEach es X.env).map (·.2) := by rfl) : PGs X (e :: es) (gCons t u) := by
  intro pins s σ H vs us Q I r h
  obtain ⟨v, vr, e1, h⟩ := h
  subst e1
  cases r with
  | cons r rr =>
    rw [hs]
    refine assignInOrder_cons (thn (h1 pins s σ H _ _ _ I r h) fun _ s1 ⟨σ1, H1, I1, q1⟩ => ?_)
    exact h2 pins s1 σ1 H1 _ _ Q I1 rr q1
/-- (a, b, ..) = a tuple of that length -/
def gTup (K : PySem.W.Frag) (n : Nat) (t : TGs) : TG := fun v σ H Q => ∃ a xs, v = .ref a ∧ SqT K H a xs ∧ xs.length = n ∧ t xs σ H Q
theorem pg_tup {es : List Expr} {k : Nat} {t : TGs} {n : Nat} (hc : X.calm = true) (h : PGs X es t)
    (hn : (assignEach es X.env).length = n := by rfl) (hst : (assignEach es X.env).findIdx? (·.1) = none := by rfl) : PG X (.Tuple es k pos) (gTup X.K n t) := by
  intro pins s σ H v u Q I r hw
  obtain ⟨a, xs, e1, hq, hl, hw⟩ := hw
  subst e1
  cases r
  obtain ⟨its, rv, ht, hz⟩ := I.tuple hq
  refine assign_Tuple_tuple (I.ok.hd hc) ht (by simp [hn, ← hl, rv.length]) hst fun h' hx => ?_
  have I1 : Inv X pins σ H { s with heap := h' } := I.kept (t' := s.toks) fun b o e => hx b o (Nat.ne_of_lt (Heap.lt_size e)) e
  exact h pins _ σ H xs _ Q I1 (by simpa using rv) hw
/-- target = value -/
def tAsg (te : TE) (g : TG) : TS := fun D σ H => te σ H fun x H1 => g x σ H1 D.nx
/-- name = value -/
theorem ps_set {i : Nat} {x : Str} {e : Expr} {te : TE} {pos' : Pos} (hN : X.N.Nodup) (hi : X.N[i]? = some x) (hx : Loc X.env.scope x) (he : PE X e te) (hs : swapsWith e (some (.Name x pos')) pos.line X.env = pure false := by rfl) (hf : X.fn x = true ∨ X.env.scope.names.lookup x = some .local := by first | exact .inl rfl | exact .inr rfl | assumption) :
    PS X (.Assign [.Name x pos'] e pos) (tAsg te (gName i)) := by
  intro pins s σ H D I h
  refine wpAny_Assign_Name (thn (he pins s σ H _ I h) fun v s1 ⟨y, H1, I1, r1, q1⟩ => ?_) hs
  exact store_ok I1 hN hi hx r1 (fun s2 I2 => ⟨_, H1, I2, q1⟩) hf
end

/-! ### while -/
section
variable {X : Cx} {pos : Pos}
end

/-! ### what a loop or a comprehension walks -/
/-- at turn i: it yields x (the heap may grow), or it stops -/
structure It where
  go : Nat → Hp → Prop
  yld : Nat → Hp → V → Hp → Prop
  stop : Nat → Hp → Prop
/-- the iterator's own objects may turn: they are not the frame's, not pinned, younger than the entry (or a comprehension's own) -/
def FpOk (X : Cx) (pins : List (Addr × Obj)) (H : Hp) (b : Addr) : Prop :=
  H b = none ∧ b ≠ X.env.locals ∧ b ∉ X.fs ∧ (b ∈ X.ex ∨ X.s₀.heap.objs.size ≤ b) ∧ (∀ x c, X.env.cells.lookup x = some c → c ≠ b) ∧ ∀ p ∈ X.pn ++ pins, p.1 ≠ b
theorem Inv.fpOk {X : Cx} {pins : List (Addr × Obj)} {σ : St} {H H' : Hp} {s : Shared} {b : Addr} (I : Inv X pins σ H s) (hb : s.heap.objs.size ≤ b) (hn : H' b = none) : FpOk X pins H' b := by
  refine ⟨hn, Nat.ne_of_gt (Nat.lt_of_lt_of_le I.lt hb), I.nofs hb, .inr (Nat.le_trans I.sz hb), fun x c e z => ?_, fun p hp z => ?_⟩
  · obtain ⟨v, q⟩ := I.cell x c e
    exact absurd (Nat.lt_of_lt_of_le q.lt (by rw [z]; exact hb)) (Nat.lt_irrefl _)
  · exact absurd (Nat.lt_of_lt_of_le (Heap.lt_size (I.pin p hp).1) (by rw [z]; exact hb)) (Nat.lt_irrefl _)
structure Turn (P : Program) (w : World) (K : PySem.W.Frag) (tg : Expr) (J : It) (fp : List Addr) (it : Addr) (tn : Nat → Heap → Prop) : Prop where
  mem : it ∈ fp
  obj : ∀ i h, tn i h → ∀ b ∈ fp, ∃ o, h.get? b = some o ∧ ∀ v, o.data ≠ .cell v
  keep : ∀ i h h', tn i h → (∀ b ∈ fp, ∀ o, h.get? b = some o → h'.get? b = some o) → tn i h'
  item : ∀ (X : Cx), X.prog = P → X.w = w → X.K = K → X.calm = true → ∀ (i : Nat) (pins : List (Addr × Obj)) (s : Shared) (σ : St) (H : Hp) (E : Value → Shared → Prop), Inv X pins σ H s → (∀ b ∈ fp, FpOk X pins H b) → tn i s.heap → J.go i H →
    wpAny (model P w) X.A (pyNext (.ref it)) (fun r s1 => ∃ u, r = some u ∧
      wpAny (model P w) X.A (letOwnedTupleGo tg (.ref it) u) (fun _ s2 => ∃ x H', Inv X pins σ H' s2 ∧ RelV x u ∧ J.yld i H x H' ∧ tn (i + 1) s2.heap ∧ ∀ b ∈ fp, H' b = none) E s1) E s
  done : ∀ (X : Cx), X.prog = P → X.w = w → X.K = K → X.calm = true → ∀ (i : Nat) (pins : List (Addr × Obj)) (s : Shared) (σ : St) (H : Hp) (E : Value → Shared → Prop), Inv X pins σ H s → (∀ b ∈ fp, FpOk X pins H b) → tn i s.heap → J.stop i H →
    wpAny (model P w) X.A (pyNext (.ref it)) (fun r s1 => r = none ∧ Inv X pins σ H s1) E s
  self : ∀ (A : Around) (i : Nat) (s : Shared) (Q : Value → Shared → Prop) (E : Value → Shared → Prop), tn i s.heap → Q (.ref it) s → wpAny (model P w) A (pyIter (.ref it)) Q E s
abbrev TI := St → Hp → (It → Hp → Prop) → Prop
/-- an iterator has come -/
def PIE (X : Cx) (pins : List (Addr × Obj)) (σ : St) (tg : Expr) (R : It → Hp → Prop) (itv : Value) (s2 : Shared) : Prop :=
  ∃ (it : Addr) (fp : List Addr) (tn : Nat → Heap → Prop) (J : It) (H' : Hp), itv = .ref it ∧ Inv X pins σ H' s2 ∧ Turn X.prog X.w X.K tg J fp it tn ∧ tn 0 s2.heap ∧ (∀ b ∈ fp, FpOk X pins H' b) ∧ R J H'
def PI (X : Cx) (tg iter : Expr) (wi : TI) : Prop :=
  ∀ (pins : List (Addr × Obj)) (s : Shared) (σ : St) (H : Hp) (R : It → Hp → Prop), Inv X pins σ H s → wi σ H R →
    wpAny (model X.prog X.w) X.A (eval iter X.env) (fun v s1 => wpAny (model X.prog X.w) X.A (pyIter v) (PIE X pins σ tg R) X.xe s1) X.xe s

/-- the step ahead of the store is nothing for an iterator that keeps no tuple -/
theorem go_of {M : Model} {A : Around} {E : Value → Shared → Prop} {s : Shared} {tg : Expr} {it : Addr} {u : Value} {o : Obj} {n : String} {vs : Array Value} {Q : Unit → Shared → Prop} (ho : s.heap.get? it = some o) (hc : o.cls = .type n) (hd : o.data = .fields vs)
    (hn : ["enumerate", "zip", "dict_itemiterator", "dict_reverseitemiterator", "odict_iterator", "itertools.zip_longest", "itertools.pairwise"].contains n = false) (hQ : Q () s) : wpAny M A (letOwnedTupleGo tg (.ref it) u) Q E s := by
  unfold letOwnedTupleGo
  cases tg <;> first
    | exact wpAny_pure hQ
    | (cases u <;> first
        | exact wpAny_pure hQ
        | (refine wpAny_bind (wpAny_load ho ?_)
           rw [hc, hd]
           show wpAny M A (if (["enumerate", "zip", "dict_itemiterator", "dict_reverseitemiterator", "odict_iterator", "itertools.zip_longest", "itertools.pairwise"].contains n && vs[0]? == some (rawInt _)) = true then _ else _) Q E s
           rw [if_neg (by intro h; rw [hn, Bool.false_and] at h; cases h)]
           exact wpAny_pure hQ))

/-- the list at a, as it stands at each turn (a loop may append to it) -/
def Itl (K : PySem.W.Frag) (a : Addr) : It :=
  ⟨fun i H => ∃ xs x, SqL K H a xs ∧ xs[i]? = some x, fun i H x H' => H' = H ∧ ∀ xs, SqL K H a xs → xs[i]? = some x, fun i H => ∃ xs, SqL K H a xs ∧ xs.length ≤ i⟩
/-- lo, lo + 1, .. (n of them) -/
def Itr (lo : Int) (n : Nat) : It := ⟨fun i _ => i < n, fun i H x H' => H' = H ∧ x = .int (lo + i), fun i _ => n ≤ i⟩
theorem turn_list {P : Program} {w : World} {K : PySem.W.Frag} {tg : Expr} (a it : Addr) : Turn P w K tg (Itl K a) [it] it (fun i h => h.IsListIter it a i) where
  mem := by simp
  obj := fun i h st b hb => by
    have e : b = it := by simpa using hb
    subst e
    obtain ⟨o, e, c, d⟩ := st
    exact ⟨o, e, fun v z => by rw [d] at z; cases z⟩
  keep := fun i h h' st k => st.at fun o e => k it (by simp) o e
  item := by
    intro X hP hw hK hc i pins s σ H E I hf st hg
    subst hP hw hK
    obtain ⟨xs, x, hq, hx⟩ := hg
    obtain ⟨its, rv, p, hz⟩ := I.list hq
    obtain ⟨u, hu, ru⟩ := rv.get hx
    obtain ⟨f0, f1, f2, f3, f4, f5⟩ := hf it (by simp)
    refine wpAny_pyNext_list_item st p.isList (x := u) (by simpa using hu) fun h' st' sb => ?_
    have I1 : Inv X pins σ H { s with heap := h' } := I.turned (t' := s.toks) (fun b o hb e => (sb.2 b hb).trans e) f0 f1 f3 f4 f5
    obtain ⟨o, e, c, d⟩ := id st'
    exact ⟨u, rfl, go_of (s := { s with heap := h' }) e c d (by decide) ⟨x, H, I1, ru, ⟨rfl, fun ys hy => by rw [I.list_inj hy hq]; exact hx⟩, st', fun b hb => (hf b hb).1⟩⟩
  done := by
    intro X hP hw hK hc i pins s σ H E I hf st hg
    subst hP hw hK
    obtain ⟨xs, hq, hx⟩ := hg
    obtain ⟨its, rv, p, hz⟩ := I.list hq
    obtain ⟨f0, f1, f2, f3, f4, f5⟩ := hf it (by simp)
    have hl := rv.length
    exact wpAny_pyNext_list_end (I.ok.hd hc) st p.isList (by simp; omega) fun h' eb => ⟨rfl, I.turned (t' := s.toks) (fun b o hb e => eb b o hb e) f0 f1 f3 f4 f5⟩
  self := fun _ _ _ _ _ st h => wpAny_pyIter_listiter st h
theorem turn_range {P : Program} {w : World} {K : PySem.W.Frag} {tg : Expr} (it : Addr) (lo : Int) (n : Nat) : Turn P w K tg (Itr lo n) [it] it (fun i h => IsRangeIter h it (lo + (i : Nat) * 1) ((n : Int) - (i : Nat)) 1) where
  mem := by simp
  obj := fun i h st b hb => by
    have e : b = it := by simpa using hb
    subst e
    exact ⟨_, st, fun v z => by
      have z' : Data.fields _ = Data.cell v := z
      cases z'⟩
  keep := fun i h h' st k => k it (by simp) _ st
  item := by
    intro X hP hw hK hc i pins s σ H E I hf st hg
    subst hP hw hK
    obtain ⟨f0, f1, f2, f3, f4, f5⟩ := hf it (by simp)
    have W := Walks.range (prog := X.prog) (w := X.w) (I.ok.hd hc) it lo 1 n
    refine W.item i s _ _ hg st fun v h' tk hv st' kk => ?_
    obtain ⟨t, rfl⟩ := hv
    have I1 : Inv X pins σ H { s with heap := h', toks := tk } := I.turned (fun b o hb e => kk b o (by simpa using hb) e) f0 f1 f3 f4 f5
    refine ⟨_, rfl, go_of (s := { s with heap := h', toks := tk }) (n := "range_iterator") st' rfl rfl (by decide) ⟨.int (lo + i), H, I1, ⟨t, ?_⟩, ⟨rfl, rfl⟩, st', fun b hb => (hf b hb).1⟩⟩
    rw [Int.mul_one]
  done := by
    intro X hP hw hK hc i pins s σ H E I hf st hg
    subst hP hw hK
    obtain ⟨f0, f1, f2, f3, f4, f5⟩ := hf it (by simp)
    exact wpAny_pyNext_range_end (I.ok.hd hc) st (by have : n ≤ i := hg; omega) fun h' eb => ⟨rfl, I.turned (t' := s.toks) (fun b o hb e => eb b o hb e) f0 f1 f3 f4 f5⟩
  self := fun _ _ _ _ _ st h => wpAny_pyIter_rangeiter st h
end L2

namespace L2
open PySem PySem.Spec PyProof.Rows
section
variable {X : Cx} {tg : Expr}
def iList (K : PySem.W.Frag) (tl : TE) : TI := fun σ H R => tl σ H fun x H1 => ∃ a, x = .ref a ∧ (∃ xs, SqL K H1 a xs) ∧ R (Itl K a) H1
theorem pi_list {l : Expr} {tl : TE} (hl : PE X l tl) : PI X tg l (iList X.K tl) := by
  intro pins s σ H R I h
  refine thn (hl pins s σ H _ I h) fun v s1 ⟨x, H1, I1, r1, q1⟩ => ?_
  obtain ⟨a, e, ⟨xs, hq⟩, q⟩ := q1
  subst e
  cases r1
  obtain ⟨its, rv, p, hz⟩ := I1.list hq
  refine wpAny_pyIter_list p.isList ?_
  refine ⟨s1.heap.objs.size, [s1.heap.objs.size], _, _, H1, rfl, I1.kept (t' := s1.toks) fun b o e => Heap.get?_push_of_some _ e, turn_list a _, ⟨_, Heap.get?_push_size _ rfl, rfl, rfl⟩, fun b hb => ?_, q⟩
  have e : b = s1.heap.objs.size := by simpa using hb
  subst e
  exact I1.fpOk (Nat.le_refl _) (I1.hok.fresh (Nat.le_refl _))
/-- a range object just made, walked -/
theorem range_it {pins : List (Addr × Obj)} {σ : St} {H : Hp} {s : Shared} {R : It → Hp → Prop} {E : Value → Shared → Prop} {lo hi : Int} {t u v : Tok} {tk : Nat} (I : Inv X pins σ H s) (h1 : -(2 ^ 62) ≤ lo) (h2 : lo < 2 ^ 62) (h3 : -(2 ^ 62) ≤ hi) (h4 : hi < 2 ^ 62)
    (q : R (Itr lo (hi - lo).toNat) H) : wpAny (model X.prog X.w) X.A (pyIter (.ref s.heap.objs.size)) (PIE X pins σ tg R) E { s with heap := s.heap.push { cls := .type "range", data := .fields #[.int lo t, .int hi u, .int 1 v] }, toks := tk } := by
  refine wpAny_pyIter_range (IsRange.new ..) (small_one h1 h2 h3 h4) ?_
  have I1 : Inv X pins σ H { s with heap := s.heap.push { cls := .type "range", data := .fields #[.int lo t, .int hi u, .int 1 v] }, toks := tk } := I.kept fun b o e => Heap.get?_push_of_some _ e
  refine ⟨(s.heap.push { cls := .type "range", data := .fields #[.int lo t, .int hi u, .int 1 v] }).objs.size, [(s.heap.push { cls := .type "range", data := .fields #[.int lo t, .int hi u, .int 1 v] }).objs.size], _, _, H, rfl,
    I1.kept (t' := tk) fun b o e => Heap.get?_push_of_some _ e, turn_range _ lo (hi - lo).toNat, ?_, fun b hb => ?_, q⟩
  · have e1 : lo + ((0 : Nat) : Int) * 1 = lo := by simp
    have e2 : (((hi - lo).toNat : Nat) : Int) - ((0 : Nat) : Int) = Builtin.Range.rangeSize lo hi 1 := by rw [rangeSize_one]; split <;> omega
    show IsRangeIter _ _ (lo + ((0 : Nat) : Int) * 1) ((((hi - lo).toNat : Nat) : Int) - ((0 : Nat) : Int)) 1
    rw [e1, e2]
    exact Heap.get?_push_size _ rfl
  · have e : b = (s.heap.push { cls := .type "range", data := .fields #[.int lo t, .int hi u, .int 1 v] }).objs.size := by simpa using hb
    subst e
    exact I1.fpOk (Nat.le_refl _) (I1.hok.fresh (Nat.le_refl _))
def iRng1 (ta : TA) : TI := fun σ H R => ta σ H fun vs H1 => ∃ j : Int, vs = [.int j] ∧ -(2 ^ 62) ≤ j ∧ j < 2 ^ 62 ∧ R (Itr 0 j.toNat) H1
theorem pi_range1 {a : Expr} {ta : TA} {p pos : Pos} (hg : Gl X "range") (hm : X.mg "range" = none) (ha : PA X [a] ta) (hs : starEach [a] X.env = [(false, eval a X.env)] := by rfl) : PI X tg (.Call (.Name "range" p) [a] [] pos) (iRng1 ta) := by
  intro pins s σ H R I h
  refine Call_ (ld_blt I hg hm boot_range (PyProof.Rows.callWith_type1 (thn (ha pos pins s σ H _ I h) fun us s1 ⟨vs, H1, I1, r1, q1⟩ => ?_) hs rfl))
  obtain ⟨j, e, q1, q2, q⟩ := q1
  subst e
  cases r1 with
  | cons r rr =>
    cases rr
    obtain ⟨t, rfl⟩ := r
    exact call_range_1 (range_it I1 (by omega) (by omega) q1 q2 (by simpa using q))

/-! ### for -/
/-- W: the invariant by the turn and a measure; N: what the body is to reach -/
def tFor (wi : TI) (g : TG) (tb : TS) : TS := fun D σ H => wi σ H fun J H1 => ∃ W : Nat → Nat → St → Hp → Prop, (∃ m, W 0 m σ H1) ∧ ∀ i m σ H, W i m σ H →
  (J.stop i H ∧ D.nx σ H) ∨ (J.go i H ∧ ∃ N : St → Hp → Prop, (∀ σ' H', N σ' H' → ∃ m', m' < m ∧ W (i + 1) m' σ' H') ∧ ∀ x H', J.yld i H x H' → g x σ H' fun σ2 H2 => tb { D with nx := N, ct := N, bk := D.nx } σ2 H2)
/-- the records at fp as they stand -/
def pinsAt (fp : List Addr) (h : Heap) : List (Addr × Obj) := fp.filterMap fun b => (h.get? b).map fun o => (b, o)
theorem mem_pinsAt {fp : List Addr} {h : Heap} {b : Addr} {o : Obj} (hb : b ∈ fp) (e : h.get? b = some o) : (b, o) ∈ pinsAt fp h := List.mem_filterMap.mpr ⟨b, hb, by rw [e]; rfl⟩
theorem of_pinsAt {fp : List Addr} {h : Heap} {p : Addr × Obj} (hp : p ∈ pinsAt fp h) : p.1 ∈ fp ∧ h.get? p.1 = some p.2 := by
  obtain ⟨b, hb, e⟩ := List.mem_filterMap.mp hp
  cases q : h.get? b with
  | none => rw [q] at e; cases e
  | some o =>
    rw [q] at e
    have e' : (b, o) = p := Option.some.inj e
    subst e'
    exact ⟨hb, q⟩
theorem Inv.pinned {pins : List (Addr × Obj)} {σ : St} {H : Hp} {s : Shared} {fp : List Addr} (I : Inv X pins σ H s) (hf : ∀ b ∈ fp, FpOk X pins H b) (ho : ∀ b ∈ fp, ∃ o, s.heap.get? b = some o ∧ ∀ v, o.data ≠ .cell v) : Inv X (pins ++ pinsAt fp s.heap) σ H s :=
  I.pins_of fun p hp => (List.mem_append.mp hp).elim (fun z => I.pin p (List.mem_append_right _ z)) fun z => by
    obtain ⟨hb, e⟩ := of_pinsAt z
    obtain ⟨f0, f1, f2, _⟩ := hf p.1 hb
    obtain ⟨o, e', d⟩ := ho p.1 hb
    rw [e] at e'; cases e'
    exact ⟨e, f0, f1, f2, d⟩
theorem Inv.unpinned {pins pl : List (Addr × Obj)} {σ : St} {H : Hp} {s : Shared} (I : Inv X (pins ++ pl) σ H s) : Inv X pins σ H s := I.pins_of fun p hp => I.pin p (List.mem_append_right _ (List.mem_append_left _ hp))
theorem ps_for {iter : Expr} {body : List Stmt} {wi : TI} {g : TG} {tb : TS} {pos : Pos} (hp : PassesOwn (model X.prog X.w) X.A X.env X.xe) (hc : X.calm = true) (hi : PI X tg iter wi) (hg : PG X tg g) (hb : PSs X body tb)
    (hs : ∀ x, foldedSetIterable iter X.env x = pure x := by intro _; rfl) : PS X (.For tg iter body [] pos) (tFor wi g tb) := by
  intro pins s σ H D I h
  refine wpAny_For (thn (hi pins s σ H _ I h) fun v s1 h1 => thn h1 fun itv s2 h2 => ?_) hs
  obtain ⟨it, fp, tn, J, H2, e, I2, T, st2, f2, W, ⟨m0, w0⟩, turn⟩ := h2
  subst e
  -- what stays true of the iterator's objects through the loop
  have stat : ∀ {H' : Hp}, (∀ b ∈ fp, H' b = none) → ∀ b ∈ fp, FpOk X pins H' b := fun hn b hb => ⟨hn b hb, (f2 b hb).2⟩
  refine codeAny_forLoop_any (fun n s' => ∃ i σ' H', Inv X pins σ' H' s' ∧ tn i s'.heap ∧ (∀ b ∈ fp, H' b = none) ∧ W i n σ' H') ?_ m0 ⟨0, σ, H2, I2, st2, fun b hb => (f2 b hb).1, w0⟩
  rintro n s3 ⟨i, σ3, H3, I3, st3, fr3, w3⟩
  rcases turn i n σ3 H3 w3 with ⟨stop, qn⟩ | ⟨go, N, hN, step⟩
  · refine wpAny_passesOwn hp (thn (T.done X rfl rfl rfl hc i pins s3 σ3 H3 X.xe I3 (stat fr3) st3 stop) fun r s4 ⟨hr, I4⟩ => ?_)
    subst hr
    exact wpAny_execs_nil ⟨σ3, H3, I4, qn⟩
  · refine wpAny_passesOwn hp (thn (T.item X rfl rfl rfl hc i pins s3 σ3 H3 X.xe I3 (stat fr3) st3 go) fun r s4 ⟨u, hr, h4⟩ => ?_)
    subst hr
    refine wpAny_passesOwn hp (thn h4 fun _ s5 ⟨x, H5, I5, r5, y5, st5, fr5⟩ => ?_)
    have I5' := I5.pinned (stat fr5) (T.obj _ _ st5)
    refine wpAny_passesOwn hp (thn (hg _ s5 σ3 H5 x u _ I5' r5 (step x H5 y5)) fun _ s6 ⟨σ6, H6, I6, q6⟩ => ?_)
    refine wpAny_passesOwn hp (thn (hb _ s6 σ6 H6 _ I6 q6) fun f s7 q7 => ?_)
    have again : ∀ {σ7 : St} {H7 : Hp}, Inv X (pins ++ pinsAt fp s5.heap) σ7 H7 s7 → N σ7 H7 → ∃ m, m < n ∧ ∃ i σ' H', Inv X pins σ' H' s7 ∧ tn i s7.heap ∧ (∀ b ∈ fp, H' b = none) ∧ W i m σ' H' := fun {σ7 H7} I7 n7 => by
      obtain ⟨m', hm, w7⟩ := hN σ7 H7 n7
      refine ⟨m', hm, i + 1, σ7, H7, I7.unpinned, T.keep _ _ _ st5 fun b hb o e => (I7.pin (b, o) (List.mem_append_right _ (List.mem_append_right _ (mem_pinsAt hb e)))).1, fun b hb => ?_, w7⟩
      obtain ⟨o, e, d⟩ := T.obj _ _ st5 b hb
      exact (I7.pin (b, o) (List.mem_append_right _ (List.mem_append_right _ (mem_pinsAt hb e)))).2.1
    cases f with
    | next => obtain ⟨σ7, H7, I7, n7⟩ := q7; exact again I7 n7
    | cont => obtain ⟨σ7, H7, I7, n7⟩ := q7; exact again I7 n7
    | brk => obtain ⟨σ7, H7, I7, q7⟩ := q7; exact ⟨σ7, H7, I7.unpinned, q7⟩
    | ret v => obtain ⟨x7, σ7, H7, I7, r7, q7⟩ := q7; exact ⟨x7, σ7, H7, I7.unpinned, r7, q7⟩
end

/-! ### the forms one uses -/
/-- over a list that the body leaves as it is -/
theorem for_list {K : PySem.W.Frag} {a : Addr} {xs : List V} {g : TG} {tb : TS} {D : Ends} {σ : St} {H : Hp} (Pv : Nat → St → Hp → Prop) (h0 : Pv 0 σ H) (hl : ∀ i σ H, i ≤ xs.length → Pv i σ H → SqL K H a xs)
    (hs : ∀ i x σ H, xs[i]? = some x → Pv i σ H → g x σ H fun σ2 H2 => tb { D with nx := Pv (i + 1), ct := Pv (i + 1), bk := D.nx } σ2 H2) (hd : ∀ σ H, Pv xs.length σ H → D.nx σ H) :
    ∃ W : Nat → Nat → St → Hp → Prop, (∃ m, W 0 m σ H) ∧ ∀ i m σ H, W i m σ H →
      ((Itl K a).stop i H ∧ D.nx σ H) ∨ ((Itl K a).go i H ∧ ∃ N : St → Hp → Prop, (∀ σ' H', N σ' H' → ∃ m', m' < m ∧ W (i + 1) m' σ' H') ∧ ∀ x H', (Itl K a).yld i H x H' → g x σ H' fun σ2 H2 => tb { D with nx := N, ct := N, bk := D.nx } σ2 H2) := by
  refine ⟨fun i m σ H => m = xs.length - i ∧ i ≤ xs.length ∧ Pv i σ H, ⟨xs.length, by simp, Nat.zero_le _, h0⟩, ?_⟩
  rintro i m σ H ⟨rfl, hi, p⟩
  have q := hl i σ H hi p
  by_cases hlt : i < xs.length
  · refine .inr ⟨⟨xs, xs[i], q, by simp [hlt]⟩, Pv (i + 1), fun σ' H' p' => ⟨xs.length - (i + 1), by omega, rfl, hlt, p'⟩, fun x H' y => ?_⟩
    obtain ⟨e, y⟩ := y
    subst e
    exact hs i x σ _ (y xs q) p
  · have e : i = xs.length := by omega
    subst e
    exact .inl ⟨⟨xs, q, Nat.le_refl _⟩, hd σ H p⟩
theorem for_range {lo : Int} {n : Nat} {g : TG} {tb : TS} {D : Ends} {σ : St} {H : Hp} (Pv : Nat → St → Hp → Prop) (h0 : Pv 0 σ H)
    (hs : ∀ i σ H, i < n → Pv i σ H → g (.int (lo + i)) σ H fun σ2 H2 => tb { D with nx := Pv (i + 1), ct := Pv (i + 1), bk := D.nx } σ2 H2) (hd : ∀ σ H, Pv n σ H → D.nx σ H) :
    ∃ W : Nat → Nat → St → Hp → Prop, (∃ m, W 0 m σ H) ∧ ∀ i m σ H, W i m σ H →
      ((Itr lo n).stop i H ∧ D.nx σ H) ∨ ((Itr lo n).go i H ∧ ∃ N : St → Hp → Prop, (∀ σ' H', N σ' H' → ∃ m', m' < m ∧ W (i + 1) m' σ' H') ∧ ∀ x H', (Itr lo n).yld i H x H' → g x σ H' fun σ2 H2 => tb { D with nx := N, ct := N, bk := D.nx } σ2 H2) := by
  refine ⟨fun i m σ H => m = n - i ∧ i ≤ n ∧ Pv i σ H, ⟨n, by simp, Nat.zero_le _, h0⟩, ?_⟩
  rintro i m σ H ⟨rfl, hi, p⟩
  by_cases hlt : i < n
  · refine .inr ⟨hlt, Pv (i + 1), fun σ' H' p' => ⟨n - (i + 1), by omega, rfl, hlt, p'⟩, fun x H' y => ?_⟩
    obtain ⟨e, y⟩ := y
    subst e y
    exact hs i σ _ hlt p
  · have e : i = n := by omega
    subst e
    exact .inl ⟨Nat.le_refl _, hd σ H p⟩
end L2

namespace L2
open PySem PySem.Spec PyProof.Rows

abbrev R2 := V → V → Hp → VK → Prop
/-- a two-place operation on values: f is binaryOp op, inplaceOp op or compareOp op -/
def OpR (X : Cx) (f : Value → Value → Sem Value) (r : R2) : Prop :=
  ∀ (pins : List (Addr × Obj)) (s : Shared) (σ : St) (H : Hp) (x y : V) (v u : Value) (Q : VK), Inv X pins σ H s → RelV x v → RelV y u → r x y H Q →
    wpAny (model X.prog X.w) X.A (f v u) (EP X pins σ Q) X.xe s
/-- a one-place operation -/
def UnR (X : Cx) (f : Value → Sem Value) (r : V → Hp → VK → Prop) : Prop :=
  ∀ (pins : List (Addr × Obj)) (s : Shared) (σ : St) (H : Hp) (x : V) (v : Value) (Q : VK), Inv X pins σ H s → RelV x v → r x H Q →
    wpAny (model X.prog X.w) X.A (f v) (EP X pins σ Q) X.xe s
/-- a call of a value that is known (a builtin, a type) with values -/
def CallR (X : Cx) (f : Value) (r : List V → Hp → VK → Prop) : Prop :=
  ∀ (pins : List (Addr × Obj)) (s : Shared) (σ : St) (H : Hp) (xs : List V) (us : List Value) (Q : VK), Inv X pins σ H s → Vals xs us → r xs H Q →
    wpAny (model X.prog X.w) X.A (call f us) (EP X pins σ Q) X.xe s

def tOp (r : R2) (ta tb : TE) : TE := fun σ H Q => ta σ H fun x H1 => tb σ H1 fun y H2 => r x y H2 Q
def tUn (r : V → Hp → VK → Prop) (ta : TE) : TE := fun σ H Q => ta σ H fun x H1 => r x H1 Q
/-- ints in, under C, and a value out -/
def rI (C : Int → Int → Prop) (g : Int → Int → V) : R2 := fun x y H Q => ∃ i j, x = .int i ∧ y = .int j ∧ C i j ∧ Q (g i j) H
def rI0 (g : Int → Int → V) : R2 := fun x y H Q => ∃ i j, x = .int i ∧ y = .int j ∧ Q (g i j) H
def rU (g : Int → V) : V → Hp → VK → Prop := fun x H Q => ∃ i, x = .int i ∧ Q (g i) H

section
variable {X : Cx} {a b c : Expr} {ta tb tc : TE} {pos : Pos}

theorem binT (ha : PE X a ta) (hb : PE X b tb) {pins : List (Addr × Obj)} {s : Shared} {σ : St} {H : Hp} {R : V → V → Hp → Prop} (I : Inv X pins σ H s)
    (h : ta σ H fun x H1 => tb σ H1 fun y H2 => R x y H2) {Q : Value → Shared → Prop} {f : Value → Value → Sem Value}
    (hf : ∀ v u s2 x y H2, Inv X pins σ H2 s2 → RelV x v → RelV y u → R x y H2 → wpAny (model X.prog X.w) X.A (f v u) Q X.xe s2) :
    wpAny (model X.prog X.w) X.A (eval a X.env) (fun v s₁ => wpAny (model X.prog X.w) X.A (eval b X.env) (fun u s₂ => wpAny (model X.prog X.w) X.A (f v u) Q X.xe s₂) X.xe s₁) X.xe s := by
  refine thn (ha pins s σ H _ I h) fun v s1 ⟨x, H1, I1, r1, q1⟩ => ?_
  refine thn (hb pins s1 σ H1 _ I1 q1) fun u s2 ⟨y, H2, I2, r2, q2⟩ => ?_
  exact hf v u s2 x y H2 I2 r1 r2 q2

theorem pe_op {op : Operator} {r : R2} (ho : OpR X (binaryOp op) r) (ha : PE X a ta) (hb : PE X b tb) : PE X (.BinOp a op b pos) (tOp r ta tb) := by
  intro pins s σ H Q I h
  exact wpAny_BinOp (binT ha hb I h fun v u s2 x y H2 I2 rx ry q => ho pins s2 σ H2 x y v u Q I2 rx ry q)
theorem pe_un {op : UnaryOp} {r : V → Hp → VK → Prop} (ho : UnR X (unaryOp op) r) (ha : PE X a ta) : PE X (.UnaryOp op a pos) (tUn r ta) := by
  intro pins s σ H Q I h
  exact UnaryOp_ (thn (ha pins s σ H _ I h) fun v s1 ⟨x, H1, I1, r1, q1⟩ => ho pins s1 σ H1 x v Q I1 r1 q1)

/-! ### ints -/
theorem opI {f : Value → Value → Sem Value} {C : Int → Int → Prop} {g : Int → Int → Int}
    (rule : ∀ (i j : Int) (t u : Tok) (s : Shared) (Q : Value → Shared → Prop) (E : Value → Shared → Prop), C i j → Q (.int (g i j) s.toks) { s with toks := s.toks + 1 } → wpAny (model X.prog X.w) X.A (f (.int i t) (.int j u)) Q E s) :
    OpR X f (rI C fun i j => .int (g i j)) := by
  intro pins s σ H x y v u Q I rx ry h
  obtain ⟨i, j, rfl, rfl, hc, q⟩ := h
  obtain ⟨t, rfl⟩ := rx
  obtain ⟨t', rfl⟩ := ry
  exact rule i j t t' s _ _ hc ⟨.int (g i j), H, I.tok _, ⟨_, rfl⟩, q⟩
theorem opI0 {f : Value → Value → Sem Value} {g : Int → Int → Int}
    (rule : ∀ (i j : Int) (t u : Tok) (s : Shared) (Q : Value → Shared → Prop) (E : Value → Shared → Prop), Q (.int (g i j) s.toks) { s with toks := s.toks + 1 } → wpAny (model X.prog X.w) X.A (f (.int i t) (.int j u)) Q E s) :
    OpR X f (rI0 fun i j => .int (g i j)) := by
  intro pins s σ H x y v u Q I rx ry h
  obtain ⟨i, j, rfl, rfl, q⟩ := h
  obtain ⟨t, rfl⟩ := rx
  obtain ⟨t', rfl⟩ := ry
  exact rule i j t t' s _ _ ⟨.int (g i j), H, I.tok _, ⟨_, rfl⟩, q⟩
theorem opB0 {f : Value → Value → Sem Value} {g : Int → Int → Bool}
    (rule : ∀ (i j : Int) (t u : Tok) (s : Shared) (Q : Value → Shared → Prop) (E : Value → Shared → Prop), Q (.bool (g i j)) s → wpAny (model X.prog X.w) X.A (f (.int i t) (.int j u)) Q E s) :
    OpR X f (rI0 fun i j => .bl (g i j)) := by
  intro pins s σ H x y v u Q I rx ry h
  obtain ⟨i, j, rfl, rfl, q⟩ := h
  obtain ⟨t, rfl⟩ := rx
  obtain ⟨t', rfl⟩ := ry
  exact rule i j t t' s _ _ ⟨.bl (g i j), H, I, rfl, q⟩

def CDiv (i j : Int) : Prop := 0 < j ∧ j < 1073741824
def CPow (i j : Int) : Prop := 0 ≤ j ∧ j ≤ 1000000 ∧ i.natAbs < 2 ^ 64
def CMul (i j : Int) : Prop := (-(2 ^ 64) < i ∧ i < 2 ^ 64) ∨ (-(2 ^ 64) < j ∧ j < 2 ^ 64)
theorem CMul.ok {i j : Int} (h : CMul i j) : IntMulOk i j := by
  rcases h with ⟨h1, h2⟩ | ⟨h1, h2⟩
  · exact .of_left (intBits_le_64 h1 h2)
  · exact .of_right (intBits_le_64 h1 h2)
theorem two_pow_nn (k : Nat) : (0 : Int) ≤ 2 ^ k := by
  rw [two_pow_cast]
  exact Int.natCast_nonneg _

theorem op_add : OpR X (binaryOp .Add) (rI0 fun i j => .int (i + j)) := opI0 fun _ _ _ _ _ _ _ q => add_int q
theorem op_sub : OpR X (binaryOp .Sub) (rI0 fun i j => .int (i - j)) := opI0 fun _ _ _ _ _ _ _ q => sub_int q
theorem op_mul : OpR X (binaryOp .Mult) (rI CMul fun i j => .int (i * j)) := opI fun _ _ _ _ _ _ _ hc q => mul_int q hc.ok
/-- // by a positive divisor -/
theorem op_fdiv : OpR X (binaryOp .FloorDiv) (rI CDiv fun i j => .int (i / j)) := opI fun i j _ _ _ _ _ hc q => by
  have h1 : (0 : Int) < j := hc.1
  have h2 : j < 1073741824 := hc.2
  exact floordiv_int (by omega) (by rw [Int.fdiv_eq_ediv_of_nonneg i (by omega)]; exact q) (.inl (PyProof.noPylong_small (by omega)))
/-- % by a positive divisor of any size -/
theorem op_mod : OpR X (binaryOp .Mod) (rI (fun _ j => 0 < j) fun i j => .int (i % j)) := opI fun i j _ _ _ _ _ hc q => by
  have h1 : (0 : Int) < j := hc
  exact mod_int' (by omega) (by rw [Int.fmod_eq_emod_of_nonneg i (by omega)]; exact q)
theorem op_pow : OpR X (binaryOp .Pow) (rI CPow fun i j => .int (i ^ j.toNat)) := opI fun _ _ _ _ _ _ _ hc q => pow_int_small hc.1 hc.2.1 hc.2.2 q
theorem op_shl : OpR X (binaryOp .LShift) (rI CPow fun i j => .int (i * 2 ^ j.toNat)) := opI fun _ _ _ _ _ _ _ hc q => lshift_int_small hc.1 hc.2.1 hc.2.2 q
theorem op_shr : OpR X (binaryOp .RShift) (rI (fun _ j => 0 ≤ j) fun i j => .int (i / 2 ^ j.toNat)) := opI fun i j _ _ _ _ _ hc q =>
  rshift_int hc (by rw [Int.fdiv_eq_ediv_of_nonneg i (two_pow_nn _)]; exact q)
theorem op_and : OpR X (binaryOp .BitAnd) (rI0 fun i j => .int (Builtin.bitAnd i j)) := opI0 fun _ _ _ _ _ _ _ q => and_int q
theorem op_or : OpR X (binaryOp .BitOr) (rI0 fun i j => .int (Builtin.bitOr i j)) := opI0 fun _ _ _ _ _ _ _ q => or_int q
theorem op_xor : OpR X (binaryOp .BitXor) (rI0 fun i j => .int (Builtin.bitXor i j)) := opI0 fun _ _ _ _ _ _ _ q => xor_int q


theorem unI {f : Value → Sem Value} {g : Int → Int}
    (rule : ∀ (i : Int) (t : Tok) (s : Shared) (Q : Value → Shared → Prop) (E : Value → Shared → Prop), Q (.int (g i) s.toks) { s with toks := s.toks + 1 } → wpAny (model X.prog X.w) X.A (f (.int i t)) Q E s) :
    UnR X f (rU fun i => .int (g i)) := by
  intro pins s σ H x v Q I rx h
  obtain ⟨i, rfl, q⟩ := h
  obtain ⟨t, rfl⟩ := rx
  exact rule i t s _ _ ⟨.int (g i), H, I.tok _, ⟨_, rfl⟩, q⟩
theorem un_neg : UnR X (unaryOp .USub) (rU fun i => .int (-i)) := unI fun _ _ _ _ _ q => neg_int q

/-! ### bools among ints: n += (a < b) -/
end

/-! ### comparisons -/
/-- the scalars that == tells apart as data does -/
def scal : V → V → Bool
  | .non, .non => true | .non, .int _ => true | .int _, .non => true | .non, .bl _ => true | .bl _, .non => true | .non, .str _ => true | .str _, .non => true
  | .int _, .int _ => true | .bl _, .bl _ => true | .str _, .str _ => true | .byt _, .byt _ => true
  | .int _, .str _ => true | .str _, .int _ => true | .bl _, .str _ => true | .str _, .bl _ => true
  | _, _ => false
def rEq : R2 := fun x y H Q => scal x y = true ∧ Q (.bl (decide (x = y))) H
def rNe : R2 := fun x y H Q => scal x y = true ∧ Q (.bl (!decide (x = y))) H

theorem dec_int {i j : Int} : decide (V.int i = V.int j) = (i == j) := by
  rw [Bool.eq_iff_iff]
  simp
theorem dec_bl {i j : Bool} : decide (V.bl i = V.bl j) = (i == j) := by
  rw [Bool.eq_iff_iff]
  simp
theorem dec_str {i j : Str} : decide (V.str i = V.str j) = (i == j) := by
  rw [Bool.eq_iff_iff]
  simp
theorem dec_byt {i j : Array UInt8} : decide (V.byt i = V.byt j) = (i.toList == j.toList) := by
  rw [Bool.eq_iff_iff]
  cases i
  cases j
  simp

section
variable {X : Cx} {a b c : Expr} {ta tb tc : TE} {pos : Pos}
theorem fin_bl {pins : List (Addr × Obj)} {σ : St} {H : Hp} {s : Shared} {Q : VK} {k k' : Bool} (I : Inv X pins σ H s) (q : Q (.bl k) H) (e : k = k') : EP X pins σ Q (.bool k') s := by
  subst e
  exact ⟨.bl k, H, I, rfl, q⟩
theorem op_eq : OpR X (compareOp .Eq) rEq := by
  intro pins s σ H x y v u Q I rx ry h
  obtain ⟨hs, q⟩ := h
  cases x with
  | non =>
    cases rx
    cases y with
    | non => cases ry; exact PySem.EqNone.eq_none_none (fin_bl I q (by simp))
    | bl j => cases ry; exact PySem.EqNone.eq_none_bool (fin_bl I q (by simp))
    | int j => obtain ⟨t', rfl⟩ := ry; exact PySem.EqNone.eq_none_int (fin_bl I q (by simp))
    | str j => obtain ⟨t', rfl⟩ := ry; exact PySem.EqNone.eq_none_str (fin_bl I q (by simp))
    | _ => exact absurd (show false = true from hs) Bool.false_ne_true
  | bl i =>
    cases rx
    cases y with
    | non => cases ry; exact PySem.EqNone.eq_bool_none (fin_bl I q (by simp))
    | bl j => cases ry; exact eq_bool (fin_bl I q dec_bl)
    | str j => obtain ⟨t', rfl⟩ := ry; exact PySem.EqMixed.eq_bool_str (fin_bl I q (by simp))
    | _ => exact absurd (show false = true from hs) Bool.false_ne_true
  | int i =>
    obtain ⟨t, rfl⟩ := rx
    cases y with
    | non => cases ry; exact PySem.EqNone.eq_int_none (fin_bl I q (by simp))
    | int j => obtain ⟨t', rfl⟩ := ry; exact eq_int (fin_bl I q dec_int)
    | str j => obtain ⟨t', rfl⟩ := ry; exact PySem.EqMixed.eq_int_str (fin_bl I q (by simp))
    | _ => exact absurd (show false = true from hs) Bool.false_ne_true
  | str i =>
    obtain ⟨t, rfl⟩ := rx
    cases y with
    | non => cases ry; exact PySem.EqNone.eq_str_none (fin_bl I q (by simp))
    | bl j => cases ry; exact PySem.EqMixed.eq_str_bool (fin_bl I q (by simp))
    | int j => obtain ⟨t', rfl⟩ := ry; exact PySem.EqMixed.eq_str_int (fin_bl I q (by simp))
    | str j => obtain ⟨t', rfl⟩ := ry; exact eq_str (fin_bl I q dec_str)
    | _ => exact absurd (show false = true from hs) Bool.false_ne_true
  | byt i =>
    obtain ⟨t, rfl⟩ := rx
    cases y with
    | byt j => obtain ⟨t', rfl⟩ := ry; exact PySem.W.eq_bytes (fin_bl I q dec_byt)
    | _ => exact absurd (show false = true from hs) Bool.false_ne_true
  | _ => cases y <;> exact absurd (show false = true from hs) Bool.false_ne_true
theorem op_ne : OpR X (compareOp .NotEq) rNe := by
  intro pins s σ H x y v u Q I rx ry h
  obtain ⟨hs, q⟩ := h
  cases x with
  | non =>
    cases rx
    cases y with
    | non => cases ry; exact PySem.EqNone.ne_none_none (fin_bl I q (by simp))
    | bl j => cases ry; exact PySem.EqNone.ne_none_bool (fin_bl I q (by simp))
    | int j => obtain ⟨t', rfl⟩ := ry; exact PySem.EqNone.ne_none_int (fin_bl I q (by simp))
    | str j => obtain ⟨t', rfl⟩ := ry; exact PySem.EqNone.ne_none_str (fin_bl I q (by simp))
    | _ => exact absurd (show false = true from hs) Bool.false_ne_true
  | bl i =>
    cases rx
    cases y with
    | non => cases ry; exact PySem.EqNone.ne_bool_none (fin_bl I q (by simp))
    | bl j => cases ry; exact ne_bool (fin_bl I q (congrArg not dec_bl))
    | str j => obtain ⟨t', rfl⟩ := ry; exact PySem.EqMixed.ne_bool_str (fin_bl I q (by simp))
    | _ => exact absurd (show false = true from hs) Bool.false_ne_true
  | int i =>
    obtain ⟨t, rfl⟩ := rx
    cases y with
    | non => cases ry; exact PySem.EqNone.ne_int_none (fin_bl I q (by simp))
    | int j => obtain ⟨t', rfl⟩ := ry; exact ne_int (fin_bl I q (congrArg not dec_int))
    | str j => obtain ⟨t', rfl⟩ := ry; exact PySem.EqMixed.ne_int_str (fin_bl I q (by simp))
    | _ => exact absurd (show false = true from hs) Bool.false_ne_true
  | str i =>
    obtain ⟨t, rfl⟩ := rx
    cases y with
    | non => cases ry; exact PySem.EqNone.ne_str_none (fin_bl I q (by simp))
    | bl j => cases ry; exact PySem.EqMixed.ne_str_bool (fin_bl I q (by simp))
    | int j => obtain ⟨t', rfl⟩ := ry; exact PySem.EqMixed.ne_str_int (fin_bl I q (by simp))
    | str j => obtain ⟨t', rfl⟩ := ry; exact ne_str (fin_bl I q (congrArg not dec_str))
    | _ => exact absurd (show false = true from hs) Bool.false_ne_true
  | byt i =>
    obtain ⟨t, rfl⟩ := rx
    cases y with
    | byt j => obtain ⟨t', rfl⟩ := ry; exact PySem.W.ne_bytes (fin_bl I q (congrArg not dec_byt))
    | _ => exact absurd (show false = true from hs) Bool.false_ne_true
  | _ => cases y <;> exact absurd (show false = true from hs) Bool.false_ne_true

theorem op_lt : OpR X (compareOp .Lt) (rI0 fun i j => .bl (decide (i < j))) := opB0 fun _ _ _ _ _ _ _ q => lt_int q
theorem op_le : OpR X (compareOp .LtE) (rI0 fun i j => .bl (decide (i ≤ j))) := opB0 fun _ _ _ _ _ _ _ q => le_int q
theorem op_gt : OpR X (compareOp .Gt) (rI0 fun i j => .bl (decide (j < i))) := opB0 fun _ _ _ _ _ _ _ q => gt_int q
theorem op_ge : OpR X (compareOp .GtE) (rI0 fun i j => .bl (decide (j ≤ i))) := opB0 fun _ _ _ _ _ _ _ q => ge_int q
/-- the one string within the other -/
theorem op_in_str : OpR X (compareOp .In) (fun x y H Q => ∃ i j, x = .str i ∧ y = .str j ∧ Q (.bl (!(Builtin.Str.occurrences j i 0 j.length 1).isEmpty)) H) := by
  intro pins s σ H x y v u Q I rx ry h
  obtain ⟨i, j, rfl, rfl, q⟩ := h
  obtain ⟨t, rfl⟩ := rx
  obtain ⟨t', rfl⟩ := ry
  exact in_str (fin_bl I q rfl)

/-- is None, is not None: the right side a value none -/
theorem op_isN : OpR X (compareOp .Is) (fun x y H Q => y = .non ∧ Q (.bl (decide (x = .non))) H) := by
  intro pins s σ H x y v u Q I rx ry h
  obtain ⟨rfl, q⟩ := h
  cases ry
  refine is_none_gen (fin_bl I q ?_)
  cases x <;> first
    | (cases rx; rfl)
    | (obtain ⟨t, rfl⟩ := rx; rfl)

theorem op_notin_str : OpR X (compareOp .NotIn) (fun x y H Q => ∃ i j, x = .str i ∧ y = .str j ∧ Q (.bl (!(!(Builtin.Str.occurrences j i 0 j.length 1).isEmpty))) H) := by
  intro pins s σ H x y v u Q I rx ry h
  obtain ⟨i, j, rfl, rfl, q⟩ := h
  obtain ⟨t, rfl⟩ := rx
  obtain ⟨t', rfl⟩ := ry
  exact notIn_str (fin_bl I q rfl)


theorem nomark (b : Expr) {op : CmpOp} (h : op ≠ .In := by decide) (h2 : op ≠ .NotIn := by decide) : behindInMarks op b = false := by
  have e1 : (op == CmpOp.In) = false := by cases op <;> first | rfl | exact absurd rfl h
  have e2 : (op == CmpOp.NotIn) = false := by cases op <;> first | rfl | exact absurd rfl h2
  cases b <;> simp [behindInMarks, e1, e2]
/-- a comparison as a value; hm: nomark b, or (for in, not in) by with_unfolding_all rfl -/
theorem pe_cmpR {op : CmpOp} {r : R2} (ho : OpR X (compareOp op) r) (ha : PE X a ta) (hb : PE X b tb) (hm : behindInMarks op b = false) : PE X (.Compare a [op] [b] pos) (tOp r ta tb) := by
  intro pins s σ H Q I h
  exact wpAny_Compare1 (binT ha hb I h fun v u s2 x y H2 I2 rx ry q => ho pins s2 σ H2 x y v u Q I2 rx ry q) hm
/-- a reading of a value as a test -/
def tTest (t : TE) : TT := fun σ H Q => t σ H fun x H' => ∃ k, x = .bl k ∧ Q k H'
theorem pt_cmpR {op : CmpOp} {r : R2} (ho : OpR X (compareOp op) r) (ha : PE X a ta) (hb : PE X b tb) (hm : behindInMarks op b = false) : PT X (.Compare a [op] [b] pos) (tTest (tOp r ta tb)) := by
  intro pins s σ H Q I h
  refine wpAny_isTrue_Compare1 (thn (ha pins s σ H _ I h) fun v s1 ⟨x, H1, I1, r1, q1⟩ => thn (hb pins s1 σ H1 _ I1 q1) fun u s2 ⟨y, H2, I2, r2, q2⟩ =>
    thn (ho pins s2 σ H2 x y v u _ I2 r1 r2 q2) fun c s3 ⟨z, H3, I3, r3, k, e, q3⟩ => ?_) hm
  subst e
  cases r3
  exact wpAny_truthy_bool ⟨H3, I3, q3⟩

/-! ### truth -/
theorem line63 : (sizeLine : Nat) < 2 ^ 63 := by rw [sizeLine_eq]; decide

/-! ### strs and bytes -/
theorem op_add_str : OpR X (binaryOp .Add) (fun x y H Q => ∃ i j, x = .str i ∧ y = .str j ∧ i.length + j.length ≤ sizeLine ∧ Q (.str (i ++ j)) H) := by
  intro pins s σ H x y v u Q I rx ry h
  obtain ⟨i, j, rfl, rfl, hz, q⟩ := h
  obtain ⟨t, rfl⟩ := rx
  obtain ⟨t', rfl⟩ := ry
  exact add_str (fun t' tk => ⟨.str (i ++ j), H, I.tok _, ⟨_, rfl⟩, q⟩) hz


/-! ### scalar builtins, by CallR -/
theorem vals1 {x : V} {us : List Value} (r : Vals [x] us) : ∃ u, us = [u] ∧ RelV x u := by
  cases r with
  | cons r1 r2 => cases r2; exact ⟨_, rfl, r1⟩
theorem vals2 {x y : V} {us : List Value} (r : Vals [x, y] us) : ∃ u w', us = [u, w'] ∧ RelV x u ∧ RelV y w' := by
  cases r with
  | cons r1 r2 =>
    cases r2 with
    | cons r3 r4 => cases r4; exact ⟨_, _, rfl, r1, r3⟩
theorem call_max2 (hc : X.calm = true) : CallR X (.builtin "max") (fun xs H Q => ∃ i j, xs = [.int i, .int j] ∧ Q (.int (if j > i then j else i)) H) := by
  intro pins s σ H xs us Q I r h
  obtain ⟨i, j, rfl, q⟩ := h
  obtain ⟨u, w', rfl, ⟨t, rfl⟩, ⟨t', rfl⟩⟩ := vals2 r
  refine max_two_ints (I.ok.hd hc) fun h' tk k => ⟨_, H, I.kept k, ?_, q⟩
  by_cases hj : j > i
  · rw [if_pos hj, if_pos hj]; exact ⟨_, rfl⟩
  · rw [if_neg hj, if_neg hj]; exact ⟨_, rfl⟩
theorem call_min2 (hc : X.calm = true) : CallR X (.builtin "min") (fun xs H Q => ∃ i j, xs = [.int i, .int j] ∧ Q (.int (if j < i then j else i)) H) := by
  intro pins s σ H xs us Q I r h
  obtain ⟨i, j, rfl, q⟩ := h
  obtain ⟨u, w', rfl, ⟨t, rfl⟩, ⟨t', rfl⟩⟩ := vals2 r
  refine min_two_ints (I.ok.hd hc) fun h' tk k => ⟨_, H, I.kept k, ?_, q⟩
  by_cases hj : j < i
  · rw [if_pos hj, if_pos hj]; exact ⟨_, rfl⟩
  · rw [if_neg hj, if_neg hj]; exact ⟨_, rfl⟩
theorem call_int1 : CallR X (.type "int") (fun xs H Q => (∃ i, xs = [.int i] ∧ Q (.int i) H) ∨ ∃ k, xs = [.bl k] ∧ Q (.int (if k then 1 else 0)) H) := by
  intro pins s σ H xs us Q I r h
  rcases h with ⟨i, rfl, q⟩ | ⟨k, rfl, q⟩
  · obtain ⟨u, rfl, t, rfl⟩ := vals1 r
    exact call_int_int ⟨.int i, H, I, ⟨_, rfl⟩, q⟩
  · obtain ⟨u, rfl, r1⟩ := vals1 r
    cases r1
    exact call_int_bool ⟨.int (if k then 1 else 0), H, I.tok _, ⟨_, rfl⟩, q⟩
theorem call_str_int : CallR X (.type "str") (fun xs H Q => ∃ i, xs = [.int i] ∧ i.natAbs.log2 < 1920 ∧ Q (.str (toString i)) H) := by
  intro pins s σ H xs us Q I r h
  obtain ⟨i, rfl, hz, q⟩ := h
  obtain ⟨u, rfl, t, rfl⟩ := vals1 r
  exact PySem.P.str_of_int hz ⟨.str _, H, I.tok _, ⟨_, rfl⟩, q⟩
end
end L2

namespace L2
open PySem PySem.Spec PyProof.Rows

/-! ### an instance, its attributes a map -/
structure ObjM (h : Heap) (x dx C : Addr) (mA : Str → Option Value) : Prop where
  obj : h.get? x = some (PySem.W.instObj C dx)
  ns : h.Ns1 dx mA
  ne : dx ≠ x

theorem lookIn_ns {h : Heap} {dx : Addr} {mA : Str → Option Value} (n : h.Ns1 dx mA) : ∃ od, h.get? dx = some od ∧ ∀ name, PySem.W.lookIn name od = some (mA name) := by
  obtain ⟨o, es, ep, ho, hd, hk, _, hm⟩ := n
  refine ⟨o, ho, fun name => ?_⟩
  have e := hm name
  unfold nsFind findBy at e
  rw [← Array.find?_toList] at e
  unfold PySem.W.lookIn
  rw [hd]
  dsimp only
  split
  · rename_i y q
    rw [q] at e
    exact congrArg some e
  · rename_i q
    rw [q] at e
    have a : es.toList.any (·.refKey) = false := by
      rw [List.any_eq_false]
      intro y hy
      obtain ⟨z, t, hkey⟩ := hk y (Array.mem_toList_iff.mp hy)
      simp [DictEntry.refKey, hkey]
    have a' : ¬ es.toList.any (·.refKey) = true := by rw [a]; exact Bool.false_ne_true
    rw [if_neg a']
    exact congrArg some e

theorem ObjM.look {h : Heap} {x dx C : Addr} {mA : Str → Option Value} (I : ObjM h x dx C mA) : ∃ od, PySem.W.InstAt h x (PySem.W.instObj C dx) C (some od) ∧ ∀ name, PySem.W.lookIn name od = some (mA name) :=
  let ⟨od, ho, hl⟩ := lookIn_ns I.ns
  ⟨od, ⟨I.obj, rfl, rfl, ho⟩, hl⟩

section
variable {prog : Program} {w : World} {A : Around} {E : Value → Shared → Prop} {s : Shared} {K : PySem.W.Frag} {x dx C f : Addr} {mA : Str → Option Value} {name : Str} {v : Value}





end

/-! ### the attributes as a list of pairs -/

theorem RelO.some_of {v : V} {o : Option Value} (r : RelO (some v) o) : ∃ u, o = some u ∧ RelV v u := by
  cases o with
  | none => exact (show False from r).elim
  | some u => exact ⟨u, rfl, r⟩
theorem handed_of {v : V} {u : Value} (r : RelV v u) : PySem.W.handedIn u = true := by
  cases v with
  | non => cases (show u = Value.none from r); rfl
  | bl b => cases (show u = Value.bool b from r); rfl
  | int i => obtain ⟨t, e⟩ := (show ∃ t, u = Value.int i t from r); cases e; rfl
  | str x => obtain ⟨t, e⟩ := (show ∃ t, u = Value.str x t from r); cases e; rfl
  | byt b => obtain ⟨t, e⟩ := (show ∃ t, u = Value.bytes b t from r); cases e; rfl
  | flt b => obtain ⟨t, e⟩ := (show ∃ t, u = Value.float b t from r); cases e; rfl
  | ref a => cases (show u = Value.ref a from r); rfl
  | ty n => cases (show u = Value.type n from r); rfl

section
variable {P : Program} {w : World} {H H' : Hp} {h h' : Heap} {a C dx : Addr} {fs fs' : List (Str × V)}
theorem ins_get (hok : HOk P w H h) (e : H a = some (.ins C dx fs)) : ∃ mA, ObjM h a dx C mA ∧ (∀ f, RelO (fs.lookup f) (mA f)) ∧ PySem.Within mA (fs.map (·.1)) ∧ fs.length ≤ 1000 ∧ H dx = some (.own a) := by
  obtain ⟨d, z, ne, ob, mA, n, r, q⟩ := (show ObjOk P w H h a (.ins C dx fs) from hok a _ e)
  exact ⟨mA, ⟨ob, n, ne⟩, r, q, z, d⟩
end

/-! ### what of the text a class must have -/
structure Cls (K : PySem.W.Frag) (C : Addr) : Prop where
  pg : PySem.W.plainGet K C Str.empty = true
  hd : PySem.W.hasDictIn K C = true
  po : PySem.W.plainOver K C = true
  sa : PySem.W.findIn K (.ref C) "__setattr__" = some (some (.builtin "object.__setattr__"))
theorem Cls.get {K : PySem.W.Frag} {C : Addr} (c : Cls K C) (f : Str) : PySem.W.plainGet K C f = true := c.pg

section
variable {X : Cx} {pins : List (Addr × Obj)} {σ : St} {H : Hp} {s : Shared} {a C dx : Addr} {fs : List (Str × V)} {f : Str} {v : V} {A : Around} {E : Value → Shared → Prop}






/-- e.f where nothing but the object is asked: through attributeBase (super) and the last hold -/
theorem attr_of {prog : Program} {w : World} {env : Env} {e : Expr} {f : Str} {pos : Pos} {s : Shared} {Q : Value → Shared → Prop} (hb : attributeBase e f env (eval e env) = eval e env)
    (h : wpAny (model prog w) A (eval e env) (fun o s₁ => wpAny (model prog w) A (getAttr o f true) Q E s₁) E s) : wpAny (model prog w) A (eval (.Attribute e f pos) env) Q E s :=
  Attribute_any_ h (by rw [arm_eval_Attribute, hb])
end

/-! ### readings and rules -/

section
variable {X : Cx} {o e value : Expr} {f : Str} {pos pos' tpos : Pos} {ta tv : TE}

end

/-! ### isinstance -/
section
variable {X : Cx} {pins : List (Addr × Obj)} {σ : St} {H : Hp} {s : Shared} {A : Around} {E : Value → Shared → Prop} {Q : Value → Shared → Prop} {c : Value} {b : Bool}
/-- the type of a value, as the fragment's deciders take it; for an instance its class -/
inductive TyOf (K : PySem.W.Frag) (H : Hp) : V → Value → Prop where
  | non : TyOf K H .non (.type "NoneType")
  | bl (x : Bool) : TyOf K H (.bl x) (.type "bool")
  | int (i : Int) : TyOf K H (.int i) (.type "int")
  | str (x : Str) : TyOf K H (.str x) (.type "str")
  | flt (x : UInt64) : TyOf K H (.flt x) (.type "float")
  | lst {a : Addr} {xs : List V} (e : H a = some (.lst xs)) : TyOf K H (.ref a) (.type "list")
  | frz {a : Addr} {o : Obj} {xs : List V} (e : H a = some (.frz o (.lst xs))) : TyOf K H (.ref a) (.type "list")
  | tup {a : Addr} {xs : List V} (e : H a = some (.tup xs)) : TyOf K H (.ref a) (.type "tuple")
  | dK {a : Addr} {kvs : List (Key × V)} (e : H a = some (.dK kvs)) : TyOf K H (.ref a) (.type "dict")
  | dT {a : Addr} {kvs : List (List Key × V)} (e : H a = some (.dT kvs)) : TyOf K H (.ref a) (.type "dict")
  | ins {a C dx : Addr} {fs : List (Str × V)} (e : H a = some (.ins C dx fs)) (cl : Cls K C) (ha : PySem.W.findIn K (.ref C) "__class__" = some (some (.builtin "object.__class__")))
      (hn : PySem.W.specialIn K (.builtin "object.__class__") "__get__" = some (some (.builtin "getset_descriptor.__get__"))) (htk : PySem.W.takesIn K (.builtin "object.__class__") = some true)
      (hm : PySem.W.mroIn K C (.type "object") = some true) : TyOf K H (.ref a) (.ref C)
/-- isinstance(x, c) for one class c, a built-in or an own one: kitOne's answer -/
theorem isinst_ok {x : V} {u t : Value} (I : Inv X pins σ H s) (rx : RelV x u) (ty : TyOf X.K H x t) (e : PySem.W.kitOne X.K t c = some b) (h : ∀ tk, Q (.bool b) { s with toks := tk }) :
    wpAny (model X.prog X.w) A (call (.builtin "isinstance") [u, c]) Q E s := by
  cases ty with
  | non => cases (show u = Value.none from rx); exact PySem.W.kia_one PySem.W.kitx_none I.kIn True.intro e (fun z => nomatch z) h
  | bl y => cases (show u = Value.bool y from rx); exact PySem.W.kia_one PySem.W.kitx_bool I.kIn True.intro e (fun z => nomatch z) h
  | int i => obtain ⟨t, q⟩ := (show ∃ t, u = Value.int i t from rx); cases q; exact PySem.W.kia_one PySem.W.kitx_int I.kIn True.intro e (fun z => nomatch z) h
  | str y => obtain ⟨t, q⟩ := (show ∃ t, u = Value.str y t from rx); cases q; exact PySem.W.kia_one PySem.W.kitx_str I.kIn True.intro e (fun z => nomatch z) h
  | flt y => obtain ⟨t, q⟩ := (show ∃ t, u = Value.float y t from rx); cases q; exact PySem.W.kia_one PySem.W.kitx_float I.kIn True.intro e (fun z => nomatch z) h
  | @lst a xs ea =>
    cases (show u = Value.ref a from rx)
    obtain ⟨_, _, n, _, h1⟩ := (show ObjOk X.prog X.w H s.heap a (.lst xs) from I.hok a _ ea)
    exact PySem.W.kia_one PySem.W.kitx_list I.kIn ⟨_, h1, rfl⟩ e (fun z => nomatch z) h
  | @frz a ob xs ea =>
    cases (show u = Value.ref a from rx)
    obtain ⟨_, _, _, n, _, h1⟩ := (show ObjOk X.prog X.w H s.heap a (.frz ob (.lst xs)) from I.hok a _ ea)
    exact PySem.W.kia_one PySem.W.kitx_list I.kIn ⟨_, h1, rfl⟩ e (fun z => nomatch z) h
  | @tup a xs ea =>
    cases (show u = Value.ref a from rx)
    obtain ⟨_, _, _, p⟩ := (show ObjOk X.prog X.w H s.heap a (.tup xs) from I.hok a _ ea)
    obtain ⟨o, h1, h2, _⟩ := p
    exact PySem.W.kia_one PySem.W.kitx_tuple I.kIn ⟨o, h1, h2⟩ e (fun z => nomatch z) h
  | @dK a kvs ea =>
    cases (show u = Value.ref a from rx)
    obtain ⟨_, _, vs, _, p⟩ := (show ObjOk X.prog X.w H s.heap a (.dK kvs) from I.hok a _ ea)
    obtain ⟨o, es, ep, h1, h2, _⟩ := p
    exact PySem.W.kia_one PySem.W.kitx_dict I.kIn ⟨o, h1, h2.1⟩ e (fun z => nomatch z) h
  | @dT a kvs ea =>
    cases (show u = Value.ref a from rx)
    obtain ⟨_, _, xs, _, o, es, ep, h1, h2, _⟩ := (show ObjOk X.prog X.w H s.heap a (.dT kvs) from I.hok a _ ea)
    exact PySem.W.kia_one PySem.W.kitx_dict I.kIn ⟨o, h1, h2.1⟩ e (fun z => nomatch z) h
  | @ins a C dx fs ea cl ha hn htk hm =>
    cases (show u = Value.ref a from rx)
    obtain ⟨mA, O, _⟩ := ins_get I.hok ea
    obtain ⟨od, J, _⟩ := O.look
    exact PySem.W.kia_one (PySem.W.kitx_own (cl.get _) cl.hd ha hn htk hm) I.kIn J e (fun z => nomatch z) h
end
end L2

namespace L2
open PySem PySem.Spec PyProof.Rows

/-! ### room -/
structure Room (k : Nat) (A : Around) : Prop where
  hd : A.handled = none
  dp : A.depth + 3 * k + 5 < recursionLimit
  un : A.units + 16 * k + 200 < cLine
theorem Room.mono {j k : Nat} {A : Around} (r : Room k A) (h : j ≤ k) : Room j A := ⟨r.hd, by have := r.dp; omega, by have := r.un; omega⟩
theorem Room.deeper {k : Nat} {A : Around} (r : Room (k + 1) A) (env : Env) : Room k (A.deeper env) :=
  ⟨r.hd, by have := r.dp; show A.depth + 1 + 3 * k + 5 < _; omega, by have := r.un; show A.units + 3 + 16 * k + 200 < _; omega⟩
theorem make_depth {A : Around} {C : Addr} {us : List Value} {kw : List (Str × Value)} : (A.under (.builtin "type.__call__" ⟨.ref C :: us, kw⟩)).depth = A.depth + 1 := by
  first | rfl | simp [Around.under, Code.weight, Code.isCreation, Code.isGuard, Code.isCaller, Code.frames, Code.isFrame, guardIds]
theorem make_units {A : Around} {C : Addr} {us : List Value} {kw : List (Str × Value)} : (A.under (.builtin "type.__call__" ⟨.ref C :: us, kw⟩)).units = A.units + 1 := by
  first | rfl | simp [Around.under, Code.cUnits, Code.frames, Code.isFrame]
theorem Room.make {k : Nat} {A : Around} (r : Room (k + 1) A) (C : Addr) (us : List Value) (kw : List (Str × Value)) : Room k (A.under (.builtin "type.__call__" ⟨.ref C :: us, kw⟩)) :=
  ⟨r.hd, by have := r.dp; rw [make_depth]; omega, by have := r.un; rw [make_units]; omega⟩
theorem Room.depth {k : Nat} {A : Around} (r : Room k A) : A.depth < recursionLimit := by have := r.dp; omega
theorem Room.units {k : Nat} {A : Around} (r : Room k A) : A.units + 64 < cLine := by have := r.un; omega

/-! ### argument lists and displays -/
def tNil : TA := fun _ H Q => Q [] H
def tCons (ta : TE) (tr : TA) : TA := fun σ H Q => ta σ H fun x H1 => tr σ H1 fun xs H2 => Q (x :: xs) H2
section
variable {X : Cx} {e : Expr} {es : List Expr} {te : TE} {t : TA} {pos : Pos}
theorem pa_nil : PA X [] tNil := fun _ _ _ _ H Q I h => Calls.spliced_nil ⟨[], H, I, .nil, h⟩
theorem pa_cons (ha : PE X e te) (hr : PA X es t) (hs : starEach (e :: es) X.env = (false, eval e X.env) :: starEach es X.env := by rfl) : PA X (e :: es) (tCons te t) := by
  intro pos pins s σ H Q I h
  rw [hs]
  show wpAny _ _ (spliced ((false, eval e X.env) :: backTo pos (starEach es X.env))) _ _ s
  refine Calls.spliced_cons (thn (ha pins s σ H _ I h) fun u s1 ⟨x, H1, I1, r1, q1⟩ => ?_)
  exact thn (hr pos pins s1 σ H1 _ I1 q1) fun us s2 ⟨xs, H2, I2, r2, q2⟩ => ⟨x :: xs, H2, I2, .cons r1 r2, q2⟩

/-- a tuple, a list of written items -/
def tTup (t : TA) : TE := fun σ H Q => t σ H fun xs H1 => xs.length ≤ sizeLine ∧ ∀ p, H1 p = none → Q (.ref p) (upd H1 p (.tup xs))
def tLst (t : TA) : TE := fun σ H Q => t σ H fun xs H1 => xs.length ≤ sizeLine ∧ ∀ p, H1 p = none → Q (.ref p) (upd H1 p (.lst xs))
theorem pe_tup {x1} (h : PA X es t) : PE X (.Tuple es x1 pos) (tTup t) := by
  intro pins s σ H Q I hq
  refine wpAny_Tuple_spliced (thn (h pos pins s σ H _ I hq) fun us s1 ⟨xs, H1, I1, r, z, q⟩ => ⟨by rw [← r.length]; exact z, ?_⟩)
  have hf : H1 s1.heap.objs.size = none := I1.hok.fresh (Nat.le_refl _)
  refine ⟨.ref s1.heap.objs.size, upd H1 s1.heap.objs.size (.tup xs), I1.laid (t' := s1.toks) (fun b u e => Heap.get?_push_of_some _ e) (Nat.le_refl _) ?_, rfl, q _ hf⟩
  exact ⟨z, us, r, ⟨_, Heap.get?_push_size _ rfl, rfl, _, rfl⟩⟩
theorem pe_lst (h : PA X es t) : PE X (.List es pos) (tLst t) := by
  intro pins s σ H Q I hq
  refine wpAny_List_spliced (thn (h pos pins s σ H _ I hq) fun us s1 ⟨xs, H1, I1, r, z, q⟩ => ⟨by rw [← r.length]; exact z, ?_⟩)
  have hf : H1 s1.heap.objs.size = none := I1.hok.fresh (Nat.le_refl _)
  refine ⟨.ref s1.heap.objs.size, upd H1 s1.heap.objs.size (.lst xs), I1.laid (t' := s1.toks) (fun b u e => Heap.get?_push_of_some _ e) (Nat.le_refl _) ?_, rfl, q _ hf⟩
  exact ⟨z, us, 0, r, Heap.get?_push_size _ rfl⟩
end

/-! ### what a def promises -/
/-- a def's promise: the bound arguments in the parameters' order, the heap, the wanted end, the wanted exception -/
abbrev Sp := List V → Hp → VK → XK → Prop
/-- how an exception lies behind a call (file 08 gives it): the callers' frames, abstract heap and state ahead of the call, the wish, the exception, the state -/
abbrev CXT := List Env → Hp → Shared → XK → Value → Shared → Prop

/-- the state at a call -/
structure Env0 (P : Program) (w : World) (K : PySem.W.Frag) (mg : Str → Option Value) (base : Heap) (A : Around) (outer : List Env) (s : Shared) (H : Hp) : Prop where
  frames : A.frames = some outer
  mod : Mod K mg base
  bs : ∀ b o, base.get? b = some o → s.heap.get? b = some o ∧ H b = none
  bsz : base.objs.size ≤ s.heap.objs.size
  funs : s.heap.FunFrames base outer
  frf : ∀ b ∈ frs outer, H b = none
  hok : HOk P w H s.heap
  bare : AllBare s.gens
/-- a call's end -/
def CE (outer : List Env) (P : Program) (w : World) (H : Hp) (s : Shared) (Q : VK) (u : Value) (s' : Shared) : Prop :=
  ∃ v H', s'.os = s.os ∧ AllBare s'.gens ∧ Un (frs outer) [] H H' s.heap s'.heap ∧ HOk P w H' s'.heap ∧ RelV v u ∧ Q v H'
def CR (CX : CXT) (outer : List Env) (P : Program) (w : World) (H : Hp) (s : Shared) (Q : VK) (E : XK) (r : Result) (s' : Shared) : Prop :=
  match r with
  | .ok (.ret u) => CE outer P w H s Q u s'
  | .ok _ => False
  | .error e => CX outer H s E e s'
structure FnOk (P : Program) (w : World) (K : PySem.W.Frag) (mg : Str → Option Value) (base : Heap) (CX : CXT) (k : Nat) (f : Addr) (fd : FuncData) (ps : List Str) (sp : Sp) : Prop where
  len : ∀ vs H Q E, sp vs H Q E → vs.length = ps.length
  run : ∀ (A : Around) (outer : List Env) (s : Shared) (H : Hp) (args : Args) (us : List Value) (vs : List V) (Q : VK) (E : XK), Room k A → Env0 P w K mg base A outer s H → BindsTo s fd args (ps.zip us) → Vals vs us → sp vs H Q E →
    codeAny (model P w) A (.call (.ref f) args) (CR CX outer P w H s Q E) s

theorem Env0.make {P : Program} {w : World} {K : PySem.W.Frag} {mg : Str → Option Value} {base : Heap} {A : Around} {outer : List Env} {s : Shared} {H : Hp} (e : Env0 P w K mg base A outer s H) (C : Addr) (us : List Value) (kw : List (Str × Value)) :
    Env0 P w K mg base (A.under (.builtin "type.__call__" ⟨.ref C :: us, kw⟩)) outer s H := ⟨by first | exact e.frames | (simpa [Around.under, Code.envs, Code.isFrame, pushEnvs] using e.frames), e.mod, e.bs, e.bsz, e.funs, e.frf, e.hok, e.bare⟩

section
variable {X : Cx} {pins : List (Addr × Obj)} {σ : St} {H : Hp} {s s' : Shared}
/-- from a body: what a callee wants -/
theorem Inv.env0 (I : Inv X pins σ H s) : Env0 X.prog X.w X.K X.mg X.base X.A X.stack s H :=
  ⟨I.ok.frames, I.ok.mod, I.bs, Nat.le_trans I.ok.bsz I.sz, I.stack, I.stkFree, I.hok, I.bare⟩
/-- behind a call -/
theorem Inv.after {Q : VK} {u : Value} (I : Inv X pins σ H s) (h : CE X.stack X.prog X.w H s Q u s') : EP X pins σ Q u s' := by
  obtain ⟨v, H', os, bare, un, hok, r, q⟩ := h
  obtain ⟨hh, g, d, t, os'⟩ := s'
  obtain rfl : os' = s.os := os
  exact ⟨v, H', I.call (h' := hh) (g' := g) (d' := d) (t' := t) (ch := []) un hok bare (fun b z => absurd z (by simp)), r, q⟩
end

/-! ### calls -/
/-- f(..): the written arguments, then the defaults dvs; E: what is wanted of an exception -/
def tCall (sp : Sp) (dvs : List V) (E : XK) (t : TA) : TE := fun σ H Q => t σ H fun vs H1 => sp (vs ++ dvs) H1 Q E

/-- how the parameters are bound: us the positional arguments, kw the keywords' values by name, ds the defaults that fill up -/
def Binds (K : PySem.W.Frag) (fd : FuncData) (ps : List Str) (ds : List Value) : Prop :=
  ∀ (s : Shared) (us : List Value), K.In s.heap → (us ++ ds).length = ps.length → BindsTo s fd ⟨us, []⟩ (ps.zip (us ++ ds))
/-- every parameter is given -/
theorem Binds.all {K : PySem.W.Frag} {fd : FuncData} {ps : List Str} (h : ∀ us : List Value, us.length = ps.length → bindArgs fd ⟨us, []⟩ = pure (ps.zip us)) : Binds K fd ps [] := fun s us _ hl => by
  rw [List.append_nil] at hl ⊢
  exact .of_eq (h us hl)

/-- an exception of a callee reaches what this body wants of exceptions -/
def Passes (CX : CXT) (X : Cx) (E : XK) : Prop := ∀ (pins : List (Addr × Obj)) (σ : St) (H : Hp) (s : Shared) (e : Value) (s' : Shared), Inv X pins σ H s → CX X.stack H s E e s' → X.xe e s'

section
variable {X : Cx} {CX : CXT} {k : Nat} {f C : Addr} {fd : FuncData} {ps : List Str} {sp : Sp} {dvs : List V} {ds : List Value} {E : XK} {x m : Str} {p pos apos : Pos} {e o : Expr} {es : List Expr} {ta : TE} {t : TA}

/-- the callee runs -/
theorem run_fn {pins : List (Addr × Obj)} {σ : St} {H : Hp} {s : Shared} {Q : VK} {us : List Value} {vs : List V} (F : FnOk X.prog X.w X.K X.mg X.base CX k f fd ps sp) (hr : Room k X.A) (hb : Binds X.K fd ps ds) (hd : Vals dvs ds) (hx : Passes CX X E)
    (I : Inv X pins σ H s) (r : Vals vs us) (h : sp (vs ++ dvs) H Q E) : wpAny (model X.prog X.w) X.A (call (.ref f) us) (EP X pins σ Q) X.xe s := by
  have r2 : Vals (vs ++ dvs) (us ++ ds) := r.append hd
  have hl : (us ++ ds).length = ps.length := by rw [← r2.length]; exact F.len _ _ _ _ h
  refine wpAny_call (codeAny_mono (F.run X.A X.stack s H ⟨us, []⟩ (us ++ ds) (vs ++ dvs) Q E hr I.env0 (hb s us I.kIn hl) r2 h) fun r s' hq => ?_)
  cases r with
  | error e => exact hx pins σ H s e s' I hq
  | ok fl =>
    cases fl with
    | ret u => exact I.after hq
    | next => exact False.elim hq
    | brk => exact False.elim hq
    | cont => exact False.elim hq

theorem pe_call (F : FnOk X.prog X.w X.K X.mg X.base CX k f fd ps sp) (hr : Room k X.A) (hg : Gl X x) (hm : X.mg x = some (.ref f)) (hk : PySem.W.keepIn X.K (.ref f) = true) (hb : Binds X.K fd ps ds) (hd : Vals dvs ds) (hx : Passes CX X E)
    (ha : PA X (e :: es) t) (hdb : (x == ("__debug__" : Str)) = false := by decide) (he : starEach (e :: es) X.env = (false, eval e X.env) :: starEach es X.env := by rfl) (hpl : (backTo pos (starEach es X.env)).any (·.1) = false := by rfl) :
    PE X (.Call (.Name x p) (e :: es) [] pos) (tCall sp dvs E t) := by
  intro pins s σ H Q I h
  refine wpAny_Call_Name_kw (ld_glob I hg hm ?_ hdb)
  refine PySem.W.callWith_K (h₀ := X.base) I.ok.mod.kin hk (thn (ha pos pins s σ H _ I h) fun us s1 ⟨vs, H1, I1, r, q⟩ => ⟨I1.kIn, ?_⟩) he hpl
  exact run_fn F hr hb hd hx I1 r q



end

/-! ### keywords -/
section
variable {X : Cx} {CX : CXT} {k : Nat} {f C : Addr} {fd : FuncData} {ps ks : List Str} {sp : Sp} {E : XK} {x m : Str} {p pos apos kpos : Pos} {e o : Expr} {es : List Expr} {kws : List Keyword} {te ta : TE} {t tk : TA} {nm : Option Str}

variable {g : List Value → List Value → List Value} {gV : List V → List V → List V}
end

/-! ### a def's body keeps its promise -/
/-- names: the parameters first -/
structure FnScope (N P : List Str) (sc : Scope) : Prop where
  kind : sc.kind = .function
  co : sc.isCoroutine = false
  gen : sc.isGenerator = false
  nd : N.Nodup
  pre : N.take P.length = P
  par : ∀ x ∈ P, sc.names.lookup x = some .local ∨ sc.names.lookup x = some .cell
  nofree : ∀ y ∈ sc.names, y.2 ≠ .free

theorem bindL_out {kindOf : Str → Option NameKind} {x : Str} : ∀ {binds : List (Str × Value)} {m : Str → Option Value}, (∀ v, (x, v) ∉ binds) → bindL kindOf binds m x = m x
  | [], _, _ => rfl
  | (n, v) :: r, m, h => by
    unfold bindL
    rw [bindL_out fun w hw => h w (List.mem_cons_of_mem _ hw)]
    split
    · have : x ≠ n := by rintro rfl; exact h v List.mem_cons_self
      simp [this]
    · rfl
theorem bindC_out {kindOf : Str → Option NameKind} {x : Str} : ∀ {binds : List (Str × Value)} {m : Str → Option Value}, (∀ v, (x, v) ∉ binds) → bindC kindOf binds m x = m x
  | [], _, _ => rfl
  | (n, v) :: r, m, h => by
    unfold bindC
    rw [bindC_out fun w hw => h w (List.mem_cons_of_mem _ hw)]
    split
    · rfl
    · have : x ≠ n := by rintro rfl; exact h v List.mem_cons_self
      simp [this]
theorem bindL_get {kindOf : Str → Option NameKind} {x : Str} {v : Value} : ∀ {P : List Str} {vs : List Value} {i : Nat} {m : Str → Option Value}, P.Nodup → P[i]? = some x → vs[i]? = some v → kindOf x = some .local →
    bindL kindOf (P.zip vs) m x = some v
  | [], _, _, _, _, h, _, _ => by simp at h
  | _ :: _, [], _, _, _, _, h, _ => by simp at h
  | p :: P, w :: vs, 0, m, nd, h1, h2, hk => by
    simp at h1 h2; subst h1; subst h2
    show bindL kindOf ((p, w) :: P.zip vs) m p = _
    unfold bindL
    rw [bindL_out fun v hv => (List.nodup_cons.mp nd).1 (List.of_mem_zip hv).1, if_pos hk]
    simp
  | p :: P, w :: vs, i + 1, m, nd, h1, h2, hk => by
    show bindL kindOf ((p, w) :: P.zip vs) m x = _
    unfold bindL
    exact bindL_get (i := i) (List.nodup_cons.mp nd).2 (by simpa using h1) (by simpa using h2) hk
theorem bindC_get {kindOf : Str → Option NameKind} {x : Str} {v : Value} : ∀ {P : List Str} {vs : List Value} {i : Nat} {m : Str → Option Value}, P.Nodup → P[i]? = some x → vs[i]? = some v → kindOf x ≠ some .local →
    bindC kindOf (P.zip vs) m x = some v
  | [], _, _, _, _, h, _, _ => by simp at h
  | _ :: _, [], _, _, _, _, h, _ => by simp at h
  | p :: P, w :: vs, 0, m, nd, h1, h2, hk => by
    simp at h1 h2; subst h1; subst h2
    show bindC kindOf ((p, w) :: P.zip vs) m p = _
    unfold bindC
    rw [bindC_out fun v hv => (List.nodup_cons.mp nd).1 (List.of_mem_zip hv).1, if_neg hk]
    simp
  | p :: P, w :: vs, i + 1, m, nd, h1, h2, hk => by
    show bindC kindOf ((p, w) :: P.zip vs) m x = _
    unfold bindC
    exact bindC_get (i := i) (List.nodup_cons.mp nd).2 (by simpa using h1) (by simpa using h2) hk

/-- the names' values at the entry -/
def start (N : List Str) (vs : List V) : St := vs.map some ++ List.replicate (N.length - vs.length) none

/-- the context of a def's body, at its entry; an exception leaves the frame, then lies as CX says -/
def cxOf (CX : CXT) (P : Program) (w : World) (K : PySem.W.Frag) (mg : Str → Option Value) (base : Heap) (N : List Str) (qual : Str) (scope : Scope) (f : Addr) (cd : Value) (A : Around) (outer : List Env) (s : Shared) (H : Hp) (E : XK) : Cx where
  prog := P
  w := w
  K := K
  mg := mg
  base := base
  A := A.deeper (envOfC qual scope s.heap.objs.size f cd)
  N := N
  s₀ := s
  H₀ := H
  env := envOfC qual scope s.heap.objs.size f cd
  outer := outer
  stack := envOfC qual scope s.heap.objs.size f cd :: outer
  ex := []
  calm := true
  fn := fun _ => true
  pn := []
  xe := fun e s' => wpAny (model P w) (A.deeper (envOfC qual scope s.heap.objs.size f cd)) (leaving (envOfC qual scope s.heap.objs.size f cd) e) (fun _ s'' => CX outer H s E e s'') (fun e' s'' => CX outer H s E e' s'') s'

theorem cell_has {sc : Scope} {n : Nat} {x : Str} (h : sc.names.lookup x = some .cell) : ∃ c, (cellsFrom n sc.names []).lookup x = some c := by
  have q := PySem.W.cellsFrom_some sc.names n [] (.inl h)
  exact Option.isSome_iff_exists.mp q

theorem inv_start {CX : CXT} {P : Program} {w : World} {K : PySem.W.Frag} {mg : Str → Option Value} {base : Heap} {N ps : List Str} {qual : Str} {scope : Scope} {f : Addr} {cd : Value} {A : Around} {outer : List Env} {s s1 : Shared} {H : Hp} {E : XK} {us : List Value} {vs : List V}
    (S : FnScope N ps scope) (hd : A.handled = none) (e0 : Env0 P w K mg base A outer s H) (hl : vs.length = ps.length) (r : Vals vs us)
    (x : InCallC s s.heap.objs.size (bindL (envOfC qual scope s.heap.objs.size f cd).kindOf (ps.zip us) fun _ => none) (cellsFrom (s.heap.objs.size + 1) scope.names []) (bindC (envOfC qual scope s.heap.objs.size f cd).kindOf (ps.zip us) fun _ => none) s1) :
    Inv (cxOf CX P w K mg base N qual scope f cd A outer s H E) [] (start N vs) H s1 := by
  have hpl : ps.length ≤ N.length := by have := congrArg List.length S.pre; rw [List.length_take] at this; omega
  obtain ⟨h1, tk, rfl, hk⟩ := x.done
  have noA : ∀ b : Addr, b ∉ (cxOf CX P w K mg base N qual scope f cd A outer s H E).ex := fun b z => absurd (show b ∈ ([] : List Addr) from z) (by simp)
  refine ⟨⟨e0.mod, S.kind, rfl, rfl, Nat.le_refl _, fun y z c h1 h2 => ?_, fun y hy => ?_, fun y c _ h => ?_, fun _ => hd, Around.frames_deeper e0.frames, .inr ⟨rfl, rfl⟩, fun b z => absurd z (noA b), e0.bs, e0.bsz, fun b _ _ => noA b, fun b z => absurd z (noA b), e0.funs, e0.frf⟩,
    rfl, e0.bare, Un.kept hk, ⟨_, x.toInCall.ns, fun i y v h1 h2 h3 => ?_⟩, fun y c h => ⟨_, x.cell y c h⟩, e0.hok.fresh (Nat.le_refl _), fun y c h => ?_, fun p hp => absurd (show p ∈ ([] : List (Addr × Obj)) from hp) (by simp), e0.hok.kept hk, ?_⟩
  · exact name_of_addr x.apart (PySem.mem_of_lookup h1) (PySem.mem_of_lookup h2)
  · have hy : scope.names.lookup y = some .cell ∨ scope.names.lookup y = some .free := hy
    rcases hy with hy | hy
    · exact cell_has hy
    · exact absurd rfl (S.nofree _ (PySem.mem_of_lookup hy))
  · exact Nat.le_of_lt (x.above y c (PySem.mem_of_lookup h))
  · have hi : i < vs.length := by
      unfold start at h2
      by_cases hi : i < vs.length
      · exact hi
      · rw [List.getElem?_append_right (by simpa using hi)] at h2
        rw [List.getElem?_replicate] at h2
        split at h2 <;> cases h2
    have ha : vs[i]? = some v := by
      unfold start at h2
      rw [List.getElem?_append_left (by simpa using hi), List.getElem?_map] at h2
      cases e : vs[i]? with
      | none => rw [e] at h2; cases h2
      | some a => rw [e] at h2; cases h2; rfl
    obtain ⟨u, hu, rv⟩ := r.get ha
    have hp : ps[i]? = some y := by
      rw [← S.pre, List.getElem?_take_of_lt (by omega)]; exact h1
    have ndP : ps.Nodup := by rw [← S.pre]; exact S.nd.sublist (List.take_sublist _ _)
    refine ⟨u, rv, ?_⟩
    rcases S.par y (List.mem_of_getElem? hp) with k | k
    · exact .inl ⟨k, bindL_get ndP hp hu k⟩
    · obtain ⟨c, e⟩ := cell_has (n := s.heap.objs.size + 1) k
      refine .inr ⟨.inl k, c, e, ?_⟩
      have q := x.cell y c e
      rw [bindC_get ndP hp hu (by show scope.names.lookup y ≠ _; rw [k]; decide)] at q
      exact q
  · exact e0.hok.fresh (Nat.le_of_lt (x.above y c (PySem.mem_of_lookup h)))
  · unfold start
    show _ = N.length
    rw [List.length_append, List.length_map, List.length_replicate]
    omega

/-- THE RULE: a def (or a method) of the text, by its body. The body's reading t is chosen for each entry; it is run at the parameters' values -/
theorem fn_of {CX : CXT} {P : Program} {w : World} {K : PySem.W.Frag} {mg : Str → Option Value} {base : Heap} {k : Nat} {f : Addr} {name qual : Str} {params : Arguments} {body : List Stmt} {scope : Scope} {dV kV doc pm cdv ct oc : Value} {an od : Option Addr}
    {osl : Array (Option Value)} {N ps : List Str} {sp : Sp} (lk : K.lookup f = some ⟨oc, od, .func (PySem.W.fnOf name qual params body scope dV kV doc pm an cdv ct), osl⟩) (hcd : PySem.W.codeIn K cdv qual = true) (S : FnScope N ps scope)
    (len : ∀ vs H Q E, sp vs H Q E → vs.length = ps.length)
    (hbody : ∀ (A : Around) (outer : List Env) (s : Shared) (H : Hp) (vs : List V) (Q : VK) (E : XK), Room k (A.deeper (envOfC qual scope s.heap.objs.size f cdv)) → sp vs H Q E →
      ∃ t, PSs (cxOf CX P w K mg base N qual scope f cdv A outer s H E) body t ∧ t { nx := fun _ H' => Q .non H', rt := Q } (start N vs) H) :
    FnOk P w K mg base CX (k + 1) f (PySem.W.fnOf name qual params body scope dV kV doc pm an cdv ct) ps sp := by
  refine ⟨len, fun A outer s H args us vs Q E hr e0 hb r hsp => ?_⟩
  have hl := len _ _ _ _ hsp
  have KX : K.In s.heap := e0.mod.kin.keeps fun b o e => (e0.bs b o e).1
  have lim : s.heap.NoLimit := e0.mod.nolimit.keeps fun b o e => (e0.bs b o e).1
  have hkind : ∀ y ∈ ps.zip us, scope.names.lookup y.1 = some .local ∨ (scope.names.lookup y.1 = some .cell ∧ ((cellsFrom (s.heap.objs.size + 1) scope.names []).lookup y.1).isSome = true) := fun ⟨n, v⟩ hy => by
    rcases S.par n (List.of_mem_zip hy).1 with q | q
    · exact .inl q
    · exact .inr ⟨q, PySem.W.cellsFrom_some _ _ _ (.inl q)⟩
  refine codeAny_call_function hr.depth (KX _ _ lk) rfl S.co S.gen rfl (PySem.W.codeRec_of KX hcd) (hb _ _ _ _ ?_)
  refine wpAny_newFunctionEnv_cells S.kind hkind fun env he s1 x => ?_
  subst he
  refine ⟨lim.keeps x.toInCall.keep, codeAny_func ?_⟩
  obtain ⟨t, ht, hq⟩ := hbody A outer s H vs Q E (hr.deeper _) hsp
  have I : Inv (cxOf CX P w K mg base N qual scope f cdv A outer s H E) [] (start N vs) H s1 := inv_start S hr.hd e0 hl r x
  refine wpAny_mono (ht [] s1 (start N vs) H _ I hq) (fun fl s' hs => ?_) fun e s' hs => hs
  have fin : ∀ {σ' : St} {H' : Hp} {v : V} {u : Value}, Inv (cxOf CX P w K mg base N qual scope f cdv A outer s H E) [] σ' H' s' → RelV v u → Q v H' → CE outer P w H s Q u s' :=
    fun {σ' H' v u} J rv q => ⟨v, H', J.os, J.bare, J.base, J.hok, rv, q⟩
  cases fl with
  | ret u =>
    obtain ⟨v, σ', H', J, rv, q⟩ := hs
    exact fin J rv q
  | next =>
    obtain ⟨σ', H', J, q⟩ := hs
    exact fin (v := V.non) (u := Value.none) J rfl q
  | brk =>
    obtain ⟨_, _, _, q⟩ := hs
    exact False.elim q
  | cont =>
    obtain ⟨_, _, _, q⟩ := hs
    exact False.elim q
end L2

namespace L2
open PySem PySem.Spec PyProof.Rows
section
variable {X : Cx} {x : Str} {p pos : Pos} {e : Expr} {es : List Expr} {t : TA} {id T : String} {r : List V → Hp → VK → Prop}

def tCB (r : List V → Hp → VK → Prop) (t : TA) : TE := fun σ H Q => t σ H fun vs H1 => r vs H1 Q
/-- f(e, ..), f a built-in function -/
theorem pe_callB (hc : CallR X (.builtin id) r) (hg : Gl X x) (hm : X.mg x = none) (hv : bootBuiltins x = some (.builtin id)) (ha : PA X (e :: es) t) (hn : x ≠ "__name__" := by decide) (hdb : (x == ("__debug__" : Str)) = false := by decide)
    (he : starEach (e :: es) X.env = (false, eval e X.env) :: starEach es X.env := by rfl) (hpl : (backTo pos (starEach es X.env)).any (·.1) = false := by rfl) : PE X (.Call (.Name x p) (e :: es) [] pos) (tCB r t) := by
  intro pins s σ H Q I h
  refine wpAny_Call_Name_kw (ld_blt I hg hm hv ?_ hn hdb)
  exact PyProof.Rows.callWith_builtin1 (thn (ha pos pins s σ H _ I h) fun us s1 ⟨vs, H1, I1, r1, q1⟩ => hc pins s1 σ H1 vs us Q I1 r1 q1) he hpl
/-- T(e, ..), T a built-in type -/
theorem pe_callTy (hc : CallR X (.type T) r) (hg : Gl X x) (hm : X.mg x = none) (hv : bootBuiltins x = some (.type T)) (ha : PA X (e :: es) t) (hn : x ≠ "__name__" := by decide) (hdb : (x == ("__debug__" : Str)) = false := by decide)
    (he : starEach (e :: es) X.env = (false, eval e X.env) :: starEach es X.env := by rfl) (hpl : (backTo pos (starEach es X.env)).any (·.1) = false := by rfl) : PE X (.Call (.Name x p) (e :: es) [] pos) (tCB r t) := by
  intro pins s σ H Q I h
  refine wpAny_Call_Name_kw (ld_blt I hg hm hv ?_ hn hdb)
  exact PyProof.Rows.callWith_type1 (thn (ha pos pins s σ H _ I h) fun us s1 ⟨vs, H1, I1, r1, q1⟩ => hc pins s1 σ H1 vs us Q I1 r1 q1) he hpl
end
end L2

namespace HT
open PySem PyProof.Rows



section
open PySem.SeqAt
open PySem.AutoSeq1 (wpAny_loadPart')
open PySem.MeetsSeq PySem.MeetsSeq2 PySem.MeetsSeq3

end

section
variable {prog : Program} {w : World} {A : Around} {E : Value → Shared → Prop} {s : Shared}



/-! ### t[a:b], not the whole -/
/-- a slice's bound as a place among n (d where it is left out) -/
def sIx (n d : Nat) : Option Int → Nat
  | none => d
  | some v => if v < 0 then (v + (n : Int)).toNat else min v.toNat n
theorem sIx_none (n d : Nat) : sIx n d none = d := rfl
theorem sIx_nat (n d k : Nat) : sIx n d (some (k : Int)) = min k n := by
  show (if (k : Int) < 0 then ((k : Int) + (n : Int)).toNat else min (k : Int).toNat n) = min k n
  rw [if_neg (by omega), Int.toNat_natCast]

end
end HT

namespace L2
open PySem PySem.Spec PyProof.Rows

/-! ### the parts of a slice -/
abbrev TO := St → Hp → (Option Int → Hp → Prop) → Prop
/-- a slice's part (left out, or an int) -/
def PO (X : Cx) (e : Option Expr) (t : TO) : Prop :=
  ∀ (pins : List (Addr × Obj)) (s : Shared) (σ : St) (H : Hp) (Q : Option Int → Hp → Prop), Inv X pins σ H s → t σ H Q →
    wpAny (model X.prog X.w) X.A (evalPart e X.env) (fun u s' => ∃ o H', Inv X pins σ H' s' ∧ IsPart u o ∧ Q o H') X.xe s
def tNoPart : TO := fun _ H Q => Q none H
def tPart (t : TE) : TO := fun σ H Q => t σ H fun x H1 => ∃ i, x = .int i ∧ Q (some i) H1


section
variable {X : Cx} {e : Expr} {te : TE} {lo hi : Option Expr} {tl th : TO} {pos p2 : Pos}

theorem po_none : PO X none tNoPart := by
  intro pins s σ H Q I h
  rw [evalPart_none]
  exact wpAny_pure ⟨none, H, I, .none, h⟩
theorem po_some (h : PE X e te) : PO X (some e) (tPart te) := by
  intro pins s σ H Q I hw
  rw [evalPart_some]
  refine thn (h pins s σ H _ I hw) fun u s1 ⟨x, H1, I1, r1, q1⟩ => ?_
  obtain ⟨i, rfl, q⟩ := q1
  obtain ⟨t, rfl⟩ := r1
  exact ⟨some i, H1, I1, .int i t, q⟩

/-- what a slice of a value is, by values: the slice object stands at sl -/
def SlR (X : Cx) (r : V → Option Int → Option Int → Hp → VK → Prop) : Prop :=
  ∀ (pins : List (Addr × Obj)) (s : Shared) (σ : St) (H : Hp) (x : V) (v vl vu : Value) (lo hi : Option Int) (sl : Addr) (Q : VK), Inv X pins σ H s → RelV x v → s.heap.IsSliceOf sl vl vu .none → IsPart vl lo → IsPart vu hi → r x lo hi H Q →
    ∃ T id, typeLookup (.type T) "__getitem__" = pure (some (.builtin id)) ∧ s.TypeIs v T ∧ wpAny (model X.prog X.w) X.A (getItem v (.ref sl)) (EP X pins σ Q) X.xe s
def tSl (r : V → Option Int → Option Int → Hp → VK → Prop) (te : TE) (tl th : TO) : TE := fun σ H Q => te σ H fun x H1 => tl σ H1 fun l H2 => th σ H2 fun u H3 => r x l u H3 Q
/-- a[lo:hi], any a -/
theorem pe_slice {r : V → Option Int → Option Int → Hp → VK → Prop} (hr : SlR X r) (he : PE X e te) (hl : PO X lo tl) (hu : PO X hi th) : PE X (.Subscript e (.Slice lo hi none p2) pos) (tSl r te tl th) := by
  intro pins s σ H Q I h
  refine Subscript_ (thn (he pins s σ H _ I h) fun v s1 ⟨x, H1, I1, r1, q1⟩ => ?_)
  refine wpAny_Slice (thn (hl pins s1 σ H1 _ I1 q1) fun vl s2 ⟨l, H2, I2, pl, q2⟩ => thn (hu pins s2 σ H2 _ I2 q2) fun vu s3 ⟨u, H3, I3, pu, q3⟩ => ?_)
  rw [evalPart_none]
  refine wpAny_pure ?_
  have I4 : Inv X pins σ H3 { s3 with heap := s3.heap.push { cls := .type "slice", data := .fields #[vl, vu, .none] } } := I3.kept (t' := s3.toks) fun b ob q => Heap.get?_push_of_some _ q
  obtain ⟨T, id, hT, ht, hg⟩ := hr pins { s3 with heap := s3.heap.push { cls := .type "slice", data := .fields #[vl, vu, .none] } } σ H3 x v vl vu l u s3.heap.objs.size Q I4 r1 (Heap.IsSliceOf.new ..) pl pu q3
  show wpAny (model X.prog X.w) X.A (subscriptTail e (.Slice lo hi none p2) v (.ref s3.heap.objs.size)) (EP X pins σ Q) X.xe { s3 with heap := s3.heap.push { cls := .type "slice", data := .fields #[vl, vu, .none] } }
  exact tail_any (ops := [.ref s3.heap.objs.size, v]) ht hT hg (by with_unfolding_all rfl)

/-- the items of xs[lo:hi] -/
def cutV (xs : List V) (lo hi : Option Int) : List V := (xs.drop (HT.sIx xs.length 0 lo)).take (HT.sIx xs.length xs.length hi - HT.sIx xs.length 0 lo)
theorem cutV_length (xs : List V) (lo hi : Option Int) : (cutV xs lo hi).length ≤ xs.length := by
  unfold cutV
  rw [List.length_take, List.length_drop]
  omega

/-! ### t < u, t + u -/
end
end L2

namespace L2
open PySem PySem.Spec PyProof.Rows

/-! ### places -/
/-- the place that an index of any sign means -/
def ixN (n : Nat) (i : Int) : Option Nat := if 0 ≤ i then (if i < n then some i.toNat else none) else if -(n : Int) ≤ i then some (i + n).toNat else none
def atI {α : Type} (xs : List α) (i : Int) : Option α := (ixN xs.length i).bind fun j => xs[j]?
theorem ixN_seq {n : Nat} {i : Int} {j : Nat} (h : ixN n i = some j) : seqIndex? i n = some j ∧ j < n ∧ -(n : Int) ≤ i ∧ i < n := by
  unfold ixN at h
  by_cases h0 : 0 ≤ i
  · rw [if_pos h0] at h
    by_cases h1 : i < n
    · rw [if_pos h1] at h
      have e : i.toNat = j := Option.some.inj h
      exact ⟨by rw [seqIndex_of h0 h1, e], by omega, by omega, h1⟩
    · rw [if_neg h1] at h; cases h
  · rw [if_neg h0] at h
    by_cases h1 : -(n : Int) ≤ i
    · rw [if_pos h1] at h
      have e : (i + n).toNat = j := Option.some.inj h
      exact ⟨by rw [seqIndex_neg (by omega) h1, e], by omega, h1, by omega⟩
    · rw [if_neg h1] at h; cases h
theorem atI_get {α : Type} {xs : List α} {i : Int} {v : α} (h : atI xs i = some v) : ∃ j, seqIndex? i xs.length = some j ∧ xs[j]? = some v ∧ j < xs.length ∧ -(xs.length : Int) ≤ i ∧ i < xs.length := by
  unfold atI at h
  cases e : ixN xs.length i with
  | none => rw [e] at h; cases h
  | some j =>
    rw [e] at h
    obtain ⟨h1, h2, h3, h4⟩ := ixN_seq e
    exact ⟨j, h1, h, h2, h3, h4⟩
theorem atI_nat {α : Type} {xs : List α} {j : Nat} {v : α} (h : xs[j]? = some v) : atI xs (j : Int) = some v := by
  have hj : j < xs.length := (List.getElem?_eq_some_iff.mp h).1
  have e : ixN xs.length (j : Int) = some j := by
    unfold ixN
    rw [if_pos (by omega), if_pos (by omega)]; simp
  unfold atI; rw [e]; exact h
theorem atI_last {α : Type} (xs : List α) (v : α) : atI (xs ++ [v]) (-1) = some v := by
  have hl : (xs ++ [v]).length = xs.length + 1 := by simp
  have e : ixN (xs ++ [v]).length (-1) = some xs.length := by
    unfold ixN
    rw [hl, if_neg (by decide), if_pos (by omega)]
    congr 1
    omega
  unfold atI
  rw [e]
  show (xs ++ [v])[xs.length]? = some v
  simp

/-! ### what may be subscripted -/
/-- what stands as an index of a plain subscript -/
def PlainIx (b : Expr) : Prop := ∀ o i, subscripted b false o i = operate [o, i] (getItem o i)
/-- a subscript by values -/
def IxR (X : Cx) (r : R2) : Prop :=
  ∀ (value slice : Expr) (pins : List (Addr × Obj)) (s : Shared) (σ : St) (H : Hp) (x y : V) (v u : Value) (Q : VK), Inv X pins σ H s → RelV x v → RelV y u → r x y H Q →
    subscripted slice false v u = operate [v, u] (getItem v u) → wpAny (model X.prog X.w) X.A (subscriptTail value slice v u) (EP X pins σ Q) X.xe s
/-- a call of a builtin's method by values: the receiver, the arguments -/
def MtR (X : Cx) (id : String) (r : V → List V → Hp → VK → Prop) : Prop :=
  ∀ (pins : List (Addr × Obj)) (s : Shared) (σ : St) (H : Hp) (x : V) (xs : List V) (v : Value) (us : List Value) (Q : VK), Inv X pins σ H s → RelV x v → Vals xs us → r x xs H Q →
    wpAny (model X.prog X.w) X.A (call (.builtin id) (v :: us)) (EP X pins σ Q) X.xe s
section
variable {X : Cx} {a b : Expr} {ta tb : TE} {pos : Pos}
/-- a[b] -/
theorem pe_ix {r : R2} (hr : IxR X r) (ha : PE X a ta) (hb : PE X b tb) (hs : PlainIx b) : PE X (.Subscript a b pos) (tOp r ta tb) := by
  intro pins s σ H Q I h
  exact Subscript_ (binT ha hb I h fun v u s2 x y H2 I2 rx ry q => hr a b pins s2 σ H2 x y v u Q I2 rx ry q (hs _ _))

def rIxL (K : PySem.W.Frag) : R2 := fun x y H Q => ∃ p xs i v, x = .ref p ∧ y = .int i ∧ SqL K H p xs ∧ atI xs i = some v ∧ Q v H
def rIxT (K : PySem.W.Frag) : R2 := fun x y H Q => ∃ p xs i v, x = .ref p ∧ y = .int i ∧ SqT K H p xs ∧ atI xs i = some v ∧ Q v H
def rIxS : R2 := fun x y H Q => ∃ z i c, x = .str z ∧ y = .int i ∧ z.length ≤ sizeLine ∧ atI z.cps.toList i = some c ∧ Q (.str ⟨#[c]⟩) H
theorem ix_list : IxR X (rIxL X.K) := by
  intro value slice pins s σ H x y v u Q I rx ry h hs
  obtain ⟨p, xs, i, z, rfl, rfl, hq, he, q⟩ := h
  cases rx
  obtain ⟨t, rfl⟩ := ry
  obtain ⟨its, r, pl, hz⟩ := I.list hq
  obtain ⟨j, h1, h2, h3, h4, h5⟩ := atI_get he
  obtain ⟨w, ew, rw'⟩ := r.get h2
  have hl := r.length
  have hn := line63
  have fin : EP X pins σ Q w s := ⟨z, H, I, rw', q⟩
  by_cases h0 : 0 ≤ i
  · have hj : i.toNat = j := by
      rw [seqIndex_of h0 h5] at h1
      exact Option.some.inj h1
    exact item_listR pl.isList h0 (by omega) (by rw [hj]; simpa using ew) fin hs
  · have hj : (i + (its.toArray.size : Int)).toNat = j := by
      rw [seqIndex_neg (by omega) h4] at h1
      rw [List.size_toArray, ← hl]
      exact Option.some.inj h1
    exact subscriptTail_builtinR (x := w) pl.isList.typeIs slot_list_getitem.lookup
      (wpAny_getItem_list_neg (Q := fun r s' => r = w ∧ EP X pins σ Q r s') pl.isList (by omega) (by rw [List.size_toArray] <;> omega) (by omega) (by rw [hj]; simpa using ew) ⟨rfl, fin⟩) hs
theorem ix_tup : IxR X (rIxT X.K) := by
  intro value slice pins s σ H x y v u Q I rx ry h hs
  obtain ⟨p, xs, i, z, rfl, rfl, hq, he, q⟩ := h
  cases rx
  obtain ⟨t, rfl⟩ := ry
  obtain ⟨its, r, pl, hz⟩ := I.tuple hq
  obtain ⟨j, h1, h2, h3, h4, h5⟩ := atI_get he
  obtain ⟨w, ew, rw'⟩ := r.get h2
  have hl := r.length
  have hn := line63
  have fin : EP X pins σ Q w s := ⟨z, H, I, rw', q⟩
  exact subscriptTail_builtinR (x := w) pl.typeIs slot_tuple_getitem.lookup
    (getItem_tuple (j := j) (Q := fun r s' => r = w ∧ EP X pins σ Q r s') pl (by omega) (by omega) (by rw [List.size_toArray, ← hl]; exact h1) (by simpa using ew) ⟨rfl, fin⟩) hs
theorem ix_str : IxR X rIxS := by
  intro value slice pins s σ H x y v u Q I rx ry h hs
  obtain ⟨z, i, c, rfl, rfl, hz, he, q⟩ := h
  obtain ⟨t, rfl⟩ := rx
  obtain ⟨t', rfl⟩ := ry
  obtain ⟨j, h1, h2, h3, h4, h5⟩ := atI_get he
  have hl : z.cps.toList.length = z.length := by simp [Str.length]
  rw [hl] at h1 h4 h5
  have hn := line63
  exact tail_any (typeIs_str s z t) slot_str_getitem.lookup (getItem_str (c := c) (by
    have e1 : decide (i < -(2 ^ 63 : Int)) = false := decide_eq_false (by omega)
    have e2 : decide (i ≥ 2 ^ 63) = false := decide_eq_false (by omega)
    rw [e1, e2, Bool.or_false]) (by rw [h1]; simpa using h2) ⟨.str ⟨#[c]⟩, H, I.tok _, ⟨_, rfl⟩, q⟩) hs

/-! ### xs[i] = v, any sign -/

/-! ### slices -/
theorem slice_bounds (lo hi : Option Int) (n : Nat) : (sliceBounds lo hi none n).1 = ((HT.sIx n 0 lo : Nat) : Int) ∧ (sliceBounds lo hi none n).2.1 = ((HT.sIx n n hi : Nat) : Int) ∧ (sliceBounds lo hi none n).2.2 = 1 := by
  refine ⟨?_, ?_, rfl⟩
  · cases lo with
    | none => simp [sliceBounds, HT.sIx]
    | some i =>
      simp only [sliceBounds, HT.sIx, Option.getD_none, show (1 : Int) > 0 by decide, if_true]
      by_cases h : i < 0
      · simp only [h, if_true] <;> omega
      · simp only [h, if_false] <;> omega
  · cases hi with
    | none => simp [sliceBounds, HT.sIx]
    | some i =>
      simp only [sliceBounds, HT.sIx, Option.getD_none, show (1 : Int) > 0 by decide, if_true]
      by_cases h : i < 0
      · simp only [h, if_true] <;> omega
      · simp only [h, if_false] <;> omega
theorem slicePick_cut (its : List Value) (lo hi : Option Int) : slicePick its.toArray lo hi none = ((its.drop (HT.sIx its.length 0 lo)).take (HT.sIx its.length its.length hi - HT.sIx its.length 0 lo)).toArray := by
  obtain ⟨h1, h2, h3⟩ := slice_bounds lo hi its.toArray.size
  unfold slicePick
  rw [h1, h2, h3]
  simp only [sliceRange_one, pick_run, List.size_toArray] <;> rfl
/-- xs[lo:hi] of a list: a new list -/
def rSlL (K : PySem.W.Frag) : V → Option Int → Option Int → Hp → VK → Prop := fun x lo hi H Q => ∃ a xs, x = .ref a ∧ SqL K H a xs ∧ ∀ p, H p = none → Q (.ref p) (upd H p (.lst (cutV xs lo hi)))
theorem sl_list : SlR X (rSlL X.K) := by
  intro pins s σ H x v vl vu lo hi sl Q I rx hs pl pu h
  obtain ⟨a, xs, rfl, hx, q⟩ := h
  cases rx
  obtain ⟨its, r, ht, hz⟩ := I.list hx
  have hlen := r.length
  refine ⟨"list", _, slot_list_getitem.lookup, ht.isList.typeIs, ?_⟩
  refine wpAny_getItem_list_slice ht.isList hs pl pu .none (by simp) ?_ (by rw [List.size_toArray] <;> omega)
  rw [slicePick_cut, ← hlen]
  refine ⟨.ref s.heap.objs.size, _, I.laid (t' := s.toks) (o := .lst (cutV xs lo hi)) (fun b ob q => Heap.get?_push_of_some _ q) (Nat.le_refl _) ?_, rfl, q _ (I.hok.fresh (Nat.le_refl _))⟩
  exact ⟨Nat.le_trans (cutV_length xs lo hi) hz, _, 0, (r.drop (HT.sIx xs.length 0 lo)).take (HT.sIx xs.length xs.length hi - HT.sIx xs.length 0 lo), Heap.get?_push_size _ rfl⟩

/-! ### in, not in: flat items -/
def flatV : V → Bool
  | .non => true
  | .bl _ => true
  | .int _ => true
  | .str _ => true
  | _ => false
/-- == of flat values -/
def eqV : V → V → Bool
  | .non, .non => true
  | .bl a, .bl b => a == b
  | .bl a, .int b => (if a then 1 else 0) == b
  | .int a, .bl b => a == (if b then 1 else 0)
  | .int a, .int b => a == b
  | .str a, .str b => a == b
  | _, _ => false
theorem eqAt_V {A : Around} {s : Shared} {y x : V} {u v : Value} (ry : RelV y u) (rx : RelV x v) (fy : flatV y = true) (fx : flatV x = true) : SeqAt.EqAt A s u v (eqV y x) := by
  cases y with
  | non =>
    cases ry
    cases x with
    | non => cases rx; exact SeqAt.EqAt.same _
    | bl b => cases rx; exact SeqAt.EqAt.none_bool b
    | int b => obtain ⟨t, rfl⟩ := rx; exact SeqAt.EqAt.none_int b t
    | str b => obtain ⟨t, rfl⟩ := rx; exact SeqAt.EqAt.none_str b t
    | _ => exact absurd (show false = true from fx) Bool.false_ne_true
  | bl a =>
    cases ry
    cases x with
    | non => cases rx; exact SeqAt.EqAt.bool_none a
    | bl b => cases rx; exact SeqAt.EqAt.bool_bool a b
    | int b => obtain ⟨t, rfl⟩ := rx; exact SeqAt.EqAt.bool_int a b t
    | str b => obtain ⟨t, rfl⟩ := rx; exact SeqAt.EqAt.bool_str a b t
    | _ => exact absurd (show false = true from fx) Bool.false_ne_true
  | int a =>
    obtain ⟨t', rfl⟩ := ry
    cases x with
    | non => cases rx; exact SeqAt.EqAt.int_none a t'
    | bl b => cases rx; exact SeqAt.EqAt.int_bool a t' b
    | int b => obtain ⟨t, rfl⟩ := rx; exact SeqAt.EqAt.int_int a t' b t
    | str b => obtain ⟨t, rfl⟩ := rx; exact SeqAt.EqAt.int_str a t' b t
    | _ => exact absurd (show false = true from fx) Bool.false_ne_true
  | str a =>
    obtain ⟨t', rfl⟩ := ry
    cases x with
    | non => cases rx; exact SeqAt.EqAt.str_none a t'
    | bl b => cases rx; exact SeqAt.EqAt.str_bool a t' b
    | int b => obtain ⟨t, rfl⟩ := rx; exact SeqAt.EqAt.str_int a t' b t
    | str b => obtain ⟨t, rfl⟩ := rx; exact SeqAt.EqAt.str_str a t' b t
    | _ => exact absurd (show false = true from fx) Bool.false_ne_true
  | _ => exact absurd (show false = true from fy) Bool.false_ne_true
/-- the items' answers, read off the values (a value's own answer does not lean on its token) -/
def eqU (x : V) (u : Value) : Bool := match u with
  | .none => eqV .non x
  | .bool b => eqV (.bl b) x
  | .int i _ => eqV (.int i) x
  | .str z _ => eqV (.str z) x
  | _ => false
theorem eqU_of {x y : V} {u : Value} (r : RelV y u) (f : flatV y = true) : eqU x u = eqV y x := by
  cases y with
  | non => cases r; rfl
  | bl b => cases r; rfl
  | int i => obtain ⟨t, rfl⟩ := r; rfl
  | str z => obtain ⟨t, rfl⟩ := r; rfl
  | _ => exact absurd (show false = true from f) Bool.false_ne_true
theorem any_eqU {x : V} : ∀ {xs : List V} {us : List Value}, Vals xs us → xs.all flatV = true → us.any (eqU x) = xs.any fun y => eqV y x
  | _, _, .nil, _ => rfl
  | y :: xs, u :: us, .cons r t, f => by
    rw [List.all_cons, Bool.and_eq_true] at f
    rw [List.any_cons, List.any_cons, eqU_of r f.1, any_eqU t f.2]
theorem mem_eqAt {A : Around} {s : Shared} {x : V} {v : Value} (rx : RelV x v) (fx : flatV x = true) : ∀ {xs : List V} {us : List Value}, Vals xs us → xs.all flatV = true → ∀ u ∈ us, SeqAt.EqAt A s u v (eqU x u)
  | _, _, .nil, _ => fun u hu => by cases hu
  | y :: xs, u :: us, .cons r t, f => fun u' hu => by
    rw [List.all_cons, Bool.and_eq_true] at f
    rcases List.mem_cons.mp hu with rfl | hu
    · rw [eqU_of r f.1]; exact eqAt_V r rx f.1 fx
    · exact mem_eqAt rx fx t f.2 u' hu
def inV (x : V) (xs : List V) : Bool := xs.any fun y => eqV y x
/-- x in a list or tuple of flat items -/
def rIn (K : PySem.W.Frag) (neg : Bool) : R2 := fun x y H Q => ∃ p xs, y = .ref p ∧ (SqL K H p xs ∨ SqT K H p xs) ∧ flatV x = true ∧ xs.all flatV = true ∧ Q (.bl (if neg then !inV x xs else inV x xs)) H
theorem op_in_seq : OpR X (compareOp .In) (rIn X.K false) := by
  intro pins s σ H x y v u Q I rx ry h
  obtain ⟨p, xs, rfl, hq, fx, fs, q⟩ := h
  cases ry
  rcases hq with hq | hq
  · obtain ⟨its, r, pl, hz⟩ := I.list hq
    refine SeqAt.in_listAt (eqU x) pl.isList (fun w hw => mem_eqAt rx fx r fs w (by simpa using hw)) ⟨.bl _, H, I, rfl, ?_⟩
    rw [show its.toArray.any (eqU x) = its.any (eqU x) by simp, any_eqU r fs]
    exact q
  · obtain ⟨its, r, pl, hz⟩ := I.tuple hq
    refine SeqAt.in_tupleAt (eqU x) pl (fun w hw => mem_eqAt rx fx r fs w (by simpa using hw)) ⟨.bl _, H, I, rfl, ?_⟩
    rw [show its.toArray.any (eqU x) = its.any (eqU x) by simp, any_eqU r fs]
    exact q

/-! ### len, list(x), tuple(x) of any list or tuple that is read -/
theorem call_len_seq : CallR X (.builtin "len") (fun xs H Q => ∃ p ys, xs = [.ref p] ∧ (SqL X.K H p ys ∨ SqT X.K H p ys) ∧ Q (.int ys.length) H) := by
  intro pins s σ H xs us Q I r h
  obtain ⟨p, ys, rfl, hq, q⟩ := h
  obtain ⟨u, rfl, rx⟩ := vals1 r
  cases rx
  have hn := line63
  rcases hq with hq | hq
  · obtain ⟨its, r', pl, hz⟩ := I.list hq
    have hlen := r'.length
    exact Calls.call_len_list pl.isList (by simp only [List.size_toArray] <;> omega) ⟨.int ys.length, H, I.tok _, ⟨s.toks + 1, by rw [List.size_toArray, hlen]⟩, q⟩
  · obtain ⟨its, r', pl, hz⟩ := I.tuple hq
    have hlen := r'.length
    exact len_tuple pl (by simp only [List.size_toArray] <;> omega) ⟨.int ys.length, H, I.tok _, ⟨s.toks + 1, by rw [List.size_toArray, hlen]⟩, q⟩
theorem call_len_str : CallR X (.builtin "len") (fun xs H Q => ∃ z, xs = [.str z] ∧ z.length ≤ sizeLine ∧ Q (.int z.length) H) := by
  intro pins s σ H xs us Q I r h
  obtain ⟨z, rfl, hz, q⟩ := h
  obtain ⟨u, rfl, t, rfl⟩ := vals1 r
  have hn := line63
  exact len_str (by omega) ⟨.int z.length, H, I.tok _, ⟨_, rfl⟩, q⟩

/-! ### the call of a builtin's method: o.m(..) -/
/-- the value is of that builtin type -/
def tyV (K : PySem.W.Frag) (T : String) (x : V) (H : Hp) : Prop := match x with
  | .str _ => T = "str"
  | .int _ => T = "int"
  | .ref p => (T = "list" ∧ ∃ xs, SqL K H p xs) ∨ (T = "tuple" ∧ ∃ o, K.lookup p = some o ∧ o.cls = .type "tuple" ∧ o.dict = none) ∨
      (T = "dict" ∧ ((∃ kvs, H p = some (.dK kvs)) ∨ ∃ kvs, H p = some (.dT kvs))) ∨ (T = "set" ∧ ∃ S n, H p = some (.set S n))
  | _ => False
theorem tyV_is {pins : List (Addr × Obj)} {σ : St} {H : Hp} {s : Shared} {T : String} {x : V} {v : Value} (I : Inv X pins σ H s) (r : RelV x v) (ty : tyV X.K T x H) :
    s.TypeIs v T ∧ ∀ a, v = .ref a → ∃ ob, s.heap.get? a = some ob ∧ ob.dict = none := by
  cases x with
  | str z =>
    obtain ⟨t, rfl⟩ := r
    cases (show T = "str" from ty)
    exact ⟨typeIs_str s z t, fun _ e => nomatch e⟩
  | int i =>
    obtain ⟨t, rfl⟩ := r
    cases (show T = "int" from ty)
    exact ⟨typeIs_int s i t, fun _ e => nomatch e⟩
  | ref p =>
    cases r
    rcases ty with ⟨rfl, xs, hq⟩ | ⟨rfl, o, hk, hc, hd⟩ | ⟨rfl, hk⟩ | ⟨rfl, S, n, hk⟩
    · obtain ⟨its, _, pl, _⟩ := I.list hq
      refine ⟨pl.isList.typeIs, fun a e => ?_⟩
      cases e
      obtain ⟨o, n, e, c, hd, _⟩ := pl
      exact ⟨o, e, hd⟩
    · refine ⟨⟨o, I.kIn p o hk, hc⟩, fun a e => ?_⟩
      cases e
      exact ⟨o, I.kIn _ o hk, hd⟩
    · have z : ∃ o, s.heap.get? p = some o ∧ o.ExactDict := by
        rcases hk with ⟨kvs, hk⟩ | ⟨kvs, hk⟩
        · obtain ⟨_, _, _, _, o, _, _, e, ex, _⟩ := I.hok p _ hk
          exact ⟨o, e, ex⟩
        · obtain ⟨_, _, _, _, o, _, _, e, ex, _⟩ := I.hok p _ hk
          exact ⟨o, e, ex⟩
      obtain ⟨o, e, ex⟩ := z
      refine ⟨⟨o, e, ex.1⟩, fun a e2 => ?_⟩
      cases e2
      exact ⟨o, e, ex.2.1⟩
    · obtain ⟨o, _, _, _, e, ex, _⟩ := I.hok p _ hk
      refine ⟨⟨o, e, ex.1⟩, fun a e2 => ?_⟩
      cases e2
      exact ⟨o, e, ex.2.1⟩
  | _ => exact False.elim ty
def tBM0 (K : PySem.W.Frag) (T : String) (r : V → List V → Hp → VK → Prop) (to : TE) : TE := fun σ H Q => to σ H fun x H1 => tyV K T x H1 ∧ r x [] H1 Q
def tBM (K : PySem.W.Frag) (T : String) (r : V → List V → Hp → VK → Prop) (to : TE) (t : TA) : TE := fun σ H Q => to σ H fun x H1 => tyV K T x H1 ∧ t σ H1 fun xs H2 => r x xs H2 Q
variable {o e : Expr} {es : List Expr} {to : TE} {t : TA} {name : Str} {apos cpos : Pos} {T id : String} {r : V → List V → Hp → VK → Prop}
theorem pe_bm0 (pa : PlainAttrs T) (slot : Slot T name id) (hty : typeOf (.builtin id) = pure (.type "method_descriptor")) (hm : MtR X id r) (ho : PE X o to)
    (hbase : attributeBase o name X.env (eval o X.env) = eval o X.env := by rfl) (hline : (apos.endLine == cpos.line) = true := by rfl) : PE X (.Call (.Attribute o name apos) [] [] cpos) (tBM0 X.K T r to) := by
  intro pins s σ H Q I h
  refine wpAny_Call_method0_late hbase hline (thn (ho pins s σ H _ I h) fun v s1 ⟨x, H1, I1, r1, ty, q1⟩ => ?_)
  obtain ⟨h1, h2⟩ := tyV_is I1 r1 ty
  exact ⟨T, id, pa, slot, hty, h1, h2, Calls.callWith_builtin rfl (PySem.evalArgs_none (hm pins s1 σ H1 x [] v [] Q I1 r1 .nil q1))⟩
theorem pe_bm (pa : PlainAttrs T) (slot : Slot T name id) (hty : typeOf (.builtin id) = pure (.type "method_descriptor")) (hm : MtR X id r) (ho : PE X o to) (ha : PA X (e :: es) t)
    (hbase : attributeBase o name X.env (eval o X.env) = eval o X.env := by rfl)
    (hfew : ((backTo cpos (starEach (e :: es) X.env)).all (fun x => !x.1) && (backToKw cpos (keywordEach [] X.env)).all (fun x => x.1.isSome)
      && decide ((e :: es).length + ([] : List Keyword).length + (if ([] : List Keyword).isEmpty then 0 else 1) < 30)) = true := by rfl)
    (hline : (apos.endLine == cpos.line) = true := by rfl) (hs : starEach (e :: es) X.env = (false, eval e X.env) :: starEach es X.env := by rfl) (hplain : (backTo cpos (starEach es X.env)).any (·.1) = false := by rfl) :
    PE X (.Call (.Attribute o name apos) (e :: es) [] cpos) (tBM X.K T r to t) := by
  intro pins s σ H Q I h
  refine wpAny_Call_method_late hbase hfew hline rfl (thn (ho pins s σ H _ I h) fun v s1 ⟨x, H1, I1, r1, ty, q1⟩ => ?_)
  obtain ⟨h1, h2⟩ := tyV_is I1 r1 ty
  refine ⟨T, id, pa, slot, hty, h1, h2, ?_⟩
  have hA := ha cpos pins s1 σ H1 _ I1 q1
  rw [hs] at hA ⊢
  refine Calls.callWith_builtin (by show (false || (backTo cpos (starEach es X.env)).any (·.1)) = false; rw [hplain] <;> rfl) (Calls.evalArgs_plain ?_)
  exact thn hA fun us s2 ⟨vs, H2, I2, r2, q2⟩ => hm pins s2 σ H2 x vs v us Q I2 r1 r2 q2
/- xs.append(e), list.index on a module's tuple .. are MtR facts of 06m -/
end
end L2

namespace L2
open PySem PySem.Spec PyProof.Rows

def MtM (X : Cx) (id : String) (r : V → List V → Hp → VK → Prop) : Prop :=
  ∀ (pins : List (Addr × Obj)) (s : Shared) (σ : St) (H : Hp) (x : V) (xs : List V) (v : Value) (us : List Value) (Q : VK), Inv X pins σ H s → RelV x v → Vals xs us → r x xs H Q →
    wpAny (model X.prog X.w) X.A (call (.builtin id) (v :: us)) (EP X pins σ Q) X.xe s

/-! ### lists of values -/
theorem Vals.one : ∀ {x : V} {us : List Value}, Vals [x] us → ∃ u, us = [u] ∧ RelV x u
  | _, _, .cons r .nil => ⟨_, rfl, r⟩
theorem Vals.two : ∀ {x y : V} {us : List Value}, Vals [x, y] us → ∃ u v, us = [u, v] ∧ RelV x u ∧ RelV y v
  | _, _, _, .cons r (.cons q .nil) => ⟨_, _, rfl, r, q⟩
theorem Vals.zero : ∀ {us : List Value}, Vals [] us → us = []
  | _, .nil => rfl
theorem Vals.dropLast {xs : List V} {us : List Value} (h : Vals xs us) : Vals xs.dropLast us.dropLast := by
  induction h with
  | nil => exact .nil
  | cons r t ih =>
    cases t with
    | nil => exact .nil
    | cons q t' => exact .cons r ih
theorem Vals.eraseIdx : ∀ {xs : List V} {us : List Value} (i : Nat), Vals xs us → Vals (xs.eraseIdx i) (us.eraseIdx i)
  | _, _, _, .nil => .nil
  | _, _, 0, .cons _ t => t
  | _, _, i + 1, .cons r t => .cons r (Vals.eraseIdx i t)
theorem erase_last {α : Type} (l : List α) : l.eraseIdx (l.length - 1) = l.dropLast := by
  induction l with
  | nil => rfl
  | cons a r ih =>
    cases r with
    | nil => rfl
    | cons b r =>
      have e : (a :: b :: r).length - 1 = ((b :: r).length - 1) + 1 := by
        have h1 : (a :: b :: r).length = r.length + 2 := rfl
        have h2 : (b :: r).length = r.length + 1 := rfl
        omega
      rw [e, List.eraseIdx_cons_succ, ih]
      all_goals rfl
theorem len_erase {α : Type} : ∀ (l : List α) (i : Nat), (l.eraseIdx i).length ≤ l.length
  | [], _ => Nat.le_refl _
  | _ :: _, 0 => Nat.le_succ _
  | _ :: r, i + 1 => Nat.succ_le_succ (len_erase r i)

section
variable {X : Cx} {pins : List (Addr × Obj)} {σ : St} {H : Hp} {s : Shared} {l b : Addr} {xs ys zs : List V}

/-! ### the two steps: a tracked list is rewritten, a new list is laid -/
theorem Inv.lset {its its' : List Value} {n : Nat} {f : Array Value → Array Value} {t' : Nat} (I : Inv X pins σ H s) (hH : H l = some (.lst xs))
    (e : s.heap.get? l = some { cls := .type "list", data := .seq its.toArray n }) (hf : f its.toArray = its'.toArray) (hv : Vals ys its') (hz : ys.length ≤ sizeLine) :
    Inv X pins σ (upd H l (.lst ys)) { s with heap := s.heap.update l (Obj.mapSeq f), toks := t' } := by
  have q := PySem.IsL.update e f
  rw [hf] at q
  refine I.write (x := l) (e := l) (by rw [hH]; exact trivial) (.inl rfl) (fun b' u hb hu => (Heap.get?_update_other s.heap (Obj.mapSeq f) (Ne.symm hb)).trans hu) ⟨_, q⟩ ?_
  exact ⟨hz, its', _, hv, q⟩
theorem Inv.lstM (I : Inv X pins σ H s) (hH : H l = some (.lst xs)) : xs.length ≤ sizeLine ∧ ∃ (its : List Value) (n : Nat), Vals xs its ∧ xs.length = its.length ∧ s.heap.get? l = some { cls := .type "list", data := .seq its.toArray n } := by
  obtain ⟨z, its, n, r, e⟩ := I.hok l _ hH
  exact ⟨z, its, n, r, r.length, e⟩

end

section
variable {X : Cx}

/-! ### methods -/
def rAppend : V → List V → Hp → VK → Prop := fun x vs H Q => ∃ l xs y, x = .ref l ∧ vs = [y] ∧ H l = some (.lst xs) ∧ xs.length < sizeLine ∧ Q .non (upd H l (.lst (xs ++ [y])))
theorem mt_append : MtM X "list.append" rAppend := by
  intro pins s σ H x vs v us Q I rx rv h
  obtain ⟨l, xs, y, rfl, rfl, hH, hz, q⟩ := h
  cases rx
  obtain ⟨u, rfl, ru⟩ := rv.one
  obtain ⟨z, its, n, r, hl, e⟩ := I.lstM hH
  refine call_meets F.slot_list_append ⟨_, e, rfl⟩ F.entry_list_append (F.args_list_append_2 _ _) (PySem.list_append l its.toArray n u (by rw [List.size_toArray]; omega)) ⟨e, ?_⟩
  refine ⟨.non, _, I.lset (its' := its ++ [u]) hH e (by simp) (r.append (.cons ru .nil)) ?_, rfl, q⟩
  rw [List.length_append, List.length_singleton]
  omega


def rPop : V → List V → Hp → VK → Prop := fun x vs H Q => ∃ l xs y, x = .ref l ∧ vs = [] ∧ H l = some (.lst xs) ∧ xs[xs.length - 1]? = some y ∧ Q y (upd H l (.lst xs.dropLast))
theorem mt_pop : MtM X "list.pop" rPop := by
  intro pins s σ H x vs v us Q I rx rv h
  obtain ⟨l, xs, y, rfl, rfl, hH, hy, q⟩ := h
  cases rx
  have hus := rv.zero
  subst hus
  obtain ⟨z, its, n, r, hl, e⟩ := I.lstM hH
  obtain ⟨u, hu, ru⟩ := r.get hy
  have hy' : its.toArray[its.toArray.size - 1]? = some u := by
    show its.toArray[its.length - 1]? = some u
    rw [← Array.getElem?_toList, ← hl]
    exact hu
  refine call_meets F.slot_list_pop ⟨_, e, rfl⟩ F.entry_list_pop (F.args_list_pop_1 _) (MeetsSeq.list_pop_last l its.toArray n u hy' (by rw [List.size_toArray]; omega)) ⟨e, ?_⟩
  refine ⟨y, _, I.lset (its' := its.dropLast) hH e ?_ r.dropLast ?_, ru, q⟩
  · show its.toArray.eraseIdxIfInBounds (its.toArray.size - 1) = its.dropLast.toArray
    rw [List.size_toArray, List.eraseIdxIfInBounds_toArray, erase_last]
  · rw [List.length_dropLast]
    omega

def rPopAt : V → List V → Hp → VK → Prop := fun x vs H Q => ∃ l xs i k y, x = .ref l ∧ vs = [.int i] ∧ H l = some (.lst xs) ∧ -(2 ^ 63) ≤ i ∧ i < 2 ^ 63 ∧ seqIndex? i xs.length = some k ∧ xs[k]? = some y ∧ Q y (upd H l (.lst (xs.eraseIdx k)))
theorem mt_popAt : MtM X "list.pop" rPopAt := by
  intro pins s σ H x vs v us Q I rx rv h
  obtain ⟨l, xs, i, k, y, rfl, rfl, hH, h1, h2, hk, hy, q⟩ := h
  cases rx
  obtain ⟨u, rfl, ru⟩ := rv.one
  obtain ⟨t, rfl⟩ := ru
  obtain ⟨z, its, n, r, hl, e⟩ := I.lstM hH
  obtain ⟨w, hw, rw'⟩ := r.get hy
  refine call_meets F.slot_list_pop ⟨_, e, rfl⟩ F.entry_list_pop (F.args_list_pop_2 _ _)
    (MeetsSeq.list_pop_at l its.toArray n i t k w (fitsIndex_both h1 h2) (by rw [List.size_toArray, ← hl]; exact hk) (by rw [← Array.getElem?_toList]; exact hw) (by rw [List.size_toArray]; omega)) ⟨e, ?_⟩
  refine ⟨y, _, I.lset (its' := its.eraseIdx k) hH e ?_ (r.eraseIdx k) ?_, rw', q⟩
  · show its.toArray.eraseIdxIfInBounds k = (its.eraseIdx k).toArray
    rw [List.eraseIdxIfInBounds_toArray]
  · have := len_erase xs k
    omega



/-! ### list + list, list += list, list * int -/

/-! ### del xs[i] -/
end

/-! ### xs[a:b] = ys -/
section
variable {prog : Program} {w : World} {A : Around} {E : Value → Shared → Prop} {s : Shared}
end

section
variable {X : Cx}
end
end L2

namespace Att
open PySem PySem.W PySem.Calls PyProof.Rows

/-! ### the script -/
theorem ints_of_wellAll {P : Params} {h : Heap} : ∀ (ns : List Int) (vs : List Value), WellAll P h vs (ns.map WData.int) → IntsAre vs ns := by
  intro ns
  induction ns with
  | nil =>
    intro vs w
    rw [List.map_nil] at w
    cases w
    exact .nil
  | cons n ns ih =>
    intro vs w
    rw [List.map_cons] at w
    cases w with
    | cons a b =>
      cases a
      exact .cons _ _ (ih _ b)

theorem script_of {l : OpenLaw} {n : Nat} (hn : l.most = some n) {P : Params} {h : Heap} {args : List WData} {vals : List Value}
    (hpre : l.row.toRowW.claim.pre args = true) (hwl : WellAll P h vals args) :
    ∃ a vs ns, vals = [Value.ref a] ∧ args = [WData.list (ns.map WData.int)] ∧ h.get? a = some { cls := .type "list", data := .seq vs.toArray } ∧ IntsAre vs ns ∧ ns.length ≤ n := by
  have hsh : WShape.hasAll [] args [.list .int] = true := (pre_splitW hpre).1
  have hc : l.pre.holds [] { args := args } = true := (pre_splitW hpre).2
  obtain ⟨d, r, rfl, h1, h2⟩ := hasAllW_cons hsh
  obtain rfl := hasAllW_nil h2
  obtain ⟨xs, rfl, h3⟩ := hasW_list h1
  obtain ⟨ns, rfl⟩ := items_int h3
  have hlen : ns.length ≤ n := by
    unfold OpenLaw.pre at hc
    have h4 : (WTm.not (.lt (.lit (.int (n : Int))) (.len (.arg 0)))).holds [] { args := [.list (ns.map .int)] } = true := by
      have h4 := (holds_andW hc).1
      rw [hn] at h4
      exact h4
    have h5 := condW_of h4 (w_not (w_lt w_lit (w_len_list (w_arg rfl))))
    rw [List.length_map] at h5
    refine Nat.le_of_not_lt fun q => ?_
    have q' : (n : Int) < ((ns.length : Nat) : Int) := by omega
    first
      | (rw [decide_eq_true q'] at h5; exact absurd h5 (by decide))
      | (simp at h5; omega)
  cases hwl with
  | cons w1 w2 =>
    cases w2
    cases w1 with
    | list ho hall => exact ⟨_, _, ns, rfl, rfl, ho, ints_of_wellAll ns _ hall, hlen⟩

theorem post_true (l : OpenLaw) (args : List WData) : l.row.toRowW.claim.post args (.bool true) args = true :=
  postW_of (r := l.row.toRowW) (X := (true == true))
    (show WShape.has [] (.bool true) .bool = true by first | rfl | decide | simp [WShape.has, WShape.arms, WShape.armsAll])
    (show (WTm.eq .res (.lit (.bool true))).value [] { args := args, res := some (.bool true), after := args } = some (.bool (true == true)) from w_eq_bool (w_res rfl) w_lit) rfl

/-! ### the attachment: holds_open's last premise (the goal 'hc' behind k_head) from a wpAny of the law's body -/

/-- the same from a codeAny of the CALL (for a layer whose function contracts speak of calls) -/
theorem attach_call {l : OpenLaw} {n : Nat} {q : Program} {loose : List Str} {XP : (Str → Option Value) → Heap → Prop} {YP : World → Heap → Prop} {d : DefRec}
    (hn : l.most = some n) (hdf : d.params.defaults = [])
    (call : ∀ (w : World) (s₀ s₁ : Shared) (mg mb : Str → Option Value) (fa : Addr) (o : Obj) (pm cd doc : Value) (a : Addr) (vs : List Value) (ns : List Int),
      Ground q loose [] XP w s₀ mg mb s₁.heap → YP w s₁.heap →
      s₁.heap.get? fa = some o → o.data = .func (docDef d.name d.params d.body d.scope pm cd doc) → s₁.heap.CodeRec cd d.name → mg d.name = some (.ref fa) →
      s₁.heap.get? a = some { cls := .type "list", data := .seq vs.toArray } → IntsAre vs ns → ns.length ≤ n → s₁.gens = #[] →
      codeAny (model l.prog w) callerA (.call (.ref fa) ⟨[.ref a], []⟩) (fun r s' => r = .ok (.ret (.bool true)) ∧ OldK s₁.heap s'.heap ∧ s'.os = s₁.os ∧ AllBare s'.gens) s₁) :
    WalkO q loose XP YP l.row.toRowW d [] (fun f vs => PySem.call f vs) := by
  intro w s₀ s₁ mg mb G Y fa o pm cd doc dV kV ho hd hcd hD hmg hg args vals as hpre hlay hrd hwl hlo
  obtain rfl : dV = .none := Dflts.none hD hdf
  obtain rfl : kV = .none := Dflts.noKw hD
  obtain ⟨a, vs, ns, rfl, rfl, hobj, hints, hlen⟩ := script_of hn hpre hwl
  refine enter_call (codeAny_mono (call w s₀ s₁ mg mb fa o pm cd doc a vs ns G Y ho (fd_plain hd) hcd hmg hobj hints hlen hg) fun r s' hq => ?_)
  obtain ⟨rfl, h2, h3, h4⟩ := hq
  exact ⟨.inl ⟨.bool true, .bool true, [], rfl, fun _ => rfl, .bool true, post_true l _, fun _ => ⟨List.Pairwise.nil, fun _ hm => (nomatch hm)⟩⟩, h2, h3, h4⟩


/-! ### rules over ANY heap (no ledger) from facts about the written part K: the library's own take a ledger (News) for what they write -/
section
variable {prog : Program} {w : World} {A : Around} {E : Value → Shared → Prop} {s : Shared} {K : Frag}





/-! the whole heap as the ledger: makes every rule that writes through a ledger a rule over any heap -/

end
end Att

namespace L2
open PySem PySem.Spec PyProof.Rows

theorem vals_ints : ∀ {vs : List Value} {ns : List Int}, IntsAre vs ns → Vals (ns.map V.int) vs
  | _, _, .nil => .nil
  | _, _, .cons n t h => .cons ⟨t, rfl⟩ (vals_ints h)

/-- nothing is tracked but the script, known to the object (or it is an object of the module) -/
def Only (H : Hp) : Prop := ∀ b, H b = none ∨ ∃ o xs, H b = some (.frz o (.lst xs))

/-- THE HEAD: the law's promise, at the heap behind the top. F, the promise of the law's def, may use that base is part of the heap (so K.In base, base.Ns mainGlobals mg stand in Mod) -/
theorem law_call {P : Program} {w : World} {K : PySem.W.Frag} {mg mb : Str → Option Value} {CX : CXT} {k : Nat} {fa a : Addr} {fd : FuncData} {x : Str} {sp : Sp} {s₁ : Shared} {vs : List Value} {ns : List Int}
    (KX : K.In s₁.heap) (hns : s₁.heap.Ns mainGlobals mg) (hb : s₁.heap.Ns builtinsNs mb) (hbb : ∀ x : Str, x ≠ "__name__" → mb x = bootBuiltins x) (hlim : s₁.heap.NoLimit) (hg : s₁.gens = #[])
    (ha : s₁.heap.get? a = some { cls := .type "list", data := .seq vs.toArray }) (hi : IntsAre vs ns) (hl : ns.length ≤ sizeLine) (hr : Room k callerA)
    (F : ∀ base : Heap, K.In base → base.Ns mainGlobals mg → FnOk P w K mg base CX k fa fd [x] sp) (hbind : ∀ (s : Shared) (u : Value), BindsTo s fd ⟨[u], []⟩ [(x, u)])
    (hsp : ∀ H : Hp, Only H → SqL K H a (ns.map V.int) → sp [.ref a] H (fun v _ => v = .bl true) fun _ _ _ => False)
    (hCX : ∀ H e s', CX [] H s₁ (fun _ _ _ => False) e s' → False) :
    codeAny (model P w) callerA (.call (.ref fa) ⟨[.ref a], []⟩) (fun r s' => r = .ok (.ret (.bool true)) ∧ OldK s₁.heap s'.heap ∧ s'.os = s₁.os ∧ AllBare s'.gens) s₁ := by
  have rv := vals_ints hi
  have lenV := hi.length
  -- from an abstract heap in which nothing but the script may be tracked
  have core : ∀ H : Hp, Only H → SqL K H a (ns.map V.int) → HOk P w H s₁.heap → (∀ b, H b ≠ none → b = a) → (H a ≠ none → K.lookup a = none) →
      codeAny (model P w) callerA (.call (.ref fa) ⟨[.ref a], []⟩) (fun r s' => r = .ok (.ret (.bool true)) ∧ OldK s₁.heap s'.heap ∧ s'.os = s₁.os ∧ AllBare s'.gens) s₁ := by
    intro H hO hS hok hA hK
    have base_of : ∀ {b : Addr} {o : Obj}, s₁.heap.get? b = some o → H b = none → (hidT s₁.heap H).get? b = some o := fun e n => hidT_get e n
    have noA : ∀ {b : Addr} {o : Obj} {es : Array DictEntry} {ep : Nat}, s₁.heap.get? b = some o → o.data = .dict es ep → H b = none := fun {b o es ep} e d => by
      cases q : H b with
      | none => rfl
      | some u =>
        have e' : b = a := hA b (by rw [q]; simp)
        subst e'
        rw [ha] at e; cases e
        have d' : Data.seq vs.toArray _ = Data.dict es ep := d
        cases d'
    have nsK : ∀ {b : Addr} {m : Str → Option Value}, s₁.heap.Ns b m → (hidT s₁.heap H).Ns b m := fun {b m} ⟨o, es, ep, e, d, r⟩ => ⟨o, es, ep, base_of e (noA e d), d, r⟩
    have hKb : K.In (hidT s₁.heap H) := fun b o e => base_of (KX b o e) (by
      cases q : H b with
      | none => rfl
      | some u =>
        have e' : b = a := hA b (by rw [q]; simp)
        subst e'
        rw [hK (by rw [q]; simp)] at e; cases e)
    have hM : Mod K mg (hidT s₁.heap H) := ⟨hKb, nsK hns, ⟨mb, nsK hb, hbb⟩, let ⟨mc, h1, h2⟩ := hlim; ⟨mc, nsK h1, h2⟩⟩
    have e0 : Env0 P w K mg (hidT s₁.heap H) callerA [] s₁ H := ⟨rfl, hM, fun b o e => of_hidT e, Nat.le_of_eq (hidT_size _ _), trivial, fun b hb => absurd (show b ∈ ([] : List Addr) from hb) (by simp), hok, .of_eq hg⟩
    refine codeAny_mono ((F _ hKb (nsK hns)).run callerA [] s₁ H ⟨[.ref a], []⟩ [.ref a] [.ref a] _ _ hr e0 (hbind s₁ (.ref a)) (.cons rfl .nil) (hsp H hO hS)) fun r s' h => ?_
    cases r with
    | error e => exact (hCX H e s' h).elim
    | ok fl =>
      cases fl with
      | next => exact False.elim h
      | brk => exact False.elim h
      | cont => exact False.elim h
      | ret u =>
        obtain ⟨v, H', os, bare, un, hok', r', q⟩ := h
        have q' : v = .bl true := q
        subst q'
        obtain rfl : u = Value.bool true := r'
        refine ⟨rfl, OldK.of_keep fun b o e => ?_, os, bare⟩
        cases q : H b with
        | none => exact un.keep b o e q (by intro z; exact absurd (show b ∈ ([] : List Addr) from z) (by simp)) (by simp)
        | some u =>
          rcases hO b with z | ⟨ob, xs, z⟩
          · rw [q] at z; cases z
          · have z2 := un.frzs b ob _ z
            obtain ⟨e1, _⟩ := hok b _ z
            obtain ⟨e2, _⟩ := hok' b _ z2
            rw [e] at e1; cases e1
            exact e2
  cases hk : K.lookup a with
  | some o =>
    -- the script is one of the module's own objects
    have e := KX a o hk
    rw [ha] at e
    cases e
    refine core (fun _ => none) (fun _ => .inl rfl) (.inr ⟨_, vs.toArray, _, hk, rfl, rfl, rfl, by rw [List.size_toArray, lenV]; exact hl, by simpa using rv⟩) (fun b u z => by have z' : (none : Option HO) = some u := z; cases z') (fun b z => absurd rfl z) fun z => absurd rfl z
  | none =>
    refine core (fun b => if b = a then some (.frz { cls := .type "list", data := .seq vs.toArray } (.lst (ns.map V.int))) else none) (fun b => ?_) (.inl (.inr ⟨{ cls := .type "list", data := .seq vs.toArray }, if_pos rfl⟩)) (fun b u z => ?_) (fun b z => ?_) fun _ => hk
    · by_cases hb : b = a
      · exact .inr ⟨_, _, if_pos hb⟩
      · exact .inl (if_neg hb)
    · by_cases hb : b = a
      · have z' := (if_pos hb).symm.trans z
        cases z'
        subst hb
        exact ⟨ha, by rw [List.length_map]; exact hl, vs, _, rv, ha⟩
      · have z' := (if_neg hb).symm.trans z
        cases z'
    · by_cases hb : b = a
      · exact hb
      · exact absurd (if_neg hb) z
end L2

namespace L2
open PySem PySem.Spec PyProof.Rows


/-- the goal that k_head leaves (case hc), from the law's promise. F gives the function object fd (K's own) once, then the promise over every base -/
theorem walk_of {l : PySem.W.OpenLaw} {n k : Nat} {q : Program} {loose : List Str} {XP : (Str → Option Value) → Heap → Prop} {YP : World → Heap → Prop} {d : DefRec} {K : Params → PySem.W.Frag} {CX : World → CXT} {sp : World → Sp} {x : Str}
    (hn : l.most = some n) (hn2 : n ≤ sizeLine) (hdf : d.params.defaults = []) (hr : Room k callerA)
    (hY : ∀ (w : World) (h : Heap), YP w h → (K w.params).In h)
    (F : ∀ (w : World) (mg : Str → Option Value) (fa : Addr) (h : Heap), (K w.params).In h → h.Ns mainGlobals mg → mg d.name = some (.ref fa) →
      ∃ fd : FuncData, (∀ (s : Shared) (u : Value), BindsTo s fd ⟨[u], []⟩ [(x, u)]) ∧
        ∀ base : Heap, (K w.params).In base → base.Ns mainGlobals mg → FnOk l.prog w (K w.params) mg base (CX w) k fa fd [x] (sp w))
    (hsp : ∀ (w : World) (H : Hp) (a : Addr) (ns : List Int), ns.length ≤ n → Only H → SqL (K w.params) H a (ns.map V.int) → sp w [.ref a] H (fun v _ => v = .bl true) fun _ _ _ => False)
    (hCX : ∀ (w : World) (H : Hp) (s : Shared) (e : Value) (s' : Shared), CX w [] H s (fun _ _ _ => False) e s' → False) :
    PySem.W.WalkO q loose XP YP l.row.toRowW d [] (fun f vs => PySem.call f vs) := by
  refine Att.attach_call hn hdf fun w s₀ s₁ mg mb fa o pm cd doc a vs ns G Y ho hd hcd hmg hobj hints hlen hg => ?_
  have KX := hY w _ Y
  obtain ⟨fd, hb, hF⟩ := F w mg fa _ KX G.T.g hmg
  exact law_call KX G.T.g G.T.b G.T.builtins G.T.nolimit hg hobj hints (Nat.le_trans hlen hn2) hr hF hb (fun H hO hS => hsp w H a ns hlen hO hS) fun H e s' => hCX w H s₁ e s'
end L2

/- THE LAST THEOREM (shape; LID, My.* are yours):
   My.Adr: a structure of the addresses that your layer names (classes, functions); My.Txt K t: a structure (Prop) of the equations over K;
   My.txt_mk : {K} {implicit addresses ..} (e1 : nsIn K mainGlobals "law" = some (some (.ref f))) (e2 : K.lookup f = some ⟨oc, od, .func (fnOf "law" "law" params body scope dV kV doc pm an cdv ct), sl⟩) (e3 : codeIn K cdv "law" = true) .. : ∃ t, My.Txt K t

set_option maxRecDepth 100000 in
set_option maxHeartbeats 0 in
theorem PySem.Challenge.cw_LID_holds : PySem.Challenge.rw_LID.Holds := by
  w_on; o_law; k_head; (case hw => w_witness2)
  k_fill
  refine L2.walk_of (l := PySem.Challenge.rw_LID) (n := 63) (k := 40) (x := "script") (CX := fun w => ..) (sp := fun _ => My.sp_law) rfl (by decide) rfl ⟨rfl, by decide, by decide⟩ (fun w h Y => PySem.W.kIn_of Y) ?F ?S ?C
  case F =>
    intro w mg fa h KX G hmg
    have T : ∃ t, My.Txt (L2.KOf KX) t := by
      dsimp only [L2.KOf]                          -- K must stand as «<heap const> w.params» for k_is
      refine' My.txt_mk ?e1 ?e2 ?e3 ..
      (case e1 => PySem.W.k_is)                    -- in the order: a name -> its address -> its object -> its parts
      (case e2 => PySem.W.k_is)
      ..
    obtain ⟨t, T⟩ := T
    have e0 := hmg.symm.trans (PySem.W.mg_of KX G T.law)
    cases e0                                       -- fa is the law's own address
    exact ⟨_, fun s u => .of_eq rfl, fun base kb nb => My.law_fn T kb nb⟩     -- if «.of_eq rfl» comes too early: refine' ⟨_, ?b, fun base kb nb => My.law_fn T kb nb⟩; exact fun s u => .of_eq rfl
  case S => exact fun w H a ns hl hO hS => ..
  case C => exact ..
(the tactic k_is has no namespace: write k_is) -/

/-! SHORT WORDS over the layer: a def of the text, its body, what a loop and a test want. -/
namespace L2
open PySem PySem.Spec PyProof.Rows

/-! ### the text by places -/
/-- the j-th statement of a class's body -/
def inClass (s : Stmt) (j : Nat) : Stmt := match s with
  | .ClassDef _ _ _ body _ _ _ _ _ _ _ => body.getD j (.Pass ⟨0, 0, 0, 0⟩)
  | _ => .Pass ⟨0, 0, 0, 0⟩
def defArgs (s : Stmt) : Arguments := match s with
  | .FunctionDef _ a _ _ _ _ _ _ _ _ => a
  | _ => { posonlyargs := [], args := [], vararg := none, kwonlyargs := [], kw_defaults := [], kwarg := none, defaults := [] }
def defBody (s : Stmt) : List Stmt := match s with
  | .FunctionDef _ _ b _ _ _ _ _ _ _ => b
  | _ => []
def defScope (s : Stmt) : Scope := match s with
  | .FunctionDef _ _ _ _ _ _ sc _ _ _ => sc
  | _ => { kind := .function, names := [], isGenerator := false, isCoroutine := false }

/-! ### no exception leaves a def -/
abbrev CX0 : CXT := fun _ _ _ _ _ _ => False
abbrev E0 : XK := fun _ _ _ => False
theorem pass0 {X : Cx} : Passes CX0 X E0 := fun _ _ _ _ _ _ _ h => h.elim

/-! ### a def (or method) of the text as it stands behind the top -/
structure Fun (K : PySem.W.Frag) (x qual : Str) (st : Stmt) (f : Addr) (fd : FuncData) : Prop where
  ex : ∃ (oc : Value) (od : Option Addr) (kV doc pm : Value) (an : Option Addr) (cdv ct : Value) (osl : Array (Option Value)),
    fd = PySem.W.fnOf x qual (defArgs st) (defBody st) (defScope st) .none kV doc pm an cdv ct ∧ K.lookup f = some ⟨oc, od, .func fd, osl⟩ ∧ PySem.W.codeIn K cdv qual = true
  kp : PySem.W.keepIn K (.ref f) = true
section
variable {P : Program} {w : World} {K : PySem.W.Frag} {mg : Str → Option Value} {base : Heap}
/-- THE RULE for a def: its body as a term of rules, and the reading of that term -/
theorem Fun.ok {x qual : Str} {st : Stmt} {f : Addr} {fd : FuncData} {N ps : List Str} {k : Nat} {sp : Sp} (F : Fun K x qual st f fd) (S : FnScope N ps (defScope st)) (len : ∀ vs H Q E, sp vs H Q E → vs.length = ps.length)
    (hbody : ∀ (cdv : Value) (A : Around) (outer : List Env) (s : Shared) (H : Hp) (vs : List V) (Q : VK) (E : XK), Room k (A.deeper (envOfC qual (defScope st) s.heap.objs.size f cdv)) → sp vs H Q E →
      ∃ t, PSs (cxOf CX0 P w K mg base N qual (defScope st) f cdv A outer s H E).nox (defBody st) t ∧ t { nx := fun _ H' => Q .non H', rt := Q } (start N vs) H) : FnOk P w K mg base CX0 (k + 1) f fd ps sp := by
  obtain ⟨oc, od, kV, doc, pm, an, cdv, ct, osl, rfl, lk, hcd⟩ := F.ex
  refine fn_of lk hcd S len fun A outer s H vs Q E hr hsp => ?_
  obtain ⟨t, h, q⟩ := hbody cdv A outer s H vs Q E hr hsp
  exact ⟨t, h.nox, q⟩
/-- how its arguments bind (no defaults): h is «fun _ _ _ _ _ _ us hl => match us, hl with | [_, _], _ => rfl», one _ a parameter -/
theorem Fun.binds {x qual : Str} {st : Stmt} {f : Addr} {fd : FuncData} {ps : List Str} (F : Fun K x qual st f fd)
    (h : ∀ (kV doc pm : Value) (an : Option Addr) (cdv ct : Value) (us : List Value), us.length = ps.length → bindArgs (PySem.W.fnOf x qual (defArgs st) (defBody st) (defScope st) .none kV doc pm an cdv ct) ⟨us, []⟩ = pure (ps.zip us)) : Binds K fd ps [] := by
  obtain ⟨oc, od, kV, doc, pm, an, cdv, ct, osl, rfl, lk, hcd⟩ := F.ex
  exact .all (h kV doc pm an cdv ct)
theorem fun_mk {x qual : Str} {st : Stmt} {f : Addr} {oc : Value} {od an : Option Addr} {osl : Array (Option Value)} {kV doc pm cdv ct : Value} (l : K.lookup f = some ⟨oc, od, .func (PySem.W.fnOf x qual (defArgs st) (defBody st) (defScope st) .none kV doc pm an cdv ct), osl⟩)
    (c : PySem.W.codeIn K cdv qual = true) (k : PySem.W.keepIn K (.ref f) = true) : Fun K x qual st f (PySem.W.fnOf x qual (defArgs st) (defBody st) (defScope st) .none kV doc pm an cdv ct) := ⟨⟨oc, od, kV, doc, pm, an, cdv, ct, osl, rfl, l, c⟩, k⟩
end
theorem small1000 {n : Nat} (h : n ≤ 1000) : n < sizeLine := Nat.lt_of_le_of_lt h (by decide)

/-! ### expressions in short: the name that stands in the i-th slot -/
section
variable {X : Cx}
theorem pv (i : Nat) {x : Str} {pos : Pos} (hN : X.N[i]? = some x := by rfl) (hv : Vis X.env.scope x := by first | exact Or.inl rfl | exact Or.inr (Or.inl rfl) | exact Or.inr (Or.inr rfl)) (hd : (x == ("__debug__" : Str)) = false := by decide)
    (hcd : (x == ("__classdict__" : Str)) = false := by decide) : PE X (.Name x pos) (tVar i) := pe_var hN hv hd hcd
end

/-! ### tests -/
theorem iteF {A B : Prop} (h : B) : if false = true then A else B := by
  rw [if_neg Bool.false_ne_true]
  exact h
theorem iteT {A B : Prop} (h : A) : if true = true then A else B := by
  rw [if_pos rfl]
  exact h
theorem ite2 {c A B : Prop} [Decidable c] (h1 : c → A) (h2 : ¬ c → B) : if c then A else B := by
  by_cases h : c
  · rw [if_pos h]
    exact h1 h
  · rw [if_neg h]
    exact h2 h

/-! ### heaps -/
/-- all that was tracked is as it was -/
def Same (H H' : Hp) : Prop := ∀ b o, H b = some o → H' b = some o
theorem Same.trans {H H1 H2 : Hp} (a : Same H H1) (b : Same H1 H2) : Same H H2 := fun c o h => b c o (a c o h)
theorem Same.seq {K : PySem.W.Frag} {H H' : Hp} {a : Addr} {xs : List V} (e : Same H H') (h : SqL K H a xs) : SqL K H' a xs := by
  rcases h with (h | ⟨o, h⟩) | h
  · exact .inl (.inl (e _ _ h))
  · exact .inl (.inr ⟨o, e _ _ h⟩)
  · exact .inr h

end L2

set_option maxRecDepth 100000
set_option maxHeartbeats 4000000
namespace L2
open PySem PySem.Spec PyProof.Rows
end L2
namespace L2
open PySem PySem.Spec PyProof.Rows
section
variable (P : Program) (w : World)
end
section
variable {P : Program} {w : World} {H H' : Hp} {h h' : Heap} {a : Addr} {o : HO}
end
section
variable {P : Program} {w : World} {H : Hp} {h h' : Heap} {x e : Addr} {o' : HO}
end
section
variable {fs fs' ex ex' : List Addr} {H H1 H2 : Hp} {h h1 h2 h' : Heap} {a x e : Addr} {o : HO}
end
end L2
namespace L2
open PySem PySem.Spec PyProof.Rows
section
variable {X : Cx} {pins : List (Addr × Obj)} {σ : List (Option V)} {H H' : Hp} {s : Shared} {h' : Heap}
end
end L2
namespace L2
open PySem PySem.Spec PyProof.Rows
section
variable {X : Cx}
variable {a b : Expr} {ta tb : TE} {pos : Pos}
variable {tA tB' : TT} {rest : List Expr}
end
end L2
namespace L2
open PySem PySem.Spec PyProof.Rows
section
variable {X : Cx} {pins : List (Addr × Obj)} {σ : St} {H : Hp} {s : Shared} {a : Addr} {xs ys : List V}
end
section
variable {X : Cx} {pins : List (Addr × Obj)} {σ : St} {H : Hp} {s : Shared} {E : Value → Shared → Prop}
end
section
variable {X : Cx} {st : Stmt} {rest : List Stmt} {t u : TS} {e : Expr} {te : TE} {pos : Pos}
end
section
variable {X : Cx} {pos : Pos}
end
section
variable {X : Cx} {pos : Pos}
end
end L2
namespace L2
open PySem PySem.Spec PyProof.Rows
section
variable {X : Cx} {tg : Expr}
end
end L2
namespace L2
open PySem PySem.Spec PyProof.Rows
section
variable {X : Cx} {a b c : Expr} {ta tb tc : TE} {pos : Pos}
end
section
variable {X : Cx} {a b c : Expr} {ta tb tc : TE} {pos : Pos}
end
end L2
namespace L2
open PySem PySem.Spec PyProof.Rows
section
variable {prog : Program} {w : World} {A : Around} {E : Value → Shared → Prop} {s : Shared} {K : PySem.W.Frag} {x dx C f : Addr} {mA : Str → Option Value} {name : Str} {v : Value}
end
section
variable {P : Program} {w : World} {H H' : Hp} {h h' : Heap} {a C dx : Addr} {fs fs' : List (Str × V)}
end
section
variable {X : Cx} {pins : List (Addr × Obj)} {σ : St} {H : Hp} {s : Shared} {a C dx : Addr} {fs : List (Str × V)} {f : Str} {v : V} {A : Around} {E : Value → Shared → Prop}
end
section
variable {X : Cx} {o e value : Expr} {f : Str} {pos pos' tpos : Pos} {ta tv : TE}
end
section
variable {X : Cx} {pins : List (Addr × Obj)} {σ : St} {H : Hp} {s : Shared} {A : Around} {E : Value → Shared → Prop} {Q : Value → Shared → Prop} {c : Value} {b : Bool}
end
end L2
namespace L2
open PySem PySem.Spec PyProof.Rows
section
variable {X : Cx} {e : Expr} {es : List Expr} {te : TE} {t : TA} {pos : Pos}
end
section
variable {X : Cx} {pins : List (Addr × Obj)} {σ : St} {H : Hp} {s s' : Shared}
end
section
variable {X : Cx} {CX : CXT} {k : Nat} {f C : Addr} {fd : FuncData} {ps : List Str} {sp : Sp} {dvs : List V} {ds : List Value} {E : XK} {x m : Str} {p pos apos : Pos} {e o : Expr} {es : List Expr} {ta : TE} {t : TA}
end
section
variable {X : Cx} {CX : CXT} {k : Nat} {f C : Addr} {fd : FuncData} {ps ks : List Str} {sp : Sp} {E : XK} {x m : Str} {p pos apos kpos : Pos} {e o : Expr} {es : List Expr} {kws : List Keyword} {te ta : TE} {t tk : TA} {nm : Option Str}
variable {g : List Value → List Value → List Value} {gV : List V → List V → List V}
end
end L2
namespace L2
open PySem PySem.Spec PyProof.Rows
section
variable {X : Cx} {x : Str} {p pos : Pos} {e : Expr} {es : List Expr} {t : TA} {id T : String} {r : List V → Hp → VK → Prop}
end
end L2
namespace L2
open PySem PySem.Spec PyProof.Rows
section
variable {κ : Type} [DecidableEq κ]
end
section
variable {P : Program} {w : World} {H : Hp} {h : Heap} {a : Addr}
end
section
variable {X : Cx} {pins : List (Addr × Obj)} {σ : St} {H : Hp} {s : Shared} {a : Addr} {y v : V} {u r : Value} {o : Option V} {A : Around} {E : Value → Shared → Prop}
end
section
variable {X : Cx} {pins : List (Addr × Obj)} {σ : St} {H : Hp} {s : Shared} {a : Addr} {kvs : List (Key × V)} {k : Key} {u : Value} {A : Around} {E : Value → Shared → Prop}
end
section
variable {X : Cx} {o i e value : Expr} {pos pos' tpos : Pos} {td ty tv : TE}
end
section
variable {X : Cx} {pos : Pos}
end
section
variable {X : Cx} {pins : List (Addr × Obj)} {σ : St} {H : Hp} {s : Shared} {a : Addr} {y d : V} {u r : Value} {o : Option V} {A : Around} {E : Value → Shared → Prop}
end
section
variable {X : Cx} {o e f : Expr} {apos cpos : Pos} {td ty tx : TE}
end
section
variable {X : Cx} {pins : List (Addr × Obj)} {σ : St} {H : Hp} {s : Shared} {a : Addr} {kvs : List (Key × V)} {A : Around} {E : Value → Shared → Prop}
end
section
variable {X : Cx} {pins : List (Addr × Obj)} {σ : St} {H : Hp} {s : Shared} {a : Addr} {y : V} {u : Value} {A : Around} {E : Value → Shared → Prop}
end
end L2
namespace Att
open PySem PySem.W PySem.Calls PyProof.Rows
section
variable {prog : Program} {w : World} {A : Around} {E : Value → Shared → Prop} {s : Shared} {K : Frag}
end
end Att
namespace L2
open PySem PySem.Spec PyProof.Rows
end L2
namespace L2
open PySem PySem.Spec PyProof.Rows
end L2
namespace L2
open PySem PySem.Spec PyProof.Rows
section
variable {P : Program} {w : World} {K : PySem.W.Frag} {mg : Str → Option Value} {base : Heap}
end
section
variable {X : Cx}
end
section
variable {κ : Type} [DecidableEq κ]
end
end L2

namespace L2
open PySem PySem.Spec PyProof.Rows
/-! ### a list comprehension of one clause without a test -/
/-- the cells that the block is handed -/
def clOf (env : Env) (fr : List (Str × Nat)) : List (Str × Addr) := fr.map fun p => (p.1, (env.cells.lookup p.1).getD 0)
/-- what the names from outside are worth -/
def frOf (fr : List (Str × Nat)) (σ : St) : St := fr.map fun p => (σ[p.2]?).join
/-- the context of the block -/
def cxComp (X : Cx) (scope : Scope) (fr : List (Str × Nat)) (x : Str) (C : Addr) (ex : List Addr) (s : Shared) (H : Hp) : Cx where
  prog := X.prog
  w := X.w
  K := X.K
  mg := X.mg
  base := X.base
  A := X.A
  N := x :: fr.map (·.1)
  s₀ := s
  H₀ := H
  env := compEnvC scope (clOf X.env fr) C X.env
  outer := X.stack
  stack := X.stack
  ex := ex
  fn := fun _ => false
  calm := X.calm
  pn := []
  xe := fun _ _ => False
/-- what the text must show of the block's names -/
structure CompOk (X : Cx) (scope : Scope) (fr : List (Str × Nat)) (x : Str) : Prop where
  clos : closureFor scope X.env = pure (clOf X.env fr)
  cell : ∀ y ∈ scope.names, y.2 ≠ .cell
  kind : scope.kind = .function
  names : ∀ y ∈ scope.names, y.2 = .local → scope.names.lookup y.1 = some .local
  xl : scope.names.lookup x = some .local
  nd : (x :: fr.map (·.1)).Nodup
  slot : ∀ p ∈ fr, X.N[p.2]? = some p.1 ∧ X.env.kindOf p.1 = some .cell
  has : ∀ y ∈ (relabel scope X.env).names, (y.2 = .cell ∨ y.2 = .free) → y.1 ∈ fr.map (·.1)
  frk : ∀ p ∈ fr, (relabel scope X.env).names.lookup p.1 = some .cell
theorem CompOk.plain {X : Cx} {scope : Scope} {x : Str} (clos : closureFor scope X.env = pure []) (cell : ∀ y ∈ scope.names, y.2 ≠ .cell) (kind : scope.kind = .function) (names : ∀ y ∈ scope.names, y.2 = .local → scope.names.lookup y.1 = some .local)
    (hx : scope.names.lookup x = some .local) (nf : ∀ y ∈ scope.names, y.2 ≠ .free) : CompOk X scope [] x where
  clos := clos
  cell := cell
  kind := kind
  names := names
  xl := hx
  nd := by simp
  slot := fun p hp => nomatch hp
  has := fun y hy hk => by
    obtain ⟨⟨n, k⟩, hz, e⟩ := List.mem_map.mp (show y ∈ scope.names.map _ from hy)
    have h1 := nf _ hz
    have h2 := cell _ hz
    dsimp only at e h1 h2
    have hf : (k == NameKind.free) = false := by simpa using h1
    rw [hf] at e
    simp only [Bool.false_and, Bool.false_eq_true, if_false] at e
    subst e
    exact (hk.elim h2 h1).elim
  frk := fun p hp => nomatch hp
theorem CompOk.one {X : Cx} {scope : Scope} {x y : Str} {j : Nat} (clos : closureFor scope X.env = pure (clOf X.env [(y, j)])) (cell : ∀ y ∈ scope.names, y.2 ≠ .cell) (kind : scope.kind = .function) (names : ∀ y ∈ scope.names, y.2 = .local → scope.names.lookup y.1 = some .local)
    (hx : scope.names.lookup x = some .local) (nd : ([x, y] : List Str).Nodup) (hN : X.N[j]? = some y) (hk : X.env.kindOf y = some .cell) (nf : ∀ z ∈ scope.names, z.2 = .free → z.1 = y) (hr : (relabel scope X.env).names.lookup y = some .cell) : CompOk X scope [(y, j)] x where
  clos := clos
  cell := cell
  kind := kind
  names := names
  xl := hx
  nd := nd
  slot := fun p hp => by
    have e : p = (y, j) := by simpa using hp
    subst e
    exact ⟨hN, hk⟩
  has := fun z hz hk => by
    obtain ⟨⟨n, k⟩, hm, e⟩ := List.mem_map.mp (show z ∈ scope.names.map _ from hz)
    have h2 := cell _ hm
    dsimp only at e h2
    have hn : z.1 = n := by rw [← e]; split <;> rfl
    have hf : k = .free := by
      by_cases q : k = .free
      · exact q
      · have hb : (k == NameKind.free) = false := by simpa using q
        rw [hb] at e
        simp only [Bool.false_and, Bool.false_eq_true, if_false] at e
        subst e
        exact (hk.elim h2 q).elim
    have := nf _ hm hf
    rw [hn]
    simp [← this]
  frk := fun p hp => by
    have e : p = (y, j) := by simpa using hp
    subst e
    exact hr
theorem lookup_map_fst {env : Env} : ∀ {fr : List (Str × Nat)} {y : Str} {c : Addr}, (clOf env fr).lookup y = some c → y ∈ fr.map (·.1) ∧ c = (env.cells.lookup y).getD 0
  | [], _, _, h => by cases h
  | p :: r, y, c, h => by
    unfold clOf at h
    rw [List.map_cons, List.lookup_cons] at h
    cases e : y == p.1 with
    | true =>
      rw [e] at h
      have ey : y = p.1 := eq_of_beq e
      cases h
      exact ⟨by rw [ey]; exact List.mem_cons_self, by rw [ey]⟩
    | false =>
      rw [e] at h
      obtain ⟨a, b⟩ := lookup_map_fst (env := env) (fr := r) h
      exact ⟨List.mem_cons_of_mem _ a, b⟩
theorem lookup_map_some {env : Env} : ∀ {fr : List (Str × Nat)} {y : Str}, y ∈ fr.map (·.1) → (clOf env fr).lookup y = some ((env.cells.lookup y).getD 0)
  | [], _, h => by cases h
  | p :: r, y, h => by
    unfold clOf
    rw [List.map_cons, List.lookup_cons]
    cases e : y == p.1 with
    | true =>
      have ey : y = p.1 := eq_of_beq e
      rw [ey]
    | false =>
      have ny : y ≠ p.1 := fun z => by rw [z] at e; simp at e
      rcases List.mem_cons.mp h with z | z
      · exact absurd z ny
      · exact lookup_map_some (env := env) (fr := r) z
section
variable {X : Cx} {pins : List (Addr × Obj)} {σ : St} {H : Hp} {s : Shared} {scope : Scope} {fr : List (Str × Nat)} {x : Str}
/-- a cell of the block is a cell of the body around -/
theorem CompOk.cells (O : CompOk X scope fr x) (I : Inv X pins σ H s) {y : Str} {c : Addr} (h : (clOf X.env fr).lookup y = some c) : X.env.cells.lookup y = some c := by
  obtain ⟨hm, e⟩ := lookup_map_fst h
  obtain ⟨p, hp, ep⟩ := List.mem_map.mp hm
  have k := (O.slot p hp).2
  rw [ep] at k
  obtain ⟨c', e'⟩ := I.ok.has y (.inl k)
  rw [e'] at e
  rw [e', e]
  rfl
/-- the state at the block's head -/
theorem inv_comp {fp : List Addr} (O : CompOk X scope fr x) (I : Inv X pins σ H s) (hf : ∀ b ∈ fp, FpOk X pins H b) (hfs : ∀ b ∈ fp, b < s.heap.objs.size) {g h' : Heap} {tk : Nat} (hg : g = s.heap.push (LCg.lst []))
    (hk : ∀ b o, g.get? b = some o → h'.get? b = some o) (hC : h'.Ns g.objs.size fun _ => none) :
    Inv (cxComp X scope fr x g.objs.size (s.heap.objs.size :: fp) { s with heap := g } H) (X.pn ++ pins ++ [(s.heap.objs.size, LCg.lst [])]) (none :: frOf fr σ) H { s with heap := h', toks := tk } := by
  have hsz : g.objs.size = s.heap.objs.size + 1 := by rw [hg, Heap.size_push]
  have kp : ∀ b o, s.heap.get? b = some o → g.get? b = some o := fun b o e => by rw [hg]; exact Heap.get?_push_of_some _ e
  have hk0 : ∀ b o, s.heap.get? b = some o → h'.get? b = some o := fun b o e => hk b o (kp b o e)
  have hDo : h'.get? s.heap.objs.size = some (LCg.lst []) := hk _ _ (by rw [hg]; exact Heap.get?_push_size _ rfl)
  have neC : ∀ b, b < s.heap.objs.size → b ≠ g.objs.size := fun b e => by rw [hsz]; exact Nat.ne_of_lt (Nat.lt_succ_of_lt e)
  have hDC : s.heap.objs.size ≠ g.objs.size := by rw [hsz]; exact Nat.ne_of_lt (Nat.lt_succ_self _)
  have hfr : H g.objs.size = none := I.hok.fresh (by rw [hsz]; exact Nat.le_succ _)
  have hfD : H s.heap.objs.size = none := I.hok.fresh (Nat.le_refl _)
  have cne : ∀ y c, X.env.cells.lookup y = some c → c < s.heap.objs.size := fun y c e => by
    obtain ⟨v, q⟩ := I.cell y c e
    exact q.lt
  have nst : ∀ b, b ≠ X.env.locals → b ∉ X.fs → b ∉ frs X.stack := fun b h1 h2 z => (List.mem_cons.mp (I.stkSub b z)).elim h1 h2
  have nstD : s.heap.objs.size ∉ frs X.stack := nst _ (Nat.ne_of_gt I.lt) (I.nofs (Nat.le_refl _))
  refine ⟨⟨I.ok.mod, O.kind, I.ok.glob, I.ok.blt, Nat.le_refl _, ?_, ?_, fun _ _ z _ => (by cases z), I.ok.hd, I.ok.frames, .inl rfl, ?_, ?_, ?_, ?_, ?_, ?_, I.stkFree⟩, rfl, I.bare, Un.kept hk, ?_, ?_, hfr, ?_, ?_, I.hok.kept hk0, ?_⟩
  · intro y z c h1 h2
    exact I.ok.inj y z c (O.cells I h1) (O.cells I h2)
  · intro y hy
    have hm : y ∈ fr.map (·.1) := by
      rcases hy with hy | hy
      · exact O.has (y, _) (PySem.mem_of_lookup hy) (.inl rfl)
      · exact O.has (y, _) (PySem.mem_of_lookup hy) (.inr rfl)
    exact ⟨_, lookup_map_some hm⟩
  · intro b hb
    rcases List.mem_cons.mp hb with rfl | hb
    · exact ⟨hDC, fun y c e => Nat.ne_of_lt (cne y c (O.cells I e))⟩
    · exact ⟨neC b (hfs b hb), fun y c e => (hf b hb).2.2.2.2.1 y c (O.cells I e)⟩
  · intro b o e
    exact ⟨kp b o (I.bs b o e).1, (I.bs b o e).2⟩
  · show X.base.objs.size ≤ g.objs.size
    rw [hsz]
    exact Nat.le_succ_of_le (Nat.le_trans I.ok.bsz I.sz)
  · intro b o e hb
    rcases List.mem_cons.mp hb with z | hb
    · have := Heap.lt_size (I.bs b o e).1
      rw [z] at this
      exact Nat.lt_irrefl _ this
    · rcases (hf b hb).2.2.2.1 with z | z
      · exact I.ok.noex b o e z
      · exact absurd (Nat.lt_of_lt_of_le (Heap.lt_size (I.ok.bs b o e).1) z) (Nat.lt_irrefl _)
  · intro b hb
    rcases List.mem_cons.mp hb with z | hb
    · rw [z]; exact nstD
    · exact nst b (hf b hb).2.1 (hf b hb).2.2.1
  · exact (I.kept (h' := g) (t' := s.toks) kp).stack
  · refine ⟨_, hC, fun i y v e1 e2 e3 => ?_⟩
    cases i with
    | zero => cases e2
    | succ k =>
      have e1' : (fr.map (·.1))[k]? = some y := e1
      have e2' : (frOf fr σ)[k]? = some (some v) := e2
      unfold frOf at e2'
      rw [List.getElem?_map] at e1' e2'
      cases q : fr[k]? with
      | none => rw [q] at e1'; cases e1'
      | some p =>
        rw [q] at e1' e2'
        have ey : p.1 = y := Option.some.inj e1'
        have ev : (σ[p.2]?).join = some v := Option.some.inj e2'
        have hp : p ∈ fr := List.mem_of_getElem? q
        obtain ⟨hN, hK⟩ := O.slot p hp
        have hkk := O.frk p hp
        rw [ey] at hN hK hkk
        have ev' : σ[p.2]? = some (some v) := by
          cases q2 : σ[p.2]? with
          | none => rw [q2] at ev; cases ev
          | some w => rw [q2] at ev; exact congrArg some ev
        obtain ⟨m, hn, hl⟩ := I.loc
        obtain ⟨u, r, l⟩ := hl p.2 y v hN ev' (.inr (.inl hK))
        refine ⟨u, r, ?_⟩
        rcases l with ⟨k1, _⟩ | ⟨_, c, ec, z⟩
        · rw [hK] at k1; cases k1
        · have hm : y ∈ fr.map (·.1) := by rw [← ey]; exact List.mem_map.mpr ⟨p, hp, rfl⟩
          have el := lookup_map_some (env := X.env) hm
          rw [ec] at el
          exact .inr ⟨.inl hkk, c, el, by obtain ⟨o, ho, hd⟩ := z; exact ⟨o, hk0 _ _ ho, hd⟩⟩
  · intro y c e
    obtain ⟨v, o, ho, hd⟩ := I.cell y c (O.cells I e)
    exact ⟨v, o, hk0 _ _ ho, hd⟩
  · intro y c e
    exact I.freeC y c (O.cells I e)
  · intro p hp
    rcases List.mem_append.mp hp with hp | hp
    · cases hp
    · rcases List.mem_append.mp hp with hp | hp
      · obtain ⟨e, n, ne, nf, d⟩ := I.pin p hp
        exact ⟨hk0 _ _ e, n, neC _ (Heap.lt_size e), nst _ ne nf, d⟩
      · have ep : p = (s.heap.objs.size, LCg.lst []) := by simpa using hp
        subst ep
        exact ⟨hDo, hfD, hDC, nstD, fun v z => by cases z⟩
  · show (none :: frOf fr σ).length = (x :: fr.map (·.1)).length
    unfold frOf
    simp
/-- from the block's end back to the body around: the list is tracked, the block's names at C may still change -/
theorem inv_comp_end {fp : List Addr} {g : Heap} {s' : Shared} {H' : Hp} {σ' : St} {ys : List V} {us : List Value} (I : Inv X pins σ H s) (hf : ∀ b ∈ fp, FpOk X pins H b) (hg : g = s.heap.push (LCg.lst []))
    (J : Inv (cxComp X scope fr x g.objs.size (s.heap.objs.size :: fp) { s with heap := g } H) (X.pn ++ pins ++ [(s.heap.objs.size, LCg.lst us)]) σ' H' s') (hv : Vals ys us) (hl : ys.length ≤ sizeLine) :
    Inv X pins σ (upd H' s.heap.objs.size (.lst ys)) s' ∧ H' s.heap.objs.size = none ∧ FpOk X pins (upd H' s.heap.objs.size (.lst ys)) g.objs.size ∧ ∃ m, s'.heap.Ns g.objs.size m := by
  have hsz : g.objs.size = s.heap.objs.size + 1 := by rw [hg, Heap.size_push]
  have kp : ∀ b o, s.heap.get? b = some o → g.get? b = some o := fun b o e => by rw [hg]; exact Heap.get?_push_of_some _ e
  obtain ⟨eD, nD, _, _, _⟩ := J.pin (s.heap.objs.size, LCg.lst us) (by simp)
  have hDC : g.objs.size ≠ s.heap.objs.size := by rw [hsz]; exact Nat.ne_of_gt (Nat.lt_succ_self _)
  have nD' : ∀ b u, H' b = some u → b ≠ s.heap.objs.size := fun b u e z => by rw [z] at e; rw [e] at nD; cases nD
  have hx : ∀ b o, s.heap.get? b = some o → b ∉ fp → b ∉ s.heap.objs.size :: fp := fun b o e hb z => by
    rcases List.mem_cons.mp z with z | z
    · have := Heap.lt_size e
      rw [z] at this
      exact Nat.lt_irrefl _ this
    · exact hb z
  have bU : Un (frs X.stack) (s.heap.objs.size :: fp) H H' g s'.heap := J.base
  have ltD : ∀ b o, s.heap.get? b = some o → b ≠ s.heap.objs.size := fun b o e => Nat.ne_of_lt (Heap.lt_size e)
  have un : Un (frs X.stack) fp H (upd H' s.heap.objs.size (.lst ys)) s.heap s'.heap := by
    refine ⟨fun b o e n hb he => bU.keep b o (kp b o e) n hb (hx b o e he), fun b o e n hb he => bU.slot b o (kp b o e) n hb (hx b o e he), fun b o e n he => ?_, fun b o e he => bU.there b o (kp b o e) (hx b o e he), fun b xs e => ?_, fun b o u e => ?_, fun b ps e => ?_⟩
    · rw [upd_ne (ltD b o e)]; exact bU.free b o (kp b o e) n (hx b o e he)
    · have q := bU.tups b xs e
      rw [upd_ne (nD' b _ q)]; exact q
    · have q := bU.frzs b o u e
      rw [upd_ne (nD' b _ q)]; exact q
    · obtain ⟨more, q⟩ := bU.tbls b ps e
      exact ⟨more, by rw [upd_ne (nD' b _ q)]; exact q⟩
  have hok : HOk X.prog X.w (upd H' s.heap.objs.size (.lst ys)) s'.heap := fun b u e => by
    by_cases hb : b = s.heap.objs.size
    · rw [hb, upd_same] at e
      cases e
      rw [hb]
      exact ⟨hl, us, us.length, hv, eD⟩
    · rw [upd_ne hb] at e
      exact (J.hok b u e).stay (fun c v _ q => q) (fun c q => by rw [upd_ne (nD' c _ q)]; exact q) fun c xs q => by rw [upd_ne (nD' c _ q)]; exact q
  have os : s'.os = s.os := J.os
  refine ⟨I.call' os un hok J.bare fun b hb => ⟨(hf b hb).2.2.2.1, (hf b hb).2.1, (hf b hb).2.2.2.2⟩, nD, ?_, ?_⟩
  · refine I.fpOk (H' := upd H' s.heap.objs.size (.lst ys)) (b := g.objs.size) (by rw [hsz]; exact Nat.le_succ _) ?_
    rw [upd_ne hDC]
    exact J.free
  · obtain ⟨m, hn, _⟩ := J.loc
    exact ⟨m, hn⟩
end
/-- the reading: W by the turn, a measure, the items so far, the heap -/
def tCompR (te : TE) (fv : St) (J : It) (H1 : Hp) (QQ : List V → Hp → Prop) : Prop :=
  ∃ W : Nat → Nat → List V → Hp → Prop, (∃ m, W 0 m [] H1) ∧ ∀ i m ys H, W i m ys H → ys.length ≤ sizeLine ∧
    ((J.stop i H ∧ QQ ys H) ∨ (J.go i H ∧ ∃ N : V → Hp → Prop, (∀ y H2, N y H2 → ∃ m', m' < m ∧ W (i + 1) m' (ys ++ [y]) H2) ∧ ∀ x H', J.yld i H x H' → te (some x :: fv) H' N))
section
variable {X : Cx} {scope : Scope} {fr : List (Str × Nat)} {x : Str} {elt iter : Expr} {px pos : Pos} {te : TE} {wi : TI}
theorem comp_core {pins : List (Addr × Obj)} {σ : St} {H : Hp} {s : Shared} {E : Value → Shared → Prop} {it : Addr} {fp : List Addr} {tn : Nat → Heap → Prop} {J : It} {RR : Value → Addr → Result → Shared → Prop} {QQ : List V → Hp → Prop} (hc : X.calm = true) (O : CompOk X scope fr x)
    (he : ∀ C ex s H, PE (cxComp X scope fr x C ex s H) elt te) (I : Inv X pins σ H s) (T : Turn X.prog X.w X.K (.Name x px) J fp it tn) (st : tn 0 s.heap) (hf : ∀ b ∈ fp, FpOk X pins H b) (hq : tCompR te (frOf fr σ) J H QQ)
    (fin : ∀ D C H4 ys s4 m, Inv X pins σ (upd H4 D (.lst ys)) s4 → H4 D = none → FpOk X pins (upd H4 D (.lst ys)) C → s4.heap.Ns C m → QQ ys H4 → RR (.ref D) C (.ok .next) s4) :
    wpAny (model X.prog X.w) X.A (newList []) (fun acc s₃ => wpAny (model X.prog X.w) X.A (newFunctionEnv scope X.env.globals (clOf X.env fr) [] X.env.qual none .none (some X.env)) (fun cenv s₄ =>
      codeAny (model X.prog X.w) X.A (.compStart (.ListComp elt [⟨.Name x px, iter, [], 0⟩] scope pos) 0 (.ref it) acc { cenv with scope := relabel scope X.env }) (RR acc cenv.locals) s₄) E s₃) E s := by
  obtain ⟨W, ⟨m0, w0⟩, turn⟩ := hq
  have hfs : ∀ b ∈ fp, b < s.heap.objs.size := fun b hb => by
    obtain ⟨o, e, _⟩ := T.obj 0 s.heap st b hb
    exact Heap.lt_size e
  refine wpAny_newObj_type (wpAny_newFunctionEnv O.cell (by intro y hy; simp at hy) (fun h₁ hns₁ hsb₁ => ?_) O.kind)
  dsimp only at hns₁ hsb₁ ⊢
  generalize hH2 : s.heap.push { cls := .type "list", dict := none, data := .seq ([] : List Value).toArray } = g at hns₁ hsb₁ ⊢
  have hg : g = s.heap.push (LCg.lst []) := hH2.symm
  have hsz : g.objs.size = s.heap.objs.size + 1 := by rw [hg, Heap.size_push]
  have hk : ∀ b o, g.get? b = some o → h₁.get? b = some o := fun b o e => hsb₁.extBut b o (Nat.ne_of_lt (Heap.lt_size e)) (Heap.get?_push_of_some _ e)
  have kp : ∀ b o, s.heap.get? b = some o → h₁.get? b = some o := fun b o e => hk b o (by rw [hg]; exact Heap.get?_push_of_some _ e)
  have J0 := inv_comp (h' := h₁) (tk := s.toks + ([] : List (Str × Value)).length) O I hf hfs hg hk hns₁
  have stat : ∀ {H' : Hp} {us : List Value}, (∀ b ∈ fp, H' b = none) → ∀ b ∈ fp, FpOk (cxComp X scope fr x g.objs.size (s.heap.objs.size :: fp) { s with heap := g } H) (X.pn ++ pins ++ [(s.heap.objs.size, LCg.lst us)]) H' b := fun {H' us} hn b hb => by
    obtain ⟨_, f1, f2, f3, f4, f5⟩ := hf b hb
    refine ⟨hn b hb, ?_, fun z => (List.mem_cons.mp (I.stkSub b z)).elim f1 f2, .inl (List.mem_cons_of_mem _ hb), fun y c e => f4 y c (O.cells I e), fun p hp => ?_⟩
    · show b ≠ g.objs.size
      rw [hsz]; exact Nat.ne_of_lt (Nat.lt_succ_of_lt (hfs b hb))
    · rcases List.mem_append.mp hp with hp | hp
      · cases hp
      · rcases List.mem_append.mp hp with hp | hp
        · exact f5 p hp
        · have ep : p = (s.heap.objs.size, LCg.lst us) := by simpa using hp
          rw [ep]
          exact Nat.ne_of_gt (hfs b hb)
  have loop : codeAny (model X.prog X.w) X.A (.compLoop (.ListComp elt [⟨.Name x px, iter, [], 0⟩] scope pos) 0 (.ref it) (.ref s.heap.objs.size) (compEnvC scope (clOf X.env fr) g.objs.size X.env))
      (RR (.ref s.heap.objs.size) g.objs.size) { s with heap := h₁, toks := s.toks + ([] : List (Str × Value)).length } := by
    refine codeAny_compLoop_tests (fun n s' => ∃ i ys us H', Inv (cxComp X scope fr x g.objs.size (s.heap.objs.size :: fp) { s with heap := g } H) (X.pn ++ pins ++ [(s.heap.objs.size, LCg.lst us)]) (none :: frOf fr σ) H' s' ∧ Vals ys us ∧ tn i s'.heap ∧ (∀ b ∈ fp, H' b = none) ∧ W i n ys H') ?_ m0
      ⟨0, [], [], H, J0, .nil, T.keep 0 s.heap h₁ st fun b _ o e => kp b o e, fun b hb => (hf b hb).1, w0⟩
    rintro n s3 ⟨i, ys, us, H3, J3, hv, st3, fr3, w3⟩
    obtain ⟨hlen, hh⟩ := turn i n ys H3 w3
    have none_err : ∀ {α : Type} {t : Sem α} {Q : α → Shared → Prop} {E' : Value → Shared → Prop} {s : Shared}, wpAny (model X.prog X.w) X.A t Q (fun _ _ => False) s → wpAny (model X.prog X.w) X.A t Q E' s := fun h => wpAny_mono h (fun _ _ q => q) fun _ _ z => z.elim
    rcases hh with ⟨stop, qn⟩ | ⟨go, N, hN, step⟩
    · refine none_err (thn (T.done (cxComp X scope fr x g.objs.size (s.heap.objs.size :: fp) { s with heap := g } H) rfl rfl rfl hc i _ s3 _ H3 _ J3 (stat fr3) st3 stop) fun r s4 ⟨hr, J4⟩ => ?_)
      subst hr
      obtain ⟨I4, nD, fC, m, hn⟩ := inv_comp_end I hf hg J4 hv hlen
      exact fin _ _ H3 ys s4 m I4 nD fC hn qn
    · refine none_err (thn (T.item (cxComp X scope fr x g.objs.size (s.heap.objs.size :: fp) { s with heap := g } H) rfl rfl rfl hc i _ s3 _ H3 _ J3 (stat fr3) st3 go) fun r s4 ⟨u, hr, h4⟩ => ?_)
      subst hr
      have h4' := wpAny_bind (f := fun _ => assign (.Name x px) (compEnvC scope (clOf X.env fr) g.objs.size X.env) u) (thn h4 (Q' := fun _ s5 => wpAny (model X.prog X.w) X.A (assign (.Name x px) (compEnvC scope (clOf X.env fr) g.objs.size X.env) u) (fun _ s6 => ∃ (σ6 : St) (H6 : Hp) (v : V) (s5' : Shared) (H5 : Hp), Inv (cxComp X scope fr x g.objs.size (s.heap.objs.size :: fp) { s with heap := g } H) (X.pn ++ pins ++ [(s.heap.objs.size, LCg.lst us)] ++ pinsAt fp s5'.heap) σ6 H6 s6 ∧ σ6 = some v :: frOf fr σ ∧ H6 = H5 ∧ J.yld i H3 v H5 ∧ tn (i + 1) s5'.heap) (fun _ _ => False) s5) fun _ s5 ⟨v, H5, J5, r5, y5, st5, fr5⟩ => by
        have J5' := J5.pinned (stat fr5) (T.obj _ _ st5)
        have hNd : (cxComp X scope fr x g.objs.size (s.heap.objs.size :: fp) { s with heap := g } H).N.Nodup := O.nd
        have hxl : (cxComp X scope fr x g.objs.size (s.heap.objs.size :: fp) { s with heap := g } H).env.scope.names.lookup x = some .local := lookup_relabel_local O.xl
        exact thn (pg_name (X := cxComp X scope fr x g.objs.size (s.heap.objs.size :: fp) { s with heap := g } H) (i := 0) hNd rfl (.inl hxl) (.inr hxl) _ s5 _ H5 v u (fun σ6 H6 => σ6 = some v :: frOf fr σ ∧ H6 = H5) J5' r5 ⟨rfl, rfl⟩) fun _ s6 ⟨σ6, H6, J6, e6, e7⟩ => ⟨σ6, H6, v, s5, H5, J6, e6, e7, y5, st5⟩)
      refine none_err (thn h4' fun _ s6 ⟨σ6, H6, v, s5, H5, J6, e6, e7, y5, st5⟩ => ?_)
      subst e6 e7
      refine wpAny_tests_nil ?_
      rw [if_pos rfl]
      refine none_err (thn (he _ _ _ _ _ s6 _ H6 _ J6 (step v H6 y5)) fun u7 s7 ⟨v7, H7, J7, r7, q7⟩ => ?_)
      obtain ⟨m', hm, w7⟩ := hN v7 H7 q7
      obtain ⟨eD, nD, dC, dF, dd⟩ := J7.pin (s.heap.objs.size, LCg.lst us) (List.mem_append_right _ (List.mem_append_left _ (List.mem_append_right _ (by simp))))
      have hvl := hv.length
      refine append_at (hsz := by show us.toArray.size ≤ sizeLine; rw [List.size_toArray, ← hvl]; exact hlen) eD fun h8 hs8 hD8 => ?_
      have pinD : ∀ p ∈ X.pn ++ pins, p.1 ≠ s.heap.objs.size := fun p hp z => by
        have := Heap.lt_size (I.pin p hp).1
        rw [z] at this
        exact Nat.lt_irrefl _ this
      have J7a : Inv (cxComp X scope fr x g.objs.size (s.heap.objs.size :: fp) { s with heap := g } H) (X.pn ++ pins) _ H7 s7 := J7.pins_of fun p hp => J7.pin p (List.mem_append_right _ (List.mem_append_left _ (List.mem_append_left _ hp)))
      have J8 : Inv (cxComp X scope fr x g.objs.size (s.heap.objs.size :: fp) { s with heap := g } H) (X.pn ++ pins) _ H7 { s7 with heap := h8 } := J7a.turned (t' := s7.toks) (fun b o hb e => (hs8.2 b hb).trans e) nD dC (.inl List.mem_cons_self) (fun y c e z => by
        obtain ⟨w', q⟩ := I.cell y c (O.cells I e)
        have := q.lt
        rw [z] at this
        exact Nat.lt_irrefl _ this) (fun p hp => (List.mem_append.mp hp).elim (fun z => by cases z) (pinD p))
      have J9 : Inv (cxComp X scope fr x g.objs.size (s.heap.objs.size :: fp) { s with heap := g } H) (X.pn ++ pins ++ [(s.heap.objs.size, LCg.lst (us ++ [u7]))]) _ H7 { s7 with heap := h8 } := J8.pins_of fun p hp => by
        rcases List.mem_append.mp hp with hp | hp
        · exact J8.pin p (List.mem_append_right _ hp)
        · have ep : p = (s.heap.objs.size, LCg.lst (us ++ [u7])) := by simpa using hp
          subst ep
          exact ⟨hD8.trans (congrArg some (LCg.lst_snoc us u7)), nD, dC, dF, fun v z => by cases z⟩
      have J10 := J9.weak (σ' := none :: frOf fr σ) rfl fun i v e => by
        cases i with
        | zero => cases e
        | succ k => exact e
      have pinF : ∀ b ∈ fp, ∀ o, s5.heap.get? b = some o → s7.heap.get? b = some o ∧ H7 b = none := fun b hb o e => by
        obtain ⟨q1, q2, _⟩ := J7.pin (b, o) (List.mem_append_right _ (List.mem_append_right _ (mem_pinsAt hb e)))
        exact ⟨q1, q2⟩
      refine ⟨m', hm, i + 1, ys ++ [v7], us ++ [u7], H7, J10, hv.append (.cons r7 .nil), T.keep _ _ _ st5 fun b hb o e => (hs8.2 b (Nat.ne_of_lt (hfs b hb))).trans (pinF b hb o e).1, fun b hb => ?_, w7⟩
      obtain ⟨o, e, _⟩ := T.obj _ _ st5 b hb
      exact (pinF b hb o e).2
  exact codeAny_compStart_list loop (T.self X.A 0 _ _ _ (T.keep 0 s.heap h₁ st fun b _ o e => kp b o e) loop)
/-- [elt for x in iter] -/
def tComp (wi : TI) (te : TE) (fr : List (Str × Nat)) : TE := fun σ H Q => wi σ H fun J H1 => tCompR te (frOf fr σ) J H1 fun ys H2 => ∀ D, H2 D = none → Q (.ref D) (upd H2 D (.lst ys))
theorem pe_comp (hc : X.calm = true) (O : CompOk X scope fr x) (hi : PI X (.Name x px) iter wi) (he : ∀ C ex s H, PE (cxComp X scope fr x C ex s H) elt te) (hs : ∀ x, foldedSetIterable iter X.env x = pure x := by intro _; rfl) :
    PE X (.ListComp elt [⟨.Name x px, iter, [], 0⟩] scope pos) (tComp wi te fr) := by
  intro pins s σ H Q I h
  rw [eval_ListComp]
  refine wpAny_comprehension_free (use := none) rfl hs O.clos O.kind O.names (thn (hi pins s σ H _ I h) fun xv s1 h1 => thn h1 fun itv s2 h2 => ?_)
  obtain ⟨it, fp, tn, J, H2, e, I2, T, st2, f2, q2⟩ := h2
  subst e
  refine comp_core (RR := fun acc C => compPost (model X.prog X.w) X.A X.xe none (EP X pins σ Q) acc C) hc O he I2 T st2 f2 q2 ?_
  intro D C H4 ys s4 m I4 nD fC hn q4
  refine ⟨m, hn, fun h' hs' => ?_⟩
  obtain ⟨g0, g1, g2, g3, g4, g5⟩ := fC
  exact ⟨.ref D, _, I4.turned (t' := s4.toks) (fun b o hb e => (hs'.2 b hb).trans e) g0 g1 g3 g4 g5, rfl, q4 D nD⟩
/-- y = [elt for x in iter], y a plain local name -/
def tAsgComp (i : Nat) (wi : TI) (te : TE) (fr : List (Str × Nat)) : TS := fun D σ H => wi σ H fun J H1 => tCompR te (frOf fr σ) J H1 fun ys H2 => ∀ a, H2 a = none → D.nx (σ.set i (some (.ref a))) (upd H2 a (.lst ys))
theorem ps_setComp {i : Nat} {y : Str} {py spos : Pos} (hc : X.calm = true) (hN : X.N.Nodup) (hi' : X.N[i]? = some y) (hy : X.env.scope.names.lookup y = some .local) (O : CompOk X scope fr x) (hi : PI X (.Name x px) iter wi) (he : ∀ C ex s H, PE (cxComp X scope fr x C ex s H) elt te)
    (hsw : swapsWith (.ListComp elt [⟨.Name x px, iter, [], 0⟩] scope pos) (some (.Name y py)) spos.line X.env = pure true := by rfl) (hs : ∀ x, foldedSetIterable iter X.env x = pure x := by intro _; rfl) :
    PS X (.Assign [.Name y py] (.ListComp elt [⟨.Name x px, iter, [], 0⟩] scope pos) spos) (tAsgComp i wi te fr) := by
  intro pins s σ H D I h
  rw [exec_Assign_Name_used _ _ _ _ hsw]
  refine wpAny_bind (wpAny_standAt (wpAny_bind ?_))
  show wpAny _ X.A (do let _ ← comprehension (.ListComp elt [⟨.Name x px, iter, [], 0⟩] scope pos) scope X.env _ (newList []) false (eval iter X.env) (some (assign (.Name y py) X.env))) _ _ s
  refine wpAny_bind (thn (wpAny_comprehension_free (use := some (assign (.Name y py) X.env)) (Q := fun _ s' => SP X pins D .next s') rfl hs O.clos O.kind O.names (thn (hi pins s σ H _ I h) fun xv s1 h1 => thn h1 fun itv s2 h2 => ?_)) fun _ s' hq => wpAny_pure (wpAny_pure hq))
  obtain ⟨it, fp, tn, J, H2, e, I2, T, st2, f2, q2⟩ := h2
  subst e
  refine comp_core (RR := fun acc C => compPost (model X.prog X.w) X.A X.xe (some (assign (.Name y py) X.env)) (fun _ s' => SP X pins D .next s') acc C) hc O he I2 T st2 f2 q2 ?_
  intro a C H4 ys s4 m I4 nD fC hn q4
  obtain ⟨g0, g1, g2, g3, g4, g5⟩ := fC
  obtain ⟨oC, eC, hoC⟩ := LCg.ns_obj hn
  have I5 : Inv X (pins ++ [(C, oC)]) σ (upd H4 a (.lst ys)) s4 := I4.pins_of fun p hp => by
    rcases List.mem_append.mp hp with hp | hp
    · exact I4.pin p (List.mem_append_right _ hp)
    · have ep : p = (C, oC) := by simpa using hp
      subst ep
      obtain ⟨es, epp, hd, _⟩ := hoC
      exact ⟨eC, g0, g1, g2, fun v z => by rw [hd] at z; cases z⟩
  show wpAny _ X.A (assign (.Name y py) X.env (.ref a)) _ _ _
  refine wpAny_assign_Name (store_ok I5 hN hi' (.inl hy) (v := .ref a) rfl (fun s6 I6 => ?_) (.inr hy))
  obtain ⟨e6, _⟩ := I6.pin (C, oC) (List.mem_append_right _ (List.mem_append_right _ (by simp)))
  refine ⟨m, hoC.ns e6, fun h' hs' => ?_⟩
  exact ⟨_, _, I6.unpinned.turned (t' := s6.toks) (fun b o hb e => (hs'.2 b hb).trans e) g0 g1 g3 g4 g5, q4 a nD⟩
end
/-! ### the forms one uses -/
/-- over a list that stays as it is -/
theorem comp_list {K : PySem.W.Frag} {a : Addr} {xs : List V} {te : TE} {fv : St} {H1 : Hp} {QQ : List V → Hp → Prop} (Pv : Nat → List V → Hp → Prop) (hz : xs.length ≤ sizeLine) (h0 : Pv 0 [] H1) (hl : ∀ i ys H, i ≤ xs.length → Pv i ys H → SqL K H a xs)
    (hs : ∀ i x ys H, xs[i]? = some x → Pv i ys H → te (some x :: fv) H fun y H2 => Pv (i + 1) (ys ++ [y]) H2) (hd : ∀ ys H, ys.length = xs.length → Pv xs.length ys H → QQ ys H)
    : tCompR te fv (Itl K a) H1 QQ := by
  refine ⟨fun i m ys H => m = xs.length - i ∧ i ≤ xs.length ∧ ys.length = i ∧ Pv i ys H, ⟨xs.length, by simp, Nat.zero_le _, rfl, h0⟩, ?_⟩
  rintro i m ys H ⟨rfl, hi, hy, p⟩
  have q := hl i ys H hi p
  refine ⟨by omega, ?_⟩
  by_cases hlt : i < xs.length
  · refine .inr ⟨⟨xs, xs[i], q, by simp [hlt]⟩, fun y H2 => Pv (i + 1) (ys ++ [y]) H2, fun y H2 p2 => ⟨xs.length - (i + 1), by omega, rfl, hlt, by rw [List.length_append, hy]; rfl, p2⟩, fun x H' y => ?_⟩
    obtain ⟨e, y⟩ := y
    subst e
    exact hs i x ys _ (y xs q) p
  · have e : i = xs.length := by omega
    subst e
    exact .inl ⟨⟨xs, q, Nat.le_refl _⟩, hd ys H hy p⟩
end L2

namespace L2
open PySem PySem.Spec PyProof.Rows
theorem bt_int : bootBuiltins "int" = some (.type "int") := by decide +kernel
theorem bt_bool : bootBuiltins "bool" = some (.type "bool") := by decide +kernel
theorem bt_list : bootBuiltins "list" = some (.type "list") := by decide +kernel
theorem bt_tuple : bootBuiltins "tuple" = some (.type "tuple") := by decide +kernel
theorem bt_len : bootBuiltins "len" = some (.builtin "len") := by decide +kernel
theorem bt_range : bootBuiltins "range" = some (.type "range") := by decide +kernel
theorem bt_isinstance : bootBuiltins "isinstance" = some (.builtin "isinstance") := by decide +kernel
theorem bt_enumerate : bootBuiltins "enumerate" = some (.type "enumerate") := by decide +kernel
/-! ### a callee, all that a call asks -/
structure Cal (P : Program) (w : World) (K : PySem.W.Frag) (mg : Str → Option Value) (base : Heap) (k : Nat) (x : Str) (ps : List Str) (sp : Sp) (f : Addr) (fd : FuncData) : Prop where
  ok : FnOk P w K mg base CX0 k f fd ps sp
  bn : Binds K fd ps []
  mg : mg x = some (.ref f)
  kp : PySem.W.keepIn K (.ref f) = true
/-! ### a block by what one asks of it -/
theorem pss_imp {X : Cx} {sts : List Stmt} {t t2 : TS} (h : PSs X sts t) (i : ∀ D σ H, t2 D σ H → t D σ H) : PSs X sts t2 := fun pins s σ H D I q => h pins s σ H D I (i D σ H q)
/-! ### isinstance(x, c), c one class -/
section
variable {X : Cx}
def rIsi (K : PySem.W.Frag) : List V → Hp → VK → Prop := fun xs H Q => ∃ x c t b u, xs = [x, c] ∧ TyOf K H x t ∧ ((∃ n, c = .ty n ∧ u = Value.type n) ∨ ∃ a, c = .ref a ∧ u = Value.ref a) ∧ PySem.W.kitOne K t u = some b ∧ Q (.bl b) H
theorem call_isi : CallR X (.builtin "isinstance") (rIsi X.K) := by
  intro pins s σ H xs us Q I r h
  obtain ⟨x, c, t, b, u, rfl, ty, hu, e, q⟩ := h
  obtain ⟨v1, v2, rfl, r1, r2⟩ := vals2 r
  have e2 : v2 = u := by
    rcases hu with ⟨n, rfl, rfl⟩ | ⟨a, rfl, rfl⟩
    · exact r2
    · exact r2
  subst e2
  exact isinst_ok I r1 ty e fun tk => ⟨.bl b, H, I.tok tk, rfl, q⟩
theorem kit_ii (K : PySem.W.Frag) : PySem.W.kitOne K (.type "int") (.type "int") = some true := by with_unfolding_all rfl
theorem kit_ib (K : PySem.W.Frag) : PySem.W.kitOne K (.type "int") (.type "bool") = some false := by with_unfolding_all rfl
theorem kit_ll (K : PySem.W.Frag) : PySem.W.kitOne K (.type "list") (.type "list") = some true := by with_unfolding_all rfl
theorem kit_tt (K : PySem.W.Frag) : PySem.W.kitOne K (.type "tuple") (.type "tuple") = some true := by with_unfolding_all rfl
end
/-! ### == of two things that hold the same data: lists and tuples of ints, bools, texts, at any depth -/
inductive RdD (K : PySem.W.Frag) (H : Hp) : V → PyData → Prop where
  | non : RdD K H .non .none
  | bl (b : Bool) : RdD K H (.bl b) (.bool b)
  | int (i : Int) : RdD K H (.int i) (.int i)
  | lst {a : Addr} {xs : List V} {ds : List PyData} (h : SqL K H a xs) (hl : xs.length = ds.length) (r : ∀ (i : Nat) (x : V) (d : PyData), xs[i]? = some x → ds[i]? = some d → RdD K H x d) : RdD K H (.ref a) (.list ds)
  | tup {a : Addr} {xs : List V} {ds : List PyData} (h : SqT K H a xs) (hl : xs.length = ds.length) (r : ∀ (i : Nat) (x : V) (d : PyData), xs[i]? = some x → ds[i]? = some d → RdD K H x d) : RdD K H (.ref a) (.tuple ds)
theorem readsAll_of {h : Heap} : ∀ {xs : List V} {us : List Value} {ds : List PyData}, Vals xs us → xs.length = ds.length → (∀ (i : Nat) x d, xs[i]? = some x → ds[i]? = some d → ∀ u, RelV x u → ∃ as, Reads h u d as) → ∃ as, ReadsAll h us ds as
  | _, _, [], .nil, _, _ => ⟨_, .nil⟩
  | _, _, _ :: _, .nil, e, _ => by cases e
  | _, _, [], .cons _ _, e, _ => by cases e
  | _, _, d :: ds, .cons r rr, e, k => by
    obtain ⟨a1, q1⟩ := k 0 _ d rfl rfl _ r
    obtain ⟨a2, q2⟩ := readsAll_of rr (Nat.succ.inj e) fun i x d' e1 e2 => k (i + 1) x d' e1 e2
    exact ⟨_, .cons q1 q2⟩
section
variable {X : Cx}
theorem RdD.reads {pins : List (Addr × Obj)} {σ : St} {H : Hp} {s : Shared} (I : Inv X pins σ H s) {x : V} {d : PyData} (r : RdD X.K H x d) : ∀ u, RelV x u → ∃ as, Reads s.heap u d as := by
  induction r with
  | non => intro u hu; cases hu; exact ⟨_, .none⟩
  | bl b => intro u hu; cases hu; exact ⟨_, .bool b⟩
  | int i => intro u hu; obtain ⟨t, rfl⟩ := hu; exact ⟨_, .int i t⟩
  | lst h hl r ih =>
    intro u hu
    cases hu
    obtain ⟨its, rv, p, _⟩ := I.list h
    obtain ⟨as, q⟩ := readsAll_of (h := s.heap) rv hl ih
    obtain ⟨o, n, e, c, _, d⟩ := p
    exact ⟨_, .list e c d (by simpa using q)⟩
  | tup h hl r ih =>
    intro u hu
    cases hu
    obtain ⟨its, rv, p, _⟩ := I.tuple h
    obtain ⟨as, q⟩ := readsAll_of (h := s.heap) rv hl ih
    obtain ⟨o, e, c, n, d⟩ := p
    exact ⟨_, .tuple e c d (by simpa using q)⟩
def rSame (b : Bool) (K : PySem.W.Frag) : R2 := fun x y H Q => ∃ d, RdD K H x d ∧ RdD K H y d ∧ SeqAt.shaped d = true ∧ Q (.bl b) H
theorem op_eqD (hu : X.A.units + 64 < cLine) : OpR X (compareOp .Eq) (rSame true X.K) := by
  intro pins s σ H x y v u Q I rx ry h
  obtain ⟨d, r1, r2, hs, q⟩ := h
  obtain ⟨as, q1⟩ := r1.reads I v rx
  obtain ⟨bs, q2⟩ := r2.reads I u ry
  refine eq_dataH q1 q2 hs hs hu ?_
  rw [SeqAt.eqv_refl d (SeqAt.canLay_of_shaped hs)]
  exact ⟨.bl true, H, I, rfl, q⟩
end
/-! ### range(a, b, c), c above nought -/
def Itr3 (lo c : Int) (n : Nat) : It := ⟨fun i _ => i < n, fun i H x H' => H' = H ∧ x = .int (lo + i * c), fun i _ => n ≤ i⟩
theorem turn_range3 {P : Program} {w : World} {K : PySem.W.Frag} {tg : Expr} (it : Addr) (lo c : Int) (n : Nat) : Turn P w K tg (Itr3 lo c n) [it] it (fun i h => IsRangeIter h it (lo + (i : Nat) * c) ((n : Int) - (i : Nat)) c) where
  mem := by simp
  obj := fun i h st b hb => by
    have e : b = it := by simpa using hb
    subst e
    exact ⟨_, st, fun v z => by
      have z' : Data.fields _ = Data.cell v := z
      cases z'⟩
  keep := fun i h h' st k => k it (by simp) _ st
  item := by
    intro X hP hw hK hc i pins s σ H E I hf st hg
    subst hP hw hK
    obtain ⟨f0, f1, f2, f3, f4, f5⟩ := hf it (by simp)
    have W := Walks.range (prog := X.prog) (w := X.w) (I.ok.hd hc) it lo c n
    refine W.item i s _ _ hg st fun v h' tk hv st' kk => ?_
    obtain ⟨t, rfl⟩ := hv
    have I1 : Inv X pins σ H { s with heap := h', toks := tk } := I.turned (fun b o hb e => kk b o (by simpa using hb) e) f0 f1 f3 f4 f5
    exact ⟨_, rfl, go_of (s := { s with heap := h', toks := tk }) (n := "range_iterator") st' rfl rfl (by decide) ⟨.int (lo + i * c), H, I1, ⟨t, rfl⟩, ⟨rfl, rfl⟩, st', fun b hb => (hf b hb).1⟩⟩
  done := by
    intro X hP hw hK hc i pins s σ H E I hf st hg
    subst hP hw hK
    obtain ⟨f0, f1, f2, f3, f4, f5⟩ := hf it (by simp)
    exact wpAny_pyNext_range_end (I.ok.hd hc) st (by have : n ≤ i := hg; omega) fun h' eb => ⟨rfl, I.turned (t' := s.toks) (fun b o hb e => eb b o hb e) f0 f1 f3 f4 f5⟩
  self := fun _ _ _ _ _ st h => wpAny_pyIter_rangeiter st h
section
variable {X : Cx} {tg : Expr}
end
theorem for_range3 {lo c : Int} {n : Nat} {g : TG} {tb : TS} {D : Ends} {σ : St} {H : Hp} (Pv : Nat → St → Hp → Prop) (h0 : Pv 0 σ H)
    (hs : ∀ i σ H, i < n → Pv i σ H → g (.int (lo + i * c)) σ H fun σ2 H2 => tb { D with nx := Pv (i + 1), ct := Pv (i + 1), bk := D.nx } σ2 H2) (hd : ∀ σ H, Pv n σ H → D.nx σ H) :
    ∃ W : Nat → Nat → St → Hp → Prop, (∃ m, W 0 m σ H) ∧ ∀ i m σ H, W i m σ H →
      ((Itr3 lo c n).stop i H ∧ D.nx σ H) ∨ ((Itr3 lo c n).go i H ∧ ∃ N : St → Hp → Prop, (∀ σ' H', N σ' H' → ∃ m', m' < m ∧ W (i + 1) m' σ' H') ∧ ∀ x H', (Itr3 lo c n).yld i H x H' → g x σ H' fun σ2 H2 => tb { D with nx := N, ct := N, bk := D.nx } σ2 H2) := by
  refine ⟨fun i m σ H => m = n - i ∧ i ≤ n ∧ Pv i σ H, ⟨n, by simp, Nat.zero_le _, h0⟩, ?_⟩
  rintro i m σ H ⟨rfl, hi, p⟩
  by_cases hlt : i < n
  · refine .inr ⟨hlt, Pv (i + 1), fun σ' H' p' => ⟨n - (i + 1), by omega, rfl, hlt, p'⟩, fun x H' y => ?_⟩
    obtain ⟨e, y⟩ := y
    subst e y
    exact hs i σ _ hlt p
  · have e : i = n := by omega
    subst e
    exact .inl ⟨Nat.le_refl _, hd σ H p⟩
end L2

namespace L2
open PySem PySem.Spec PyProof.Rows
/-! ## exceptions of own classes: raised, passed on, caught -/
section
variable {P : Program} {w : World} {H : Hp} {h : Heap} {a : Addr} {o : HO}
theorem ObjOk.get (x : ObjOk P w H h a o) : ∃ ob, h.get? a = some ob := by
  cases o with
  | lst xs => obtain ⟨_, _, _, _, e⟩ := x; exact ⟨_, e⟩
  | tup xs => obtain ⟨_, _, _, ob, e, _⟩ := x; exact ⟨_, e⟩
  | dK kvs => obtain ⟨_, _, _, _, o, _, _, e, _⟩ := x; exact ⟨_, e⟩
  | dT kvs => obtain ⟨_, _, _, _, o, _, _, e, _⟩ := x; exact ⟨_, e⟩
  | set S n => obtain ⟨o, _, _, _, e, _⟩ := x; exact ⟨_, e⟩
  | ins C dx fs => obtain ⟨_, _, _, e, _⟩ := x; exact ⟨_, e⟩
  | own y => exact x
  | xd fs => obtain ⟨_, ⟨_, _, _, e, _⟩, _⟩ := x; exact ⟨_, e⟩
  | rng lo hi => obtain ⟨_, _, _, e⟩ := x; exact ⟨_, e⟩
  | frz ob u => exact ⟨_, x.1⟩
  | tbl ps => exact ⟨_, (show h.get? a = some _ from x)⟩
  | met f y => exact ⟨_, (show h.get? a = some _ from x)⟩
  | ext φ => exact x.2.1
theorem HOk.none_of (x : HOk P w H h) (e : h.get? a = none) : H a = none := by
  cases q : H a with
  | none => rfl
  | some u =>
    obtain ⟨ob, z⟩ := (x a u q).get
    rw [e] at z
    cases z
end

/-- an object of nobody: not there at the entry, not tracked, no frame, no cell, no pin -/
structure XOk (X : Cx) (pins : List (Addr × Obj)) (H : Hp) (b : Addr) : Prop where
  old : X.s₀.heap.get? b = none
  trk : H b = none
  nl : b ≠ X.env.locals
  nc : ∀ x c, X.env.cells.lookup x = some c → c ≠ b
  np : ∀ p ∈ X.pn ++ pins, p.1 ≠ b
section
variable {X : Cx} {pins : List (Addr × Obj)} {σ : St} {H H' : Hp} {s s' : Shared} {b : Addr}
/-- what is not there is nobody's -/
theorem Inv.xok (I : Inv X pins σ H s) (hx : X.ex = []) (e : s.heap.get? b = none) (n : H' b = none) : XOk X pins H' b := by
  refine ⟨?_, n, fun z => ?_, fun x c q z => ?_, fun p hp z => ?_⟩
  · cases q : X.s₀.heap.get? b with
    | none => rfl
    | some o =>
      obtain ⟨o', e'⟩ := I.base.there b o q (by rw [hx]; simp)
      rw [e] at e'
      cases e'
  · obtain ⟨m, ⟨o, _, _, ho, _⟩, _⟩ := I.loc
    rw [z, ho] at e
    cases e
  · obtain ⟨v, o, ho, _⟩ := I.cell x c q
    rw [z, e] at ho
    cases ho
  · have := (I.pin p hp).1
    rw [z, e] at this
    cases this
/-- a step of an exception: nobody's objects at ch may change, of the running frames the slots -/
theorem Inv.xstep {h' : Heap} {ch : List Addr} (I : Inv X pins σ H s) (hch : ∀ b ∈ ch, XOk X pins H b)
    (keep : ∀ b o, s.heap.get? b = some o → b ∉ ch → b ∉ frs X.stack → h'.get? b = some o)
    (slot : ∀ b o, s.heap.get? b = some o → b ∉ ch → b ∈ frs X.stack → ∃ sl, h'.get? b = some { o with slots := sl }) : Inv X pins σ H { s with heap := h' } := by
  have any : ∀ b o, s.heap.get? b = some o → b ∉ ch → ∃ sl, h'.get? b = some { o with slots := sl } := fun b o e hc => by
    by_cases hb : b ∈ frs X.stack
    · exact slot b o e hc hb
    · exact ⟨o.slots, keep b o e hc hb⟩
  have fsub : ∀ b, b ∈ frs X.stack → b ≠ X.env.locals → b ∈ X.fs := fun b hb n => (List.mem_cons.mp (I.stkSub b hb)).elim (fun z => absurd z n) fun z => z
  have neL : ∀ b o, X.s₀.heap.get? b = some o → b ≠ X.env.locals := fun b o e => Nat.ne_of_lt (Nat.lt_of_lt_of_le (Heap.lt_size e) I.ok.above)
  have neC : ∀ b o, X.s₀.heap.get? b = some o → b ∉ ch := fun b o e hb => by
    have := (hch b hb).old
    rw [e] at this
    cases this
  have cellK : ∀ x c, X.env.cells.lookup x = some c → ∀ v, s.heap.IsCell c v → h'.IsCell c v := fun x c e v ⟨o, ho, hd⟩ => by
    obtain ⟨sl, q⟩ := any c o ho fun z => (hch c z).nc x c e rfl
    exact ⟨_, q, hd⟩
  refine ⟨I.ok, I.os, I.bare, ⟨fun b o e n hb hx => ?_, fun b o e n hb hx => ?_, I.base.free, fun b o e hx => ?_, I.base.tups, I.base.frzs, I.base.tbls⟩, ?_, fun x c e => ?_, I.free, I.freeC, fun p hp => ?_, fun b u e => ?_, I.len⟩
  · exact keep b o (I.base.keep b o e n hb hx) (neC b o e) fun z => hb (fsub b z (neL b o e))
  · obtain ⟨sl, e1⟩ := I.base.slot b o e n hb hx
    obtain ⟨sl', e2⟩ := any b _ e1 (neC b o e)
    exact ⟨sl', e2⟩
  · obtain ⟨o', e1⟩ := I.base.there b o e hx
    obtain ⟨sl, e2⟩ := any b _ e1 (neC b o e)
    exact ⟨_, e2⟩
  · obtain ⟨m, ⟨o, es, ep, ho, r⟩, hl⟩ := I.loc
    obtain ⟨sl, e2⟩ := any _ o ho fun z => (hch _ z).nl rfl
    refine ⟨m, ⟨_, es, ep, e2, r⟩, fun i x v e1 e2 e3 => ?_⟩
    obtain ⟨u, r, l⟩ := hl i x v e1 e2 e3
    refine ⟨u, r, ?_⟩
    rcases l with l | ⟨k, c, e, z⟩
    · exact .inl l
    · exact .inr ⟨k, c, e, cellK x c e _ z⟩
  · obtain ⟨v, z⟩ := I.cell x c e
    exact ⟨v, cellK x c e v z⟩
  · obtain ⟨e, n, ne, nf, d⟩ := I.pin p hp
    exact ⟨keep p.1 p.2 e (fun z => (hch p.1 z).np p hp rfl) fun z => nf (fsub p.1 z ne), n, ne, nf, d⟩
  · have nof : ∀ c u', H c = some u' → c ∉ ch ∧ c ∉ frs X.stack := fun c u' q => ⟨fun z => (by rw [(hch c z).trk] at q; exact nomatch q), fun z => (by rw [I.stkFree c z] at q; exact nomatch q)⟩
    refine (I.hok b u e).stay (fun c v hc q => ?_) (fun _ q => q) fun _ _ q => q
    rcases hc with z | z
    · rw [z] at q ⊢
      exact keep b v q (nof b u e).1 (nof b u e).2
    · exact keep c v q (nof c _ z).1 (nof c _ z).2
/-- an object of nobody is tracked -/
theorem Inv.xtrack {a : Addr} {o : HO} (I : Inv X pins σ H s) (f : XOk X pins H a) (new : ObjOk X.prog X.w (upd H a o) s.heap a o) : Inv X pins σ (upd H a o) s := by
  have ne : ∀ b u, H b = some u → b ≠ a := fun b u e => ne_of_none e f.trk
  have nb : ∀ b u, s.heap.get? b = some u → b ≠ a → H b = none → upd H a o b = none := fun b u _ n q => by rw [upd_ne n]; exact q
  refine ⟨I.ok, I.os, I.bare, ⟨I.base.keep, I.base.slot, fun b ob e n hx => ?_, I.base.there, fun b xs e => ?_, fun b ob xs e => ?_, fun b ps e => ?_⟩, I.loc, I.cell, ?_, fun x c e => ?_, fun p hp => ?_, fun b u e => ?_, I.len⟩
  · rw [upd_ne (fun z => by rw [z, f.old] at e; cases e)]
    exact I.base.free b ob e n hx
  · have := I.base.tups b xs e
    rw [upd_ne (ne _ _ this)]
    exact this
  · have := I.base.frzs b ob xs e
    rw [upd_ne (ne _ _ this)]
    exact this
  · obtain ⟨m, q⟩ := I.base.tbls b ps e
    exact ⟨m, by rw [upd_ne (ne _ _ q)]; exact q⟩
  · rw [upd_ne (Ne.symm f.nl)]
    exact I.free
  · rw [upd_ne (f.nc x c e)]
    exact I.freeC x c e
  · obtain ⟨e, n, r⟩ := I.pin p hp
    exact ⟨e, by rw [upd_ne (f.np p hp)]; exact n, r⟩
  · by_cases hb : b = a
    · rw [hb, upd_same] at e
      cases e
      rw [hb]
      exact new
    · rw [upd_ne hb] at e
      exact (I.hok b u e).stay (fun c v _ q => q) (fun c q => by rw [upd_ne (ne c _ q)]; exact q) fun c xs q => by rw [upd_ne (ne c _ q)]; exact q
end

/-- an exception that has left a frame, or was looked at: at x, of the class C, its trace begins at T -/
def Trc (h : Heap) (x : Addr) (C : Value) (T : Addr) : Prop :=
  ∃ oe vs a0 oT ts, h.get? x = some oe ∧ oe.cls = C ∧ vs[0]? = some a0 ∧ oe.data = .fields vs ∧ vs[1]? = some (.ref T) ∧ T ≠ x ∧ h.get? T = some oT ∧ oT.data = .fields ts ∧ ts[3]? = some .none
/-- just made -/
def Xnw (h : Heap) (x : Addr) (C : Value) : Prop := ∃ oe vs a0, h.get? x = some oe ∧ oe.cls = C ∧ oe.data = .fields vs ∧ vs[0]? = some a0 ∧ vs[1]? = some .none
/-- an exception in flight -/
def XA (X : Cx) (pins : List (Addr × Obj)) (H : Hp) (s : Shared) (x : Addr) (C : Value) : Prop := XOk X pins H x ∧ (Xnw s.heap x C ∨ ∃ T, XOk X pins H T ∧ Trc s.heap x C T)
section
variable {X : Cx} {pins : List (Addr × Obj)} {σ : St} {H : Hp} {s : Shared} {x : Addr} {C : Value} {E : Value → Shared → Prop}
abbrev hidX (X : Cx) (h : Heap) (ch : List Addr) : Heap := PySem.W.hideAll h (ch ++ frs X.stack)
theorem Inv.hidF (I : Inv X pins σ H s) (ch : List Addr) : s.heap.FunFrames (hidX X s.heap ch) X.stack :=
  PySem.W.funFrames_hide I.stack fun env he a hf => List.mem_append_right _ (List.mem_filterMap.mpr ⟨env, he, hf⟩)
theorem hid_in (ch : List Addr) (h : Heap) : (hidX X h ch).StaysIn h := fun _ _ e => PySem.W.of_hideAll _ e
theorem hid_none {ch : List Addr} {h : Heap} {b : Addr} (hb : b ∈ ch) : (hidX X h ch).get? b = none := PySem.W.hideAll_none _ (List.mem_append_left _ hb)
/-- behind a note of a frame -/
theorem Inv.left {h' : Heap} {ch : List Addr} {a0 : Value} (I : Inv X pins σ H s) (hx : X.ex = []) (hch : ∀ b ∈ ch, XOk X pins H b) (k : (hidX X s.heap ch).StaysIn h') (t : h'.TracedW (hidX X s.heap ch) x C a0) (u : s.heap.UpToSlots h') :
    Inv X pins σ H { s with heap := h' } ∧ ∃ T, XOk X pins H T ∧ Trc h' x C T := by
  have fr : ∀ b o, s.heap.get? b = some o → b ∈ frs X.stack → ∃ sl, h'.get? b = some { o with slots := sl } := fun b o e hb => by
    obtain ⟨_, o', ho, hd⟩ := I.stack.mem hb
    rw [e] at ho
    cases ho
    exact u b o e hd
  refine ⟨I.xstep hch (fun b o e n1 n2 => k b o (PySem.W.hideAll_get _ e fun z => (List.mem_append.mp z).elim n1 n2)) fun b o e _ hb => fr b o e hb, ?_⟩
  obtain ⟨oe, vs, T, oT, ts, he, ⟨hcls, h0⟩, hd, h1, hnT, hTe, hT, hdT, h3⟩ := t
  refine ⟨T, ?_, oe, vs, a0, oT, ts, he, hcls, h0, hd, h1, hTe, hT, hdT, h3⟩
  cases q : s.heap.get? T with
  | none => exact I.xok hx q (I.hok.none_of q)
  | some o =>
    by_cases z : T ∈ ch
    · exact hch T z
    · by_cases z2 : T ∈ frs X.stack
      · obtain ⟨_, o', ho, hd'⟩ := I.stack.mem z2
        obtain ⟨sl, e⟩ := fr T o q z2
        rw [hT] at e
        cases e
        rw [q] at ho
        cases ho
        exact absurd hdT (hd' ts)
      · have := PySem.W.hideAll_get (ch ++ frs X.stack) q fun z3 => (List.mem_append.mp z3).elim z z2
        rw [hnT] at this
        cases this
/-- the exception leaves the frame -/
theorem Inv.leave {Q : Unit → Shared → Prop} (I : Inv X pins σ H s) (hx : X.ex = []) (hst : X.stack = X.env :: X.outer) (hfr : X.env.frame = some X.env.locals) (xa : XA X pins H s x C)
    (h : ∀ h' T, Inv X pins σ H { s with heap := h' } → XOk X pins H x → XOk X pins H T → Trc h' x C T → Q () { s with heap := h' }) : wpAny (model X.prog X.w) X.A (leaving X.env (.ref x)) Q E s := by
  obtain ⟨x1, x2⟩ := xa
  have frm : X.A.frames = some (X.env :: X.outer) := by rw [← hst]; exact I.ok.frames
  rcases x2 with ⟨oe, vs, a0, he, hc, hd, h0, h1⟩ | ⟨T, xT, oe, vs, a0, oT, ts, he, hc, h0, hd, h1, hTe, hT, hdT, h3⟩
  · have hch : ∀ b ∈ [x], XOk X pins H b := fun b hb => by
      have e : b = x := by simpa using hb
      rw [e]
      exact x1
    refine wpAny_leaving_firstW (base := hidX X s.heap [x]) frm (hst ▸ I.hidF [x]) hfr he (hid_in _ _) (hid_none (by simp)) hd h1 h0 fun h' L => ?_
    obtain ⟨k1, _, k3, k4⟩ := L
    obtain ⟨I', T, xT, tr⟩ := I.left hx hch k1 k3 k4
    rw [hc] at tr
    exact h h' T I' x1 xT tr
  · have hch : ∀ b ∈ [x, T], XOk X pins H b := fun b hb => by
      rcases List.mem_cons.mp hb with e | hb
      · rw [e]
        exact x1
      · have e : b = T := by simpa using hb
        rw [e]
        exact xT
    refine wpAny_leaving_nextW (base := hidX X s.heap [x, T]) frm (hst ▸ I.hidF [x, T]) hfr ⟨oe, vs, T, oT, ts, he, ⟨hc, h0⟩, hd, h1, hid_none (by simp), hTe, hT, hdT, h3⟩ (hid_in _ _) (hid_none (by simp)) fun h' L => ?_
    obtain ⟨k1, _, k3, k4⟩ := L
    obtain ⟨I', T', xT', tr⟩ := I.left hx hch k1 k3 k4
    exact h h' T' I' x1 xT' tr
end


section
variable {X : Cx} {k : Nat} {f C : Addr} {fd : FuncData} {ps : List Str} {sp : Sp} {dvs : List V} {ds : List Value} {W : WK} {x m : Str} {p pos apos : Pos} {e o : Expr} {es : List Expr} {ta : TE} {t : TA}
end
end L2

namespace L2
open PySem PySem.Spec PyProof.Rows
/-! ## exceptions, second part: raise, try, what was caught -/
/-- what an own error class under ValueError shows -/
abbrev veM : List Value := [.type "ValueError", .type "Exception", .type "BaseException", .type "object"]
section
variable {X : Cx} {pins : List (Addr × Obj)} {σ : St} {H : Hp} {s : Shared} {x : Addr} {C : Value}
/-- the context in an except suite -/
def Cx.marked (X : Cx) (v : Value) : Cx := { X with A := X.A.mark (some v), calm := false, xe := fun _ _ => False }
theorem Inv.marked (I : Inv X pins σ H s) (v : Value) : Inv (X.marked v) pins σ H s :=
  ⟨⟨I.ok.mod, I.ok.kind, I.ok.glob, I.ok.blt, I.ok.above, I.ok.inj, I.ok.has, I.ok.cab, fun z => (by cases z), I.ok.frames, I.ok.stk, I.ok.exf, I.ok.bs, I.ok.bsz, I.ok.noex, I.ok.exfs, I.ok.funs, I.ok.frf⟩, I.os, I.bare, I.base, I.loc, I.cell, I.free, I.freeC, I.pin, I.hok, I.len⟩
theorem Inv.unmarked {hd : X.calm = true → X.A.handled = none} {fr : X.A.frames = some X.stack} {v : Value} (I : Inv (X.marked v) pins σ H s) : Inv X pins σ H s :=
  ⟨⟨I.ok.mod, I.ok.kind, I.ok.glob, I.ok.blt, I.ok.above, I.ok.inj, I.ok.has, I.ok.cab, hd, fr, I.ok.stk, I.ok.exf, I.ok.bs, I.ok.bsz, I.ok.noex, I.ok.exfs, I.ok.funs, I.ok.frf⟩, I.os, I.bare, I.base, I.loc, I.cell, I.free, I.freeC, I.pin, I.hok, I.len⟩
/-- a name of the frame is gone -/
theorem Inv.gone {i : Nat} {n : Str} {h' : Heap} {tk : Nat} {m : Str → Option Value} {v : Option Value} (I : Inv X pins σ H s) (hN : X.N.Nodup) (hi : X.N[i]? = some n) (hm : s.heap.Ns X.env.locals m ∧ ∀ (i : Nat) (x : Str) (v : V), X.N[i]? = some x → σ[i]? = some (some v) → Vis X.env.scope x → ∃ u, RelV v u ∧ Look X.env s.heap m x u)
    (hn : h'.Ns X.env.locals (fun y => if y = n then v else m y)) (hs : Heap.SameBut X.env.locals s.heap h') : Inv X pins (σ.set i none) H { s with heap := h', toks := tk } := by
  have lo : ∀ b o, X.s₀.heap.get? b = some o → b ≠ X.env.locals := fun b o e => Nat.ne_of_lt (Nat.lt_of_lt_of_le (Heap.lt_size e) I.ok.above)
  obtain ⟨oL, _, _, hoL, _⟩ := id hm.1
  refine ⟨I.ok, I.os, I.bare, ⟨fun b o e n1 hb hx => (hs.2 b (lo b o e)).trans (I.base.keep b o e n1 hb hx), fun b o e n1 hb hx => ?_, I.base.free, fun b o e hx => ?_, I.base.tups, I.base.frzs, I.base.tbls⟩, ⟨_, hn, fun j y w' e1 e2 e3 => ?_⟩, fun y c e => ?_, I.free, I.freeC, fun p hp => ?_, fun b u e => ?_, by simpa using I.len⟩
  · obtain ⟨sl, q⟩ := I.base.slot b o e n1 hb hx
    exact ⟨sl, (hs.2 b (lo b o e)).trans q⟩
  · obtain ⟨o', q⟩ := I.base.there b o e hx
    exact ⟨o', (hs.2 b (lo b o e)).trans q⟩
  · by_cases hj : j = i
    · subst hj
      rw [List.getElem?_set] at e2
      split at e2
      · split at e2 <;> cases e2
      · rename_i z; exact absurd rfl z
    · rw [List.getElem?_set_ne (Ne.symm hj)] at e2
      obtain ⟨u', r', l'⟩ := hm.2 j y w' e1 e2 e3
      refine ⟨u', r', ?_⟩
      rcases l' with ⟨kk, e⟩ | ⟨kk, c, e, z⟩
      · refine .inl ⟨kk, ?_⟩
        have ny : y ≠ n := fun q => hj (nodup_ix hN e1 (q ▸ hi))
        show (if y = n then v else m y) = some u'
        rw [if_neg ny]; exact e
      · exact .inr ⟨kk, c, e, z.sameBut hs (I.cne y c e)⟩
  · obtain ⟨w2, z⟩ := I.cell y c e
    exact ⟨w2, z.sameBut hs (I.cne y c e)⟩
  · obtain ⟨e, n1, ne, nf, d⟩ := I.pin p hp
    exact ⟨(hs.2 p.1 ne).trans e, n1, ne, nf, d⟩
  · refine (I.hok b u e).stay (fun c v2 hc q => (hs.2 c fun z => ?_).trans q) (fun _ q => q) fun _ _ q => q
    have fr := I.free
    rcases hc with y | y
    · rw [← y, z, fr] at e; cases e
    · rw [z, fr] at y; cases y
end
section
variable {M : Model} {A : Around} {E : Value → Shared → Prop} {h : Heap} {g : Array GenState} {d : Drawn} {t : Nat} {os : OsState}
end
/-- the context in the body of a try -/
def Cx.tried (X : Cx) (pins : List (Addr × Obj)) (E : Value → Shared → Prop) : Cx := { X with pn := X.pn ++ pins, xe := E }
section
variable {X : Cx} {pins pins' : List (Addr × Obj)} {σ : St} {H : Hp} {s : Shared} {E : Value → Shared → Prop} {b : Addr}
theorem Inv.tried (I : Inv X pins σ H s) : Inv (X.tried pins E) [] σ H s :=
  ⟨⟨I.ok.mod, I.ok.kind, I.ok.glob, I.ok.blt, I.ok.above, I.ok.inj, I.ok.has, I.ok.cab, I.ok.hd, I.ok.frames, I.ok.stk, I.ok.exf, I.ok.bs, I.ok.bsz, I.ok.noex, I.ok.exfs, I.ok.funs, I.ok.frf⟩, I.os, I.bare, I.base, I.loc, I.cell, I.free, I.freeC, fun p hp => I.pin p (by rw [List.append_nil] at hp; exact hp), I.hok, I.len⟩
theorem Inv.untried (I : Inv (X.tried pins E) pins' σ H s) : Inv X pins σ H s :=
  ⟨⟨I.ok.mod, I.ok.kind, I.ok.glob, I.ok.blt, I.ok.above, I.ok.inj, I.ok.has, I.ok.cab, I.ok.hd, I.ok.frames, I.ok.stk, I.ok.exf, I.ok.bs, I.ok.bsz, I.ok.noex, I.ok.exfs, I.ok.funs, I.ok.frf⟩, I.os, I.bare, I.base, I.loc, I.cell, I.free, I.freeC, fun p hp => I.pin p (List.mem_append_left _ hp), I.hok, I.len⟩
theorem XOk.untried (x : XOk (X.tried pins E) pins' H b) : XOk X pins H b := ⟨x.old, x.trk, x.nl, x.nc, fun p hp => x.np p (List.mem_append_left _ hp)⟩
theorem SP.untried {D : Ends} {f : Flow} (h : SP (X.tried pins E) [] D f s) : SP X pins D f s := by
  cases f with
  | next => obtain ⟨σ', H', I, q⟩ := h; exact ⟨σ', H', I.untried, q⟩
  | brk => obtain ⟨σ', H', I, q⟩ := h; exact ⟨σ', H', I.untried, q⟩
  | cont => obtain ⟨σ', H', I, q⟩ := h; exact ⟨σ', H', I.untried, q⟩
  | ret u => obtain ⟨v, σ', H', I, r, q⟩ := h; exact ⟨v, σ', H', I.untried, r, q⟩
end
section
variable {X : Cx} {k : Nat} {f : Addr} {fd : FuncData} {ps : List Str} {sp : Sp} {dvs : List V} {ds : List Value} {W : WK} {x : Str} {p pos : Pos} {e : Expr} {es : List Expr} {t : TA}
end
/-! ### isinstance of what was caught, of its very class -/
end L2
namespace L2
open PySem PySem.Spec PyProof.Rows
end L2

namespace L2
open PySem PySem.Spec PyProof.Rows
section
variable {prog : Program} {w : World} {A : Around} {E : Value → Shared → Prop} {s : Shared}
end
end L2

namespace L2
open PySem PySem.Spec PyProof.Rows
section
variable {prog : Program} {w : World} {A : Around} {E : Value → Shared → Prop} {s : Shared}
end
section
variable {X : Cx}
end
end L2

namespace L2
open PySem PySem.Spec PyProof.Rows
section
variable {X : Cx}
end
end L2

namespace L2
open PySem PySem.Spec PyProof.Rows
/-! ### several records of ours turned -/
theorem Inv.turnedL {X : Cx} {pins : List (Addr × Obj)} {σ : St} {H : Hp} {s : Shared} {h' : Heap} {t' : Nat} {fp : List Addr} (I : Inv X pins σ H s) (k : ∀ b o, b ∉ fp → s.heap.get? b = some o → h'.get? b = some o) (hf : ∀ b ∈ fp, FpOk X pins H b) : Inv X pins σ H { s with heap := h', toks := t' } := by
  have nit : ∀ b u, H b = some u → b ∉ fp := fun b u e z => by rw [(hf b z).1] at e; cases e
  refine I.step (g' := s.gens) (d' := s.drawn) (ch := fp) (fun b hb => ?_) (fun b o _ _ hc e _ => k b o hc e) (fun b o _ _ hc e _ => ⟨o.slots, k b o hc e⟩) (fun _ _ _ _ n => n)
    (fun b o hc e => ⟨o, k b o hc e⟩) (fun _ _ e => e) (fun _ _ _ e => e) (fun b ps e => ⟨#[], by rw [e]; simp⟩) (fun m hm => ?_) (fun b u e => ?_) I.bare
  · obtain ⟨f0, f1, f2, f3, f4, f5⟩ := hf b hb
    exact ⟨f3, f1, f4, f5⟩
  · obtain ⟨o, es, ep, ho, r⟩ := hm
    exact ⟨o, es, ep, k _ o (fun z => (hf _ z).2.1 rfl) ho, r⟩
  · refine (I.hok b u e).stay (fun c v hc q => k c v ?_ q) (fun _ q => q) fun _ _ q => q
    rcases hc with z | z
    · rw [z]; exact nit b u e
    · exact nit c _ z
/-! ### enumerate(list), walked by a pair of names -/
section
variable {X : Cx}
end
end L2
namespace L2
open PySem PySem.Spec PyProof.Rows
section
variable {X : Cx}
end
end L2
namespace L2
open PySem PySem.Spec PyProof.Rows
theorem canLayAll_of : ∀ {ds : List PyData}, (∀ d ∈ ds, d.canLay0 = true) → PyData.canLayAll0 ds = true
  | [], _ => by simp [PyData.canLayAll0]
  | d :: ds, h => by
    rw [PyData.canLayAll0, h d (by simp), canLayAll_of fun x hx => h x (by simp [hx])]
    rfl
theorem depthAll_of {n : Nat} : ∀ {ds : List PyData}, (∀ d ∈ ds, d.depth ≤ n) → PyData.depthAll ds ≤ n
  | [], _ => by simp [PyData.depthAll]
  | d :: ds, h => by
    have h1 := h d (by simp)
    have h2 := depthAll_of (ds := ds) fun x hx => h x (List.mem_cons_of_mem _ hx)
    rw [PyData.depthAll]
    omega
theorem shaped_flat {ds : List PyData} (h : ∀ d ∈ ds, d.canLay0 = true ∧ d.depth ≤ 10) : SeqAt.shaped (.list ds) = true := by
  have h1 := canLayAll_of fun d hd => (h d hd).1
  have h2 := depthAll_of fun d hd => (h d hd).2
  have h3 : PyData.depth (.list ds) ≤ 64 := by simp only [PyData.depth]; omega
  show (PyData.canLay0 (.list ds) && decide (PyData.depth (.list ds) ≤ 64)) = true
  rw [Bool.and_eq_true]
  exact ⟨by simp only [PyData.canLay0]; exact h1, decide_eq_true h3⟩
theorem flat2 (i j : Int) : (PyData.tuple [.int i, .int j]).canLay0 = true ∧ (PyData.tuple [.int i, .int j]).depth ≤ 10 := by
  constructor
  · simp [PyData.canLay0, PyData.canLayAll0]
  · simp [PyData.depth, PyData.depthAll]
end L2

namespace L2
open PySem PySem.Spec PyProof.Rows
/-! ### a list comprehension of one clause, by names or a tuple of names, with or without a test -/
def cxG (X : Cx) (scope : Scope) (fr : List (Str × Nat)) (xs : List Str) (C : Addr) (ex : List Addr) (s : Shared) (H : Hp) : Cx where
  prog := X.prog
  w := X.w
  K := X.K
  mg := X.mg
  base := X.base
  A := X.A
  N := xs ++ fr.map (·.1)
  s₀ := s
  H₀ := H
  env := compEnvC scope (clOf X.env fr) C X.env
  outer := X.stack
  stack := X.stack
  ex := ex
  fn := fun _ => false
  calm := X.calm
  pn := []
  xe := fun _ _ => False
structure CompG (X : Cx) (scope : Scope) (fr : List (Str × Nat)) (xs : List Str) : Prop where
  clos : closureFor scope X.env = pure (clOf X.env fr)
  cell : ∀ y ∈ scope.names, y.2 ≠ .cell
  kind : scope.kind = .function
  names : ∀ y ∈ scope.names, y.2 = .local → scope.names.lookup y.1 = some .local
  slot : ∀ p ∈ fr, X.N[p.2]? = some p.1 ∧ X.env.kindOf p.1 = some .cell
  has : ∀ y ∈ (relabel scope X.env).names, (y.2 = .cell ∨ y.2 = .free) → y.1 ∈ fr.map (·.1)
  frk : ∀ p ∈ fr, (relabel scope X.env).names.lookup p.1 = some .cell
theorem CompG.of {X : Cx} {scope : Scope} {fr : List (Str × Nat)} {xs : List Str} (clos : closureFor scope X.env = pure (clOf X.env fr)) (cell : ∀ y ∈ scope.names, y.2 ≠ .cell) (kind : scope.kind = .function) (names : ∀ y ∈ scope.names, y.2 = .local → scope.names.lookup y.1 = some .local)
    (slot : ∀ p ∈ fr, X.N[p.2]? = some p.1 ∧ X.env.kindOf p.1 = some .cell) (nf : ∀ z ∈ scope.names, z.2 = .free → z.1 ∈ fr.map (·.1)) (frk : ∀ p ∈ fr, (relabel scope X.env).names.lookup p.1 = some .cell) : CompG X scope fr xs where
  clos := clos
  cell := cell
  kind := kind
  names := names
  slot := slot
  has := fun z hz hk => by
    obtain ⟨⟨n, k⟩, hm, e⟩ := List.mem_map.mp (show z ∈ scope.names.map _ from hz)
    have h2 := cell _ hm
    dsimp only at e h2
    have hn : z.1 = n := by rw [← e]; split <;> rfl
    have hf : k = .free := by
      by_cases q : k = .free
      · exact q
      · have hb : (k == NameKind.free) = false := by simpa using q
        rw [hb] at e
        simp only [Bool.false_and, Bool.false_eq_true, if_false] at e
        subst e
        exact (hk.elim h2 q).elim
    have := nf _ hm hf
    rw [hn]
    exact this
  frk := frk
/-- nothing yet -/
abbrev nons (xs : List Str) : St := List.replicate xs.length none
section
variable {X : Cx} {pins : List (Addr × Obj)} {σ : St} {H : Hp} {s : Shared} {scope : Scope} {fr : List (Str × Nat)} {xs : List Str}
theorem CompG.cells (O : CompG X scope fr xs) (I : Inv X pins σ H s) {y : Str} {c : Addr} (h : (clOf X.env fr).lookup y = some c) : X.env.cells.lookup y = some c := by
  obtain ⟨hm, e⟩ := lookup_map_fst h
  obtain ⟨p, hp, ep⟩ := List.mem_map.mp hm
  have k := (O.slot p hp).2
  rw [ep] at k
  obtain ⟨c', e'⟩ := I.ok.has y (.inl k)
  rw [e'] at e
  rw [e', e]
  rfl
theorem inv_compG {fp : List Addr} (O : CompG X scope fr xs) (I : Inv X pins σ H s) (hf : ∀ b ∈ fp, FpOk X pins H b) (hfs : ∀ b ∈ fp, b < s.heap.objs.size) {g h' : Heap} {tk : Nat} (hg : g = s.heap.push (LCg.lst []))
    (hk : ∀ b o, g.get? b = some o → h'.get? b = some o) (hC : h'.Ns g.objs.size fun _ => none) :
    Inv (cxG X scope fr xs g.objs.size (s.heap.objs.size :: fp) { s with heap := g } H) (X.pn ++ pins ++ [(s.heap.objs.size, LCg.lst [])]) (nons xs ++ frOf fr σ) H { s with heap := h', toks := tk } := by
  have hsz : g.objs.size = s.heap.objs.size + 1 := by rw [hg, Heap.size_push]
  have kp : ∀ b o, s.heap.get? b = some o → g.get? b = some o := fun b o e => by rw [hg]; exact Heap.get?_push_of_some _ e
  have hk0 : ∀ b o, s.heap.get? b = some o → h'.get? b = some o := fun b o e => hk b o (kp b o e)
  have hDo : h'.get? s.heap.objs.size = some (LCg.lst []) := hk _ _ (by rw [hg]; exact Heap.get?_push_size _ rfl)
  have neC : ∀ b, b < s.heap.objs.size → b ≠ g.objs.size := fun b e => by rw [hsz]; exact Nat.ne_of_lt (Nat.lt_succ_of_lt e)
  have hDC : s.heap.objs.size ≠ g.objs.size := by rw [hsz]; exact Nat.ne_of_lt (Nat.lt_succ_self _)
  have hfr : H g.objs.size = none := I.hok.fresh (by rw [hsz]; exact Nat.le_succ _)
  have hfD : H s.heap.objs.size = none := I.hok.fresh (Nat.le_refl _)
  have cne : ∀ y c, X.env.cells.lookup y = some c → c < s.heap.objs.size := fun y c e => by
    obtain ⟨v, q⟩ := I.cell y c e
    exact q.lt
  have nst : ∀ b, b ≠ X.env.locals → b ∉ X.fs → b ∉ frs X.stack := fun b h1 h2 z => (List.mem_cons.mp (I.stkSub b z)).elim h1 h2
  have nstD : s.heap.objs.size ∉ frs X.stack := nst _ (Nat.ne_of_gt I.lt) (I.nofs (Nat.le_refl _))
  refine ⟨⟨I.ok.mod, O.kind, I.ok.glob, I.ok.blt, Nat.le_refl _, ?_, ?_, fun _ _ z _ => (by cases z), I.ok.hd, I.ok.frames, .inl rfl, ?_, ?_, ?_, ?_, ?_, ?_, I.stkFree⟩, rfl, I.bare, Un.kept hk, ?_, ?_, hfr, ?_, ?_, I.hok.kept hk0, ?_⟩
  · intro y z c h1 h2
    exact I.ok.inj y z c (O.cells I h1) (O.cells I h2)
  · intro y hy
    have hm : y ∈ fr.map (·.1) := by
      rcases hy with hy | hy
      · exact O.has (y, _) (PySem.mem_of_lookup hy) (.inl rfl)
      · exact O.has (y, _) (PySem.mem_of_lookup hy) (.inr rfl)
    exact ⟨_, lookup_map_some hm⟩
  · intro b hb
    rcases List.mem_cons.mp hb with rfl | hb
    · exact ⟨hDC, fun y c e => Nat.ne_of_lt (cne y c (O.cells I e))⟩
    · exact ⟨neC b (hfs b hb), fun y c e => (hf b hb).2.2.2.2.1 y c (O.cells I e)⟩
  · intro b o e
    exact ⟨kp b o (I.bs b o e).1, (I.bs b o e).2⟩
  · show X.base.objs.size ≤ g.objs.size
    rw [hsz]
    exact Nat.le_succ_of_le (Nat.le_trans I.ok.bsz I.sz)
  · intro b o e hb
    rcases List.mem_cons.mp hb with z | hb
    · have := Heap.lt_size (I.bs b o e).1
      rw [z] at this
      exact Nat.lt_irrefl _ this
    · rcases (hf b hb).2.2.2.1 with z | z
      · exact I.ok.noex b o e z
      · exact absurd (Nat.lt_of_lt_of_le (Heap.lt_size (I.ok.bs b o e).1) z) (Nat.lt_irrefl _)
  · intro b hb
    rcases List.mem_cons.mp hb with z | hb
    · rw [z]; exact nstD
    · exact nst b (hf b hb).2.1 (hf b hb).2.2.1
  · exact (I.kept (h' := g) (t' := s.toks) kp).stack
  · refine ⟨_, hC, fun i y v e1 e2 e3 => ?_⟩
    have e1a : (xs ++ fr.map (·.1))[i]? = some y := e1
    by_cases hi : i < xs.length
    · rw [List.getElem?_append_left (by simpa using hi)] at e2
      rw [List.getElem?_replicate, if_pos hi] at e2
      cases e2
    · have e1' : (fr.map (·.1))[i - xs.length]? = some y := by
        rw [List.getElem?_append_right (by omega)] at e1a
        exact e1a
      have e2' : (frOf fr σ)[i - xs.length]? = some (some v) := by
        rw [List.getElem?_append_right (by simp; omega)] at e2
        simpa using e2
      generalize i - xs.length = k at e1' e2'
      unfold frOf at e2'
      rw [List.getElem?_map] at e1' e2'
      cases q : fr[k]? with
      | none => rw [q] at e1'; cases e1'
      | some p =>
        rw [q] at e1' e2'
        have ey : p.1 = y := Option.some.inj e1'
        have ev : (σ[p.2]?).join = some v := Option.some.inj e2'
        have hp : p ∈ fr := List.mem_of_getElem? q
        obtain ⟨hN, hK⟩ := O.slot p hp
        have hkk := O.frk p hp
        rw [ey] at hN hK hkk
        have ev' : σ[p.2]? = some (some v) := by
          cases q2 : σ[p.2]? with
          | none => rw [q2] at ev; cases ev
          | some w => rw [q2] at ev; exact congrArg some ev
        obtain ⟨m, hn, hl⟩ := I.loc
        obtain ⟨u, r, l⟩ := hl p.2 y v hN ev' (.inr (.inl hK))
        refine ⟨u, r, ?_⟩
        rcases l with ⟨k1, _⟩ | ⟨_, c, ec, z⟩
        · rw [hK] at k1; cases k1
        · have hm : y ∈ fr.map (·.1) := by rw [← ey]; exact List.mem_map.mpr ⟨p, hp, rfl⟩
          have el := lookup_map_some (env := X.env) hm
          rw [ec] at el
          exact .inr ⟨.inl hkk, c, el, by obtain ⟨o, ho, hd⟩ := z; exact ⟨o, hk0 _ _ ho, hd⟩⟩
  · intro y c e
    obtain ⟨v, o, ho, hd⟩ := I.cell y c (O.cells I e)
    exact ⟨v, o, hk0 _ _ ho, hd⟩
  · intro y c e
    exact I.freeC y c (O.cells I e)
  · intro p hp
    rcases List.mem_append.mp hp with hp | hp
    · cases hp
    · rcases List.mem_append.mp hp with hp | hp
      · obtain ⟨e, n, ne, nf, d⟩ := I.pin p hp
        exact ⟨hk0 _ _ e, n, neC _ (Heap.lt_size e), nst _ ne nf, d⟩
      · have ep : p = (s.heap.objs.size, LCg.lst []) := by simpa using hp
        subst ep
        exact ⟨hDo, hfD, hDC, nstD, fun v z => by cases z⟩
  · show (nons xs ++ frOf fr σ).length = (xs ++ fr.map (·.1)).length
    unfold frOf
    simp
theorem inv_comp_endG {fp : List Addr} {g : Heap} {s' : Shared} {H' : Hp} {σ' : St} {ys : List V} {us : List Value} (I : Inv X pins σ H s) (hf : ∀ b ∈ fp, FpOk X pins H b) (hg : g = s.heap.push (LCg.lst []))
    (J : Inv (cxG X scope fr xs g.objs.size (s.heap.objs.size :: fp) { s with heap := g } H) (X.pn ++ pins ++ [(s.heap.objs.size, LCg.lst us)]) σ' H' s') (hv : Vals ys us) (hl : ys.length ≤ sizeLine) :
    Inv X pins σ (upd H' s.heap.objs.size (.lst ys)) s' ∧ H' s.heap.objs.size = none ∧ FpOk X pins (upd H' s.heap.objs.size (.lst ys)) g.objs.size ∧ ∃ m, s'.heap.Ns g.objs.size m := by
  have hsz : g.objs.size = s.heap.objs.size + 1 := by rw [hg, Heap.size_push]
  have kp : ∀ b o, s.heap.get? b = some o → g.get? b = some o := fun b o e => by rw [hg]; exact Heap.get?_push_of_some _ e
  obtain ⟨eD, nD, _, _, _⟩ := J.pin (s.heap.objs.size, LCg.lst us) (by simp)
  have hDC : g.objs.size ≠ s.heap.objs.size := by rw [hsz]; exact Nat.ne_of_gt (Nat.lt_succ_self _)
  have nD' : ∀ b u, H' b = some u → b ≠ s.heap.objs.size := fun b u e z => by rw [z] at e; rw [e] at nD; cases nD
  have hx : ∀ b o, s.heap.get? b = some o → b ∉ fp → b ∉ s.heap.objs.size :: fp := fun b o e hb z => by
    rcases List.mem_cons.mp z with z | z
    · have := Heap.lt_size e
      rw [z] at this
      exact Nat.lt_irrefl _ this
    · exact hb z
  have bU : Un (frs X.stack) (s.heap.objs.size :: fp) H H' g s'.heap := J.base
  have ltD : ∀ b o, s.heap.get? b = some o → b ≠ s.heap.objs.size := fun b o e => Nat.ne_of_lt (Heap.lt_size e)
  have un : Un (frs X.stack) fp H (upd H' s.heap.objs.size (.lst ys)) s.heap s'.heap := by
    refine ⟨fun b o e n hb he => bU.keep b o (kp b o e) n hb (hx b o e he), fun b o e n hb he => bU.slot b o (kp b o e) n hb (hx b o e he), fun b o e n he => ?_, fun b o e he => bU.there b o (kp b o e) (hx b o e he), fun b xs e => ?_, fun b o u e => ?_, fun b ps e => ?_⟩
    · rw [upd_ne (ltD b o e)]; exact bU.free b o (kp b o e) n (hx b o e he)
    · have q := bU.tups b xs e
      rw [upd_ne (nD' b _ q)]; exact q
    · have q := bU.frzs b o u e
      rw [upd_ne (nD' b _ q)]; exact q
    · obtain ⟨more, q⟩ := bU.tbls b ps e
      exact ⟨more, by rw [upd_ne (nD' b _ q)]; exact q⟩
  have hok : HOk X.prog X.w (upd H' s.heap.objs.size (.lst ys)) s'.heap := fun b u e => by
    by_cases hb : b = s.heap.objs.size
    · rw [hb, upd_same] at e
      cases e
      rw [hb]
      exact ⟨hl, us, us.length, hv, eD⟩
    · rw [upd_ne hb] at e
      exact (J.hok b u e).stay (fun c v _ q => q) (fun c q => by rw [upd_ne (nD' c _ q)]; exact q) fun c xs q => by rw [upd_ne (nD' c _ q)]; exact q
  have os : s'.os = s.os := J.os
  refine ⟨I.call' os un hok J.bare fun b hb => ⟨(hf b hb).2.2.2.1, (hf b hb).2.1, (hf b hb).2.2.2.2⟩, nD, ?_, ?_⟩
  · refine I.fpOk (H' := upd H' s.heap.objs.size (.lst ys)) (b := g.objs.size) (by rw [hsz]; exact Nat.le_succ _) ?_
    rw [upd_ne hDC]
    exact J.free
  · obtain ⟨m, hn, _⟩ := J.loc
    exact ⟨m, hn⟩
end
/-- the tests of a clause -/
def PTs (X : Cx) (ifs : List Expr) (t : TT) : Prop :=
  ∀ (pins : List (Addr × Obj)) (s : Shared) (σ : St) (H : Hp) (Q : Bool → Hp → Prop), Inv X pins σ H s → t σ H Q →
    wpAny (model X.prog X.w) X.A (forIn ifs true fun c r => if r = true then do let ok ← isTrue c X.env (eval c X.env); pure (ForInStep.yield ok) else pure (ForInStep.yield r)) (fun b s' => ∃ H', Inv X pins σ H' s' ∧ Q b H') X.xe s
def tYes : TT := fun _ H Q => Q true H
theorem pts_nil {X : Cx} : PTs X [] tYes := fun _ _ _ H _ I h => wpAny_tests_nil ⟨H, I, h⟩
section
variable {prog : Program} {w : World} {A : Around} {s : Shared}
theorem compLoopG {elt target iter : Expr} {ifs : List Expr} {scope : Scope} {pos : Pos} {it acc : Value} {env : Env} {R : Result → Shared → Prop} (I : Nat → Shared → Prop)
    (turn : ∀ n s, I n s → wpAny (model prog w) A (pyNext it) (fun r s₁ => match r with
      | none => R (.ok .next) s₁
      | some v => wpAny (model prog w) A (letOwnedTupleGo target it v) (fun _ s₀ => wpAny (model prog w) A (assign target env v) (fun _ s₂ =>
          wpAny (model prog w) A (forIn ifs true fun c r => if r = true then do let ok ← isTrue c env (eval c env); pure (ForInStep.yield ok) else pure (ForInStep.yield r)) (fun ok s₃ => if ok = true then wpAny (model prog w) A (eval elt env) (fun x s₄ =>
            wpAny (model prog w) A (call (.builtin "list.append") [acc, x]) (fun _ s₅ => ∃ m, m < n ∧ I m s₅) (notedBy (model prog w) A env fun e s' => R (.error e) s') s₄) (notedBy (model prog w) A env fun e s' => R (.error e) s') s₃
            else ∃ m, m < n ∧ I m s₃) (notedBy (model prog w) A env fun e s' => R (.error e) s') s₂)
          (notedBy (model prog w) A env fun e s' => R (.error e) s') s₀) (notedBy (model prog w) A env fun e s' => R (.error e) s') s₁) (notedBy (model prog w) A env fun e s' => R (.error e) s') s)
    (n : Nat) (h : I n s) : codeAny (model prog w) A (.compLoop (.ListComp elt [⟨target, iter, ifs, 0⟩] scope pos) 0 it acc env) R s := by
  refine codeAny_loop rfl I (fun n s hI => ?_) n h
  show wpAny _ A ((compTurn (.ListComp elt [⟨target, iter, ifs, 0⟩] scope pos) 0 it acc env).onRaise (fun x => do noteFrame x env; theTreesLotGoes x)) _ _ s
  refine wpAny_noted ?_
  rw [compTurn_list]
  refine wpAny_bind (wpAny_standAt (wpAny_bind (wpAny_mono (turn n s hI) (fun r s₁ h₁ => ?_) fun _ _ h' => h')))
  cases r with
  | none => exact wpAny_pure h₁
  | some v =>
    refine wpAny_bind (wpAny_mono h₁ (fun _ s₀ h₀' => ?_) fun _ _ h' => h')
    refine wpAny_bind (wpAny_mono h₀' (fun _ s₂ h₂ => ?_) fun _ _ h' => h')
    refine wpAny_bind (wpAny_mono h₂ (fun okb s₃ h₃ => ?_) fun _ _ h' => h')
    cases okb with
    | false => exact wpAny_pure ⟨rfl, h₃⟩
    | true => exact wpAny_bind (wpAny_bind (wpAny_mono h₃ (fun x s₄ h₄ => wpAny_bind (wpAny_mono h₄ (fun _ s₅ h₅ => wpAny_pure (wpAny_pure ⟨rfl, h₅⟩)) fun _ _ h' => h')) fun _ _ h' => h'))
end
/-- the reading: W by the turn, a measure, the items so far, the heap -/
def tCompG (g : TG) (tt : TT) (te : TE) (n : Nat) (fv : St) (J : It) (H1 : Hp) (QQ : List V → Hp → Prop) : Prop :=
  ∃ W : Nat → Nat → List V → Hp → Prop, (∃ m, W 0 m [] H1) ∧ ∀ i m ys H, W i m ys H → ys.length ≤ sizeLine ∧
    ((J.stop i H ∧ QQ ys H) ∨ (J.go i H ∧ ∃ N : List V → Hp → Prop, (∀ zs H2, N zs H2 → ∃ m', m' < m ∧ W (i + 1) m' zs H2) ∧
      ∀ x H', J.yld i H x H' → g x (List.replicate n none ++ fv) H' fun σ2 H2 => σ2.drop n = fv ∧ tt σ2 H2 fun b H3 => if b = true then te σ2 H3 (fun y H4 => N (ys ++ [y]) H4) else N ys H3))
section
variable {X : Cx} {scope : Scope} {fr : List (Str × Nat)} {xs : List Str} {elt iter tg : Expr} {ifs : List Expr} {pos : Pos} {te : TE} {tt : TT} {tgt : TG} {wi : TI}
theorem comp_coreG {pins : List (Addr × Obj)} {σ : St} {H : Hp} {s : Shared} {E : Value → Shared → Prop} {it : Addr} {fp : List Addr} {tn : Nat → Heap → Prop} {J : It} {RR : Value → Addr → Result → Shared → Prop} {QQ : List V → Hp → Prop} (hc : X.calm = true) (O : CompG X scope fr xs)
    (hg0 : ∀ C ex s H, PG (cxG X scope fr xs C ex s H) tg tgt) (ht : ∀ C ex s H, PTs (cxG X scope fr xs C ex s H) ifs tt) (he : ∀ C ex s H, PE (cxG X scope fr xs C ex s H) elt te) (I : Inv X pins σ H s) (T : Turn X.prog X.w X.K tg J fp it tn) (st : tn 0 s.heap) (hf : ∀ b ∈ fp, FpOk X pins H b) (hq : tCompG tgt tt te xs.length (frOf fr σ) J H QQ)
    (fin : ∀ D C H4 ys s4 m, Inv X pins σ (upd H4 D (.lst ys)) s4 → H4 D = none → FpOk X pins (upd H4 D (.lst ys)) C → s4.heap.Ns C m → QQ ys H4 → RR (.ref D) C (.ok .next) s4) :
    wpAny (model X.prog X.w) X.A (newList []) (fun acc s₃ => wpAny (model X.prog X.w) X.A (newFunctionEnv scope X.env.globals (clOf X.env fr) [] X.env.qual none .none (some X.env)) (fun cenv s₄ =>
      codeAny (model X.prog X.w) X.A (.compStart (.ListComp elt [⟨tg, iter, ifs, 0⟩] scope pos) 0 (.ref it) acc { cenv with scope := relabel scope X.env }) (RR acc cenv.locals) s₄) E s₃) E s := by
  obtain ⟨W, ⟨m0, w0⟩, turn⟩ := hq
  have hfs : ∀ b ∈ fp, b < s.heap.objs.size := fun b hb => by
    obtain ⟨o, e, _⟩ := T.obj 0 s.heap st b hb
    exact Heap.lt_size e
  refine wpAny_newObj_type (wpAny_newFunctionEnv O.cell (by intro y hy; simp at hy) (fun h₁ hns₁ hsb₁ => ?_) O.kind)
  dsimp only at hns₁ hsb₁ ⊢
  generalize hH2 : s.heap.push { cls := .type "list", dict := none, data := .seq ([] : List Value).toArray } = g at hns₁ hsb₁ ⊢
  have hg : g = s.heap.push (LCg.lst []) := hH2.symm
  have hsz : g.objs.size = s.heap.objs.size + 1 := by rw [hg, Heap.size_push]
  have hk : ∀ b o, g.get? b = some o → h₁.get? b = some o := fun b o e => hsb₁.extBut b o (Nat.ne_of_lt (Heap.lt_size e)) (Heap.get?_push_of_some _ e)
  have kp : ∀ b o, s.heap.get? b = some o → h₁.get? b = some o := fun b o e => hk b o (by rw [hg]; exact Heap.get?_push_of_some _ e)
  have J0 := inv_compG (h' := h₁) (tk := s.toks + ([] : List (Str × Value)).length) O I hf hfs hg hk hns₁
  have stat : ∀ {H' : Hp} {us : List Value}, (∀ b ∈ fp, H' b = none) → ∀ b ∈ fp, FpOk (cxG X scope fr xs g.objs.size (s.heap.objs.size :: fp) { s with heap := g } H) (X.pn ++ pins ++ [(s.heap.objs.size, LCg.lst us)]) H' b := fun {H' us} hn b hb => by
    obtain ⟨_, f1, f2, f3, f4, f5⟩ := hf b hb
    refine ⟨hn b hb, ?_, fun z => (List.mem_cons.mp (I.stkSub b z)).elim f1 f2, .inl (List.mem_cons_of_mem _ hb), fun y c e => f4 y c (O.cells I e), fun p hp => ?_⟩
    · show b ≠ g.objs.size
      rw [hsz]; exact Nat.ne_of_lt (Nat.lt_succ_of_lt (hfs b hb))
    · rcases List.mem_append.mp hp with hp | hp
      · cases hp
      · rcases List.mem_append.mp hp with hp | hp
        · exact f5 p hp
        · have ep : p = (s.heap.objs.size, LCg.lst us) := by simpa using hp
          rw [ep]
          exact Nat.ne_of_gt (hfs b hb)
  have loop : codeAny (model X.prog X.w) X.A (.compLoop (.ListComp elt [⟨tg, iter, ifs, 0⟩] scope pos) 0 (.ref it) (.ref s.heap.objs.size) (compEnvC scope (clOf X.env fr) g.objs.size X.env))
      (RR (.ref s.heap.objs.size) g.objs.size) { s with heap := h₁, toks := s.toks + ([] : List (Str × Value)).length } := by
    refine compLoopG (fun n s' => ∃ i ys us H', Inv (cxG X scope fr xs g.objs.size (s.heap.objs.size :: fp) { s with heap := g } H) (X.pn ++ pins ++ [(s.heap.objs.size, LCg.lst us)]) (nons xs ++ frOf fr σ) H' s' ∧ Vals ys us ∧ tn i s'.heap ∧ (∀ b ∈ fp, H' b = none) ∧ W i n ys H') ?_ m0
      ⟨0, [], [], H, J0, .nil, T.keep 0 s.heap h₁ st fun b _ o e => kp b o e, fun b hb => (hf b hb).1, w0⟩
    rintro n s3 ⟨i, ys, us, H3, J3, hv, st3, fr3, w3⟩
    obtain ⟨hlen, hh⟩ := turn i n ys H3 w3
    have none_err : ∀ {α : Type} {t : Sem α} {Q : α → Shared → Prop} {E' : Value → Shared → Prop} {s : Shared}, wpAny (model X.prog X.w) X.A t Q (fun _ _ => False) s → wpAny (model X.prog X.w) X.A t Q E' s := fun h => wpAny_mono h (fun _ _ q => q) fun _ _ z => z.elim
    have weakN : ∀ {σ6 : St}, σ6.length = (nons xs ++ frOf fr σ).length → σ6.drop xs.length = frOf fr σ → ∀ (i : Nat) v, (nons xs ++ frOf fr σ)[i]? = some (some v) → σ6[i]? = some (some v) := fun {σ6} hl6 e6 i v e => by
      by_cases hi : i < xs.length
      · rw [List.getElem?_append_left (by simpa using hi), List.getElem?_replicate, if_pos hi] at e
        cases e
      · rw [List.getElem?_append_right (by simp; omega), ← e6, List.getElem?_drop] at e
        have : xs.length + (i - (nons xs).length) = i := by simp; omega
        rw [this] at e
        exact e
    rcases hh with ⟨stop, qn⟩ | ⟨go, N, hN, step⟩
    · refine none_err (thn (T.done (cxG X scope fr xs g.objs.size (s.heap.objs.size :: fp) { s with heap := g } H) rfl rfl rfl hc i _ s3 _ H3 _ J3 (stat fr3) st3 stop) fun r s4 ⟨hr, J4⟩ => ?_)
      subst hr
      obtain ⟨I4, nD, fC, m, hn⟩ := inv_comp_endG I hf hg J4 hv hlen
      exact fin _ _ H3 ys s4 m I4 nD fC hn qn
    · refine none_err (thn (T.item (cxG X scope fr xs g.objs.size (s.heap.objs.size :: fp) { s with heap := g } H) rfl rfl rfl hc i _ s3 _ H3 _ J3 (stat fr3) st3 go) fun r s4 ⟨u, hr, h4⟩ => ?_)
      subst hr
      refine none_err (thn h4 fun _ s5 ⟨v, H5, J5, r5, y5, st5, fr5⟩ => ?_)
      have J5' := J5.pinned (stat fr5) (T.obj _ _ st5)
      refine none_err (thn (hg0 _ _ _ _ _ s5 _ H5 v u _ J5' r5 (step v H5 y5)) fun _ s6 ⟨σ6, H6, J6, e6, q6⟩ => ?_)
      refine none_err (thn (ht _ _ _ _ _ s6 σ6 H6 _ J6 q6) fun b s6' ⟨H6', J6', q6'⟩ => ?_)
      have hl6 : σ6.length = (nons xs ++ frOf fr σ).length := J6.len.trans J3.len.symm
      cases b with
      | false =>
        rw [if_neg Bool.false_ne_true] at q6' ⊢
        obtain ⟨m', hm, w7⟩ := hN ys H6' q6'
        have pinF : ∀ b ∈ fp, ∀ o, s5.heap.get? b = some o → s6'.heap.get? b = some o ∧ H6' b = none := fun b hb o e => by
          obtain ⟨q1, q2, _⟩ := J6'.pin (b, o) (List.mem_append_right _ (List.mem_append_right _ (mem_pinsAt hb e)))
          exact ⟨q1, q2⟩
        refine ⟨m', hm, i + 1, ys, us, H6', J6'.unpinned.weak (σ' := nons xs ++ frOf fr σ) hl6.symm (weakN hl6 e6), hv, T.keep _ _ _ st5 fun b hb o e => (pinF b hb o e).1, fun b hb => ?_, w7⟩
        obtain ⟨o, e, _⟩ := T.obj _ _ st5 b hb
        exact (pinF b hb o e).2
      | true =>
        rw [if_pos rfl] at q6' ⊢
        refine none_err (thn (he _ _ _ _ _ s6' _ H6' _ J6' q6') fun u7 s7 ⟨v7, H7, J7, r7, q7⟩ => ?_)
        obtain ⟨m', hm, w7⟩ := hN _ H7 q7
        obtain ⟨eD, nD, dC, dF, dd⟩ := J7.pin (s.heap.objs.size, LCg.lst us) (List.mem_append_right _ (List.mem_append_left _ (List.mem_append_right _ (by simp))))
        have hvl := hv.length
        refine append_at (hsz := by show us.toArray.size ≤ sizeLine; rw [List.size_toArray, ← hvl]; exact hlen) eD fun h8 hs8 hD8 => ?_
        have pinD : ∀ p ∈ X.pn ++ pins, p.1 ≠ s.heap.objs.size := fun p hp z => by
          have := Heap.lt_size (I.pin p hp).1
          rw [z] at this
          exact Nat.lt_irrefl _ this
        have J7a : Inv (cxG X scope fr xs g.objs.size (s.heap.objs.size :: fp) { s with heap := g } H) (X.pn ++ pins) _ H7 s7 := J7.pins_of fun p hp => J7.pin p (List.mem_append_right _ (List.mem_append_left _ (List.mem_append_left _ hp)))
        have J8 : Inv (cxG X scope fr xs g.objs.size (s.heap.objs.size :: fp) { s with heap := g } H) (X.pn ++ pins) _ H7 { s7 with heap := h8 } := J7a.turned (t' := s7.toks) (fun b o hb e => (hs8.2 b hb).trans e) nD dC (.inl List.mem_cons_self) (fun y c e z => by
          obtain ⟨w', q⟩ := I.cell y c (O.cells I e)
          have := q.lt
          rw [z] at this
          exact Nat.lt_irrefl _ this) (fun p hp => (List.mem_append.mp hp).elim (fun z => by cases z) (pinD p))
        have J9 : Inv (cxG X scope fr xs g.objs.size (s.heap.objs.size :: fp) { s with heap := g } H) (X.pn ++ pins ++ [(s.heap.objs.size, LCg.lst (us ++ [u7]))]) _ H7 { s7 with heap := h8 } := J8.pins_of fun p hp => by
          rcases List.mem_append.mp hp with hp | hp
          · exact J8.pin p (List.mem_append_right _ hp)
          · have ep : p = (s.heap.objs.size, LCg.lst (us ++ [u7])) := by simpa using hp
            subst ep
            exact ⟨hD8.trans (congrArg some (LCg.lst_snoc us u7)), nD, dC, dF, fun v z => by cases z⟩
        have J10 := J9.weak (σ' := nons xs ++ frOf fr σ) hl6.symm (weakN hl6 e6)
        have pinF : ∀ b ∈ fp, ∀ o, s5.heap.get? b = some o → s7.heap.get? b = some o ∧ H7 b = none := fun b hb o e => by
          obtain ⟨q1, q2, _⟩ := J7.pin (b, o) (List.mem_append_right _ (List.mem_append_right _ (mem_pinsAt hb e)))
          exact ⟨q1, q2⟩
        refine ⟨m', hm, i + 1, ys ++ [v7], us ++ [u7], H7, J10, hv.append (.cons r7 .nil), T.keep _ _ _ st5 fun b hb o e => (hs8.2 b (Nat.ne_of_lt (hfs b hb))).trans (pinF b hb o e).1, fun b hb => ?_, w7⟩
        obtain ⟨o, e, _⟩ := T.obj _ _ st5 b hb
        exact (pinF b hb o e).2
  exact codeAny_compStart_list loop (T.self X.A 0 _ _ _ (T.keep 0 s.heap h₁ st fun b _ o e => kp b o e) loop)
/-- [elt for tg in iter if ..] -/
def tCompE (wi : TI) (g : TG) (tt : TT) (te : TE) (n : Nat) (fr : List (Str × Nat)) : TE := fun σ H Q => wi σ H fun J H1 => tCompG g tt te n (frOf fr σ) J H1 fun ys H2 => ∀ D, H2 D = none → Q (.ref D) (upd H2 D (.lst ys))
theorem pe_compG (hc : X.calm = true) (O : CompG X scope fr xs) (hi : PI X tg iter wi) (hg0 : ∀ C ex s H, PG (cxG X scope fr xs C ex s H) tg tgt) (ht : ∀ C ex s H, PTs (cxG X scope fr xs C ex s H) ifs tt) (he : ∀ C ex s H, PE (cxG X scope fr xs C ex s H) elt te) (hs : ∀ x, foldedSetIterable iter X.env x = pure x := by intro _; rfl) :
    PE X (.ListComp elt [⟨tg, iter, ifs, 0⟩] scope pos) (tCompE wi tgt tt te xs.length fr) := by
  intro pins s σ H Q I h
  rw [eval_ListComp]
  refine wpAny_comprehension_free (use := none) rfl hs O.clos O.kind O.names (thn (hi pins s σ H _ I h) fun xv s1 h1 => thn h1 fun itv s2 h2 => ?_)
  obtain ⟨it, fp, tn, J, H2, e, I2, T, st2, f2, q2⟩ := h2
  subst e
  refine comp_coreG (RR := fun acc C => compPost (model X.prog X.w) X.A X.xe none (EP X pins σ Q) acc C) hc O hg0 ht he I2 T st2 f2 q2 ?_
  intro D C H4 ys s4 m I4 nD fC hn q4
  refine ⟨m, hn, fun h' hs' => ?_⟩
  obtain ⟨g0, g1, g2, g3, g4, g5⟩ := fC
  exact ⟨.ref D, _, I4.turned (t' := s4.toks) (fun b o hb e => (hs'.2 b hb).trans e) g0 g1 g3 g4 g5, rfl, q4 D nD⟩
end
/-! ### the forms one uses -/
end L2
namespace L2
open PySem PySem.Spec PyProof.Rows
/-! ### rules whose reading names the part K itself (for the blocks of comprehensions) -/
section
variable {X : Cx} {K : PySem.W.Frag} {pos : Pos}
theorem pgK_tup {es : List Expr} {k : Nat} {t : TGs} {n : Nat} (hK : X.K = K) (hc : X.calm = true) (h : PGs X es t) (hn : (assignEach es X.env).length = n := by rfl) (hst : (assignEach es X.env).findIdx? (·.1) = none := by rfl) : PG X (.Tuple es k pos) (gTup K n t) := hK ▸ pg_tup hc h hn hst
end
end L2

namespace L2
open PySem PySem.Spec PyProof.Rows
section
variable {X : Cx}
/-- xs.insert(k, y), k within the list -/
def rInsert : V → List V → Hp → VK → Prop := fun x vs H Q => ∃ l xs k y, x = .ref l ∧ vs = [.int k, y] ∧ H l = some (.lst xs) ∧ 0 ≤ k ∧ k ≤ xs.length ∧ xs.length < sizeLine ∧ Q .non (upd H l (.lst (xs.take k.toNat ++ y :: xs.drop k.toNat)))
theorem mt_insert : MtM X "list.insert" rInsert := by
  intro pins s σ H x vs v us Q I rx rv h
  obtain ⟨l, xs, k, y, rfl, rfl, hH, h0, hk, hz, q⟩ := h
  cases rx
  obtain ⟨u1, u2, rfl, r1, r2⟩ := rv.two
  obtain ⟨t, rfl⟩ := r1
  obtain ⟨z, its, n, r, hl, e⟩ := I.lstM hH
  have hn := line63
  have hfit : ¬ (!Builtin.List.listFitsIndex k) = true := by
    rw [fitsIndex_both (by omega) (by omega)]
    exact Bool.false_ne_true
  refine call_meets F.slot_list_insert ⟨_, e, rfl⟩ F.entry_list_insert (F.args_list_insert_3 _ _ _) (AutoListH.list_insert_list_int_val_1 l its.toArray n k t u2 hfit (by rw [List.size_toArray]; omega)) ⟨e, ?_⟩
  refine ⟨.non, _, I.lset (its' := its.take k.toNat ++ u2 :: its.drop k.toNat) hH e ?_ ((r.take _).append (.cons r2 (r.drop _))) ?_, rfl, q⟩
  · dsimp only
    rw [if_neg (by omega), List.size_toArray, Nat.min_eq_left (by omega)]
    simp
    exact List.take_of_length_le (by rw [List.length_drop]; omega)
  · rw [List.length_append, List.length_cons, List.length_take, List.length_drop]
    omega
end
end L2
namespace L2
open PySem PySem.Spec PyProof.Rows
section
variable {X : Cx}
end
end L2

namespace L2
open PySem PySem.Spec PyProof.Rows
section
variable {X : Cx}
end
end L2
namespace L2
open PySem PySem.Spec PyProof.Rows
section
variable {X : Cx} {tg : Expr}
/-- range(a, b, c), a not below nought, c above it -/
def iRngL (ta : TA) : TI := fun σ H R => ta σ H fun vs H1 => ∃ (lo m c : Int) (n : Nat), vs = [.int lo, .int m, .int c] ∧ 0 ≤ lo ∧ lo < 1000 ∧ -1000 < m ∧ m < 2 ^ 61 ∧ (0 < c ∧ c < 1000) ∧ Builtin.Range.rangeSize lo m c = (n : Int) ∧ R (Itr3 lo c n) H1
theorem small_lo {lo m c : Int} (h0 : 0 ≤ lo) (h00 : lo < 1000) (h1 : -1000 < m) (h2 : m < 2 ^ 61) (h3 : 0 < c ∧ c < 1000) : Builtin.Range.small lo m c = true := by
  obtain ⟨h3, h4⟩ := h3
  have hs : 0 ≤ Builtin.Range.rangeSize lo m c ∧ Builtin.Range.rangeSize lo m c ≤ 2 ^ 61 := by
    unfold Builtin.Range.rangeSize
    rw [if_pos h3]
    by_cases h : lo < m
    · rw [if_pos h]
      have q1 : 0 ≤ (m - lo - 1) / c := Int.ediv_nonneg (by omega) (by omega)
      have q2 : (m - lo - 1) / c ≤ (m - lo - 1) := Int.ediv_le_self _ (by omega)
      omega
    · rw [if_neg h]; omega
  unfold Builtin.Range.small Builtin.Range.rangeFitsLong
  simp only [gt_iff_lt, h3, if_true]
  simp
  omega
theorem pi_rangeL {a b c : Expr} {ta : TA} {p pos : Pos} (hg : Gl X "range") (hm : X.mg "range" = none) (ha : PA X [a, b, c] ta) (hs : starEach [a, b, c] X.env = (false, eval a X.env) :: starEach [b, c] X.env := by rfl) (hs2 : (backTo pos (starEach [b, c] X.env)).any (·.1) = false := by rfl) :
    PI X tg (.Call (.Name "range" p) [a, b, c] [] pos) (iRngL ta) := by
  intro pins s σ H R I h
  refine Call_ (ld_blt I hg hm bt_range (PyProof.Rows.callWith_type1 (thn (ha pos pins s σ H _ I h) fun us s1 ⟨vs, H1, I1, r1, q1⟩ => ?_) hs hs2))
  obtain ⟨lo, m, c, n, e, h0, h00, h1, h2, h3, hn, q⟩ := q1
  subst e
  cases r1 with
  | cons r rr =>
    cases rr with
    | cons r' rr =>
      cases rr with
      | cons r'' rr =>
        cases rr
        obtain ⟨t, rfl⟩ := r
        obtain ⟨t', rfl⟩ := r'
        obtain ⟨t'', rfl⟩ := r''
        refine call_range_3 (by have := h3.1; omega) ?_ (Or.inl (PyProof.noPylong_small (by have := h3.1; have := h3.2; omega)))
        refine wpAny_pyIter_range (IsRange.new ..) (small_lo h0 h00 h1 h2 h3) ?_
        have I2 : Inv X pins σ H1 { s1 with heap := s1.heap.push { cls := .type "range", data := .fields #[.int lo t, .int m t', .int c t''] }, toks := s1.toks } := I1.kept fun b o e => Heap.get?_push_of_some _ e
        refine ⟨(s1.heap.push { cls := .type "range", data := .fields #[.int lo t, .int m t', .int c t''] }).objs.size, [(s1.heap.push { cls := .type "range", data := .fields #[.int lo t, .int m t', .int c t''] }).objs.size], _, _, H1, rfl,
          I2.kept (t' := s1.toks) fun b o e => Heap.get?_push_of_some _ e, turn_range3 _ lo c n, ?_, fun b hb => ?_, q⟩
        · have e1 : lo + ((0 : Nat) : Int) * c = lo := by simp
          have e2 : ((n : Nat) : Int) - ((0 : Nat) : Int) = Builtin.Range.rangeSize lo m c := by rw [hn]; simp
          show IsRangeIter _ _ (lo + ((0 : Nat) : Int) * c) ((n : Int) - ((0 : Nat) : Int)) c
          rw [e1, e2]
          exact Heap.get?_push_size _ rfl
        · have e : b = (s1.heap.push { cls := .type "range", data := .fields #[.int lo t, .int m t', .int c t''] }).objs.size := by simpa using hb
          subst e
          exact I2.fpOk (Nat.le_refl _) (I2.hok.fresh (Nat.le_refl _))
end
end L2

namespace L2
open PySem PySem.Spec PyProof.Rows
theorem bt_min : bootBuiltins "min" = some (.builtin "min") := by decide +kernel
theorem bt_max : bootBuiltins "max" = some (.builtin "max") := by decide +kernel
section
variable {X : Cx}
end
end L2
namespace L2
open PySem PySem.Spec PyProof.Rows
theorem yesT {σ : St} {H : Hp} {A B : Hp → Prop} (h : A H) : tYes σ H fun b H3 => if b = true then A H3 else B H3 :=
  show (if true = true then A H else B H) from iteT (B := B H) h
theorem bt_zip : bootBuiltins "zip" = some (.type "zip") := by decide +kernel
/-! ### zip(list, list), walked by a pair of names -/
def Itz (K : PySem.W.Frag) (a b : Addr) : It :=
  ⟨fun i H => ∃ xs ys x y, SqL K H a xs ∧ SqL K H b ys ∧ xs[i]? = some x ∧ ys[i]? = some y,
   fun i H v H' => ∃ T x y, H T = none ∧ v = .ref T ∧ H' = upd H T (.tup [x, y]) ∧ (∀ xs, SqL K H a xs → xs[i]? = some x) ∧ ∀ ys, SqL K H b ys → ys[i]? = some y,
   fun i H => ∃ xs ys, SqL K H a xs ∧ SqL K H b ys ∧ (xs.length ≤ i ∨ ys.length ≤ i)⟩
theorem turn_zip {P : Program} {w : World} {K : PySem.W.Frag} {es : List Expr} {k : Nat} {pos : Pos} (a b z TI TO i1 i2 : Addr) (D : ZipApart z TI TO i1 i2 a b) : Turn P w K (.Tuple es k pos) (Itz K a b) [z, TI, TO, i1, i2] z
    (fun i h => IsZip h z TI TO .none ∧ IsPair h TI (.ref i1) (.ref i2) ∧ (∃ u v, IsPair h TO u v) ∧ h.IsListIter i1 a i ∧ h.IsListIter i2 b i) where
  mem := by simp
  obj := fun i h st c hc => by
    obtain ⟨kz, kI, ⟨u, v, kO⟩, ⟨o1, q1, c1, d1⟩, ⟨o2, q2, c2, d2⟩⟩ := st
    simp only [List.mem_cons, List.not_mem_nil, or_false] at hc
    rcases hc with rfl | rfl | rfl | rfl | rfl
    · exact ⟨_, kz, fun v z => by have z' : Data.fields _ = Data.cell v := z; cases z'⟩
    · exact ⟨_, kI, fun v z => by have z' : Data.seq _ _ = Data.cell v := z; cases z'⟩
    · exact ⟨_, kO, fun v z => by have z' : Data.seq _ _ = Data.cell v := z; cases z'⟩
    · exact ⟨o1, q1, fun v z => by rw [d1] at z; cases z⟩
    · exact ⟨o2, q2, fun v z => by rw [d2] at z; cases z⟩
  keep := fun i h h' st kk => by
    obtain ⟨kz, kI, ⟨u, v, kO⟩, k1, k2⟩ := st
    exact ⟨kk _ (by simp) _ kz, kk _ (by simp) _ kI, ⟨u, v, kk _ (by simp) _ kO⟩, k1.at fun o q => kk i1 (by simp) o q, k2.at fun o q => kk i2 (by simp) o q⟩
  item := by
    intro X hP hw hK hc i pins s σ H E I hf st hg
    subst hP hw hK
    obtain ⟨xs, ys, x, y, hq, hr, hx, hy⟩ := hg
    obtain ⟨its, rv, p, hz⟩ := I.list hq
    obtain ⟨its2, rv2, p2, hz2⟩ := I.list hr
    obtain ⟨u, hu, ru⟩ := rv.get hx
    obtain ⟨u2, hu2, ru2⟩ := rv2.get hy
    obtain ⟨kz, kI, ⟨o1, o2, kO⟩, k1, k2⟩ := st
    refine wpAny_pyNext_zip_item D kz kI kO k1 k2 p.isList p2.isList (x := u) (y := u2) (by simpa using hu) (by simpa using hu2) fun h' a1 a2 a3 a4 a5 a6 hk => ?_
    refine ⟨_, rfl, ?_⟩
    refine wpAny_letOwnedTupleGo_zip a1 fun h2 g1 hs2 => ?_
    have hs2' : Heap.SameBut z h' h2 := hs2
    have lz : z < s.heap.objs.size := Heap.lt_size kz
    have lI : TI < s.heap.objs.size := Heap.lt_size kI
    have lO : TO < s.heap.objs.size := Heap.lt_size kO
    have l1 : i1 < s.heap.objs.size := by obtain ⟨_, q, _⟩ := k1; exact Heap.lt_size q
    have l2 : i2 < s.heap.objs.size := by obtain ⟨_, q, _⟩ := k2; exact Heap.lt_size q
    have hfr : H s.heap.objs.size = none := I.hok.fresh (Nat.le_refl _)
    have I0 : Inv X pins σ (upd H s.heap.objs.size (.tup [x, y])) { s with heap := s.heap.push { cls := .type "tuple", data := .seq #[u, u2] }, toks := s.toks } :=
      I.laid (t' := s.toks) (fun b u e => Heap.get?_push_of_some _ e) (Nat.le_refl _) ⟨by show 2 ≤ sizeLine; decide, [u, u2], .cons ru (.cons ru2 .nil), ⟨_, Heap.get?_push_size _ rfl, rfl, _, rfl⟩⟩
    have hfb : ∀ c ∈ [z, TI, TO, i1, i2], c < s.heap.objs.size := fun c hc => by
      simp only [List.mem_cons, List.not_mem_nil, or_false] at hc
      rcases hc with rfl | rfl | rfl | rfl | rfl <;> assumption
    have hn : ∀ c ∈ [z, TI, TO, i1, i2], upd H s.heap.objs.size (.tup [x, y]) c = none := fun c hc => by
      rw [upd_ne (Nat.ne_of_lt (hfb c hc))]
      exact (hf c hc).1
    have I2 : Inv X pins σ (upd H s.heap.objs.size (.tup [x, y])) { s with heap := h2, toks := s.toks } := Inv.turnedL (s := { s with heap := s.heap.push { cls := .type "tuple", data := .seq #[u, u2] }, toks := s.toks }) (h' := h2) I0 (t' := s.toks) (fp := [z, TI, TO, i1, i2]) (fun c o hc q => by
      have n1 : c ≠ z := fun e => hc (by simp [e])
      have n3 : c ≠ TO := fun e => hc (by simp [e])
      have n4 : c ≠ i1 := fun e => hc (by simp [e])
      have n5 : c ≠ i2 := fun e => hc (by simp [e])
      refine (hs2'.2 c n1).trans ?_
      rcases Heap.get?_push_cases q with ⟨z1, z2⟩ | q
      · rw [z1, z2]; exact a5
      · exact hk c o n1 n3 n4 n5 q) fun c hc => ⟨hn c hc, (hf c hc).2⟩
    refine ⟨.ref s.heap.objs.size, _, I2, rfl, ⟨s.heap.objs.size, x, y, hfr, rfl, rfl, fun zs h => by rw [I.list_inj h hq]; exact hx, fun zs h => by rw [I.list_inj h hr]; exact hy⟩, ?_, hn⟩
    refine ⟨g1, (hs2'.2 TI D.TIz).trans (hk _ _ D.TIz D.TITO D.TIi1 D.TIi2 kI), ⟨_, _, (hs2'.2 TO D.TOz).trans a2⟩, a3.at fun o q => (hs2'.2 i1 D.i1z).trans q, a4.at fun o q => (hs2'.2 i2 D.i2z).trans q⟩
  done := by
    intro X hP hw hK hc i pins s σ H E I hf st hg
    subst hP hw hK
    obtain ⟨xs, ys, hq, hr, hx⟩ := hg
    obtain ⟨its, rv, p, hz⟩ := I.list hq
    obtain ⟨its2, rv2, p2, hz2⟩ := I.list hr
    obtain ⟨kz, kI, ⟨o1, o2, kO⟩, k1, k2⟩ := st
    have hl := rv.length
    have hl2 := rv2.length
    refine wpAny_pyNext_zip_end (I.ok.hd hc) D kz kI kO k1 k2 p.isList p2.isList ?_ fun h' eb => ⟨rfl, Inv.turnedL I (t' := s.toks) (fun c o hc e => eb c o (fun e => hc (by simp [e])) (fun e => hc (by simp [e])) (fun e => hc (by simp [e])) (fun e => hc (by simp [e])) e) hf⟩
    rcases hx with hx | hx
    · exact .inl (by simp; omega)
    · exact .inr (by simp; omega)
  self := fun _ _ _ _ _ st h => wpAny_pyIter_zip st.1 h
theorem ne_nat (x y : Nat) (h : ¬ x = y) : @Ne Addr x y := h
theorem zip_apart (n a b : Nat) (ha : a < n) (hb : b < n) : ZipApart (n + 4) (n + 2) (n + 3) n (n + 1) a b :=
  ⟨ne_nat _ _ (by omega), ne_nat _ _ (by omega), ne_nat _ _ (by omega), ne_nat _ _ (by omega), ne_nat _ _ (by omega), ne_nat _ _ (by omega), ne_nat _ _ (by omega), ne_nat _ _ (by omega), ne_nat _ _ (by omega),
   ne_nat _ _ (by omega), ne_nat _ _ (by omega), ne_nat _ _ (by omega), ne_nat _ _ (by omega), ne_nat _ _ (by omega), ne_nat _ _ (by omega), ne_nat _ _ (by omega), ne_nat _ _ (by omega), ne_nat _ _ (by omega)⟩
section
variable {X : Cx}
def iZip (K : PySem.W.Frag) (ta : TA) : TI := fun σ H R => ta σ H fun vs H1 => ∃ a b, vs = [.ref a, .ref b] ∧ (∃ xs, SqL K H1 a xs) ∧ (∃ ys, SqL K H1 b ys) ∧ R (Itz K a b) H1
theorem pi_zip {l1 l2 : Expr} {ta : TA} {es : List Expr} {k : Nat} {tp p pos : Pos} (hg : Gl X "zip") (hm : X.mg "zip" = none) (ha : PA X [l1, l2] ta) (hs : starEach [l1, l2] X.env = (false, eval l1 X.env) :: starEach [l2] X.env := by rfl) (hs2 : (backTo pos (starEach [l2] X.env)).any (·.1) = false := by rfl) :
    PI X (.Tuple es k tp) (.Call (.Name "zip" p) [l1, l2] [] pos) (iZip X.K ta) := by
  intro pins s σ H R I h
  refine Call_ (ld_blt I hg hm bt_zip (PyProof.Rows.callWith_type1 (thn (ha pos pins s σ H _ I h) fun us s1 ⟨vs, H1, I1, r1, q1⟩ => ?_) hs hs2))
  obtain ⟨a, b, e, ⟨xs, hq⟩, ⟨ys, hr⟩, q⟩ := q1
  subst e
  obtain ⟨u, u2, rfl, ru, ru2⟩ := vals2 r1
  cases ru
  cases ru2
  obtain ⟨its, rv, p, hz⟩ := I1.list hq
  obtain ⟨its2, rv2, p2, hz2⟩ := I1.list hr
  have la : a < s1.heap.objs.size := by obtain ⟨_, _, q, _⟩ := p; exact Heap.lt_size q
  have lb : b < s1.heap.objs.size := by obtain ⟨_, _, q, _⟩ := p2; exact Heap.lt_size q
  refine call_zip_2 p.isList p2.isList fun h' kz kI kO k1 k2 hsz hk => ?_
  refine wpAny_pyIter_zip kz ?_
  refine ⟨s1.heap.objs.size + 4, [s1.heap.objs.size + 4, s1.heap.objs.size + 2, s1.heap.objs.size + 3, s1.heap.objs.size, s1.heap.objs.size + 1], _, _, H1, rfl, I1.kept (t' := s1.toks) hk,
    turn_zip a b (s1.heap.objs.size + 4) (s1.heap.objs.size + 2) (s1.heap.objs.size + 3) s1.heap.objs.size (s1.heap.objs.size + 1) (zip_apart _ a b la lb), ⟨kz, kI, ⟨_, _, kO⟩, k1, k2⟩, fun c hc => ?_, q⟩
  have hb' : s1.heap.objs.size ≤ c := by
    simp only [List.mem_cons, List.not_mem_nil, or_false] at hc
    rcases hc with rfl | rfl | rfl | rfl | rfl
    · exact Nat.le_add_right _ _
    · exact Nat.le_add_right _ _
    · exact Nat.le_add_right _ _
    · exact Nat.le_refl _
    · exact Nat.le_add_right _ _
  exact I1.fpOk hb' (I1.hok.fresh hb')
end
section
variable {X : Cx}
end
end L2
/-! ### lists of things of one kind -/
namespace L2
open PySem PySem.Spec PyProof.Rows
end L2

namespace L2
open PySem PySem.Spec PyProof.Rows
section
variable {X : Cx}
/-- != of two things by their data -/
theorem op_neG (hu : X.A.units + 64 < cLine) : OpR X (compareOp .NotEq) (fun x y H Q => ∃ d1 d2, RdD X.K H x d1 ∧ RdD X.K H y d2 ∧ SeqAt.shaped d1 = true ∧ SeqAt.shaped d2 = true ∧ Q (.bl (!PyData.eqv d1 d2)) H) := by
  intro pins s σ H x y v u Q I rx ry h
  obtain ⟨d1, d2, r1, r2, h1, h2, q⟩ := h
  obtain ⟨as, q1⟩ := r1.reads I v rx
  obtain ⟨bs, q2⟩ := r2.reads I u ry
  exact ne_dataH q1 q2 h1 h2 hu ⟨.bl _, H, I, rfl, q⟩
theorem eqvAll_ints : ∀ (a b : List Int), PyData.eqvAll (a.map PyData.int) (b.map PyData.int) = decide (a = b)
  | [], [] => by simp [PyData.eqvAll]
  | [], y :: b => by simp [PyData.eqvAll]
  | x :: a, [] => by simp [PyData.eqvAll]
  | x :: a, y :: b => by
    rw [List.map_cons, List.map_cons]
    simp only [PyData.eqvAll, PyData.eqv, eqvAll_ints a b]
    by_cases h : x = y
    · by_cases h2 : a = b
      · simp [h, h2]
      · simp [h, h2]
    · simp [h]
theorem eqv_ints (a b : List Int) : PyData.eqv (.list (a.map PyData.int)) (.list (b.map PyData.int)) = decide (a = b) := by
  rw [← eqvAll_ints]
  simp only [PyData.eqv]
end
/-! ### a for whose iterable may raise, and whose body does not -/
section
variable {X : Cx} {tg : Expr}
end
/-! ### a def with defaults -/
section
variable {P : Program} {w : World} {K : PySem.W.Frag} {mg : Str → Option Value} {base : Heap}
end
end L2

namespace PyProof.Rows
open PySem
local macro_rules | `(tactic| walk_at "gallop") => do
  let n := Lean.mkIdent (Lean.mkPrivateNameCore `PySem.Builtin.List.W1All `PySem.Builtin.gallop)
  `(tactic| delta $n)
local macro_rules | `(tactic| walk_at "st") => `(tactic| try dsimp -zeta -zetaHave only)
local macro_rules | `(tactic| walk_at "l4") => `(tactic| (extract_lets -underBinder +onlyGivenNames a b; subst a b))
variable {prog : Program} {w : World} {A : Around} {E : Value → Shared → Prop} {s : Shared}
/-! the mathematics of joining two rows that rise -/
end PyProof.Rows
namespace PyProof.Rows
open PySem
local macro_rules | `(tactic| walk_at "setG") => do
  let n := Lean.mkIdent (Lean.mkPrivateNameCore `PySem.Builtin.List.W1All `PySem.Builtin.setMinGallop)
  `(tactic| delta $n)
local macro_rules | `(tactic| walk_at "mergeLo") => do
  let n := Lean.mkIdent (Lean.mkPrivateNameCore `PySem.Builtin.List.W1All `PySem.Builtin.mergeLo)
  `(tactic| delta $n)
local macro_rules | `(tactic| walk_at "st") => `(tactic| try dsimp -zeta -zetaHave only)
local macro_rules | `(tactic| walk_at "l3") => `(tactic| (extract_lets -underBinder +onlyGivenNames a b c; subst a b c))
local macro_rules | `(tactic| walk_at "l11") => `(tactic| (extract_lets -underBinder +onlyGivenNames a b c d e f g h i j k; subst a b c d e f g h i j k; dsimp -zeta -zetaHave only))
variable {prog : Program} {w : World} {A : Around} {E : Value → Shared → Prop} {s : Shared}
end PyProof.Rows
namespace PyProof.Rows
open PySem
local macro_rules | `(tactic| walk_at "mergeHi") => do
  let n := Lean.mkIdent (Lean.mkPrivateNameCore `PySem.Builtin.List.W1All `PySem.Builtin.mergeHi)
  `(tactic| delta $n)
local macro_rules | `(tactic| walk_at "st") => `(tactic| try dsimp -zeta -zetaHave only)
local macro_rules | `(tactic| walk_at "l3") => `(tactic| (extract_lets -underBinder +onlyGivenNames a b c; subst a b c))
local macro_rules | `(tactic| walk_at "l11") => `(tactic| (extract_lets -underBinder +onlyGivenNames a b c d e f g h i j k; subst a b c d e f g h i j k; dsimp -zeta -zetaHave only))
variable {prog : Program} {w : World} {A : Around} {E : Value → Shared → Prop} {s : Shared}
end PyProof.Rows
namespace PyProof.Rows
open PySem
local macro_rules | `(tactic| walk_at "countRun") => do
  let n := Lean.mkIdent (Lean.mkPrivateNameCore `PySem.Builtin.List.W1All `PySem.Builtin.countRun)
  `(tactic| delta $n)
local macro_rules | `(tactic| walk_at "binarySort") => do
  let n := Lean.mkIdent (Lean.mkPrivateNameCore `PySem.Builtin.List.W1All `PySem.Builtin.binarySort)
  `(tactic| delta $n)
local macro_rules | `(tactic| walk_at "st") => `(tactic| try dsimp -zeta -zetaHave only)
local macro_rules | `(tactic| walk_at "l3") => `(tactic| (extract_lets -underBinder +onlyGivenNames a b c; subst a b c))
local macro_rules | `(tactic| walk_at "l11") => `(tactic| (extract_lets -underBinder +onlyGivenNames a b c d e f g h i j k; subst a b c d e f g h i j k; dsimp -zeta -zetaHave only))
local macro_rules | `(tactic| walk_at "l1") => `(tactic| (extract_lets -underBinder +onlyGivenNames a; subst a; try dsimp -zeta -zetaHave only))
local macro_rules | `(tactic| walk_at "l2") => `(tactic| (extract_lets -underBinder +onlyGivenNames a b; subst a b; try dsimp -zeta -zetaHave only))
local macro_rules | `(tactic| walk_at "l4") => `(tactic| (extract_lets -underBinder +onlyGivenNames a b c d; subst a b c d; try dsimp -zeta -zetaHave only))
variable {prog : Program} {w : World} {A : Around} {E : Value → Shared → Prop} {s : Shared}
end PyProof.Rows
namespace PyProof.Rows
open PySem
local macro_rules | `(tactic| walk_at "mergeAt") => do
  let n := Lean.mkIdent (Lean.mkPrivateNameCore `PySem.Builtin.List.W1All `PySem.Builtin.mergeAt)
  `(tactic| delta $n)
local macro_rules | `(tactic| walk_at "st") => `(tactic| try dsimp -zeta -zetaHave only)
local macro_rules | `(tactic| walk_at "l3") => `(tactic| (extract_lets -underBinder +onlyGivenNames a b c; subst a b c))
local macro_rules | `(tactic| walk_at "l11") => `(tactic| (extract_lets -underBinder +onlyGivenNames a b c d e f g h i j k; subst a b c d e f g h i j k; dsimp -zeta -zetaHave only))
local macro_rules | `(tactic| walk_at "l1") => `(tactic| (extract_lets -underBinder +onlyGivenNames a; subst a; try dsimp -zeta -zetaHave only))
local macro_rules | `(tactic| walk_at "l2") => `(tactic| (extract_lets -underBinder +onlyGivenNames a b; subst a b; try dsimp -zeta -zetaHave only))
local macro_rules | `(tactic| walk_at "l4") => `(tactic| (extract_lets -underBinder +onlyGivenNames a b c d; subst a b c d; try dsimp -zeta -zetaHave only))
variable {prog : Program} {w : World} {A : Around} {E : Value → Shared → Prop} {s : Shared}
/-! parts of a row -/
end PyProof.Rows
namespace PyProof.Rows
open PySem
local macro_rules | `(tactic| walk_at "sortRuns") => do
  let n := Lean.mkIdent (Lean.mkPrivateNameCore `PySem.Builtin.List.W1All `PySem.Builtin.sortRuns)
  `(tactic| delta $n)
local macro_rules | `(tactic| walk_at "st") => `(tactic| try dsimp -zeta -zetaHave only)
local macro_rules | `(tactic| walk_at "l3") => `(tactic| (extract_lets -underBinder +onlyGivenNames a b c; subst a b c))
local macro_rules | `(tactic| walk_at "l11") => `(tactic| (extract_lets -underBinder +onlyGivenNames a b c d e f g h i j k; subst a b c d e f g h i j k; dsimp -zeta -zetaHave only))
local macro_rules | `(tactic| walk_at "l1") => `(tactic| (extract_lets -underBinder +onlyGivenNames a; subst a; try dsimp -zeta -zetaHave only))
local macro_rules | `(tactic| walk_at "l2") => `(tactic| (extract_lets -underBinder +onlyGivenNames a b; subst a b; try dsimp -zeta -zetaHave only))
local macro_rules | `(tactic| walk_at "l4") => `(tactic| (extract_lets -underBinder +onlyGivenNames a b c d; subst a b c d; try dsimp -zeta -zetaHave only))
variable {prog : Program} {w : World} {A : Around} {E : Value → Shared → Prop} {s : Shared}
end PyProof.Rows
namespace PyProof.Rows
open PySem
variable {prog : Program} {w : World} {A : Around} {E : Value → Shared → Prop} {s : Shared}
end PyProof.Rows
namespace L2
open PySem PySem.Spec PyProof.Rows
section
variable {X : Cx}
end
end L2

namespace L2
open PySem PySem.Spec PyProof.Rows
section
variable {X : Cx}
end
end L2

namespace L2
open PySem PySem.Spec PyProof.Rows
/-! ### zip walked by one name: its pair may be handed out anew or made anew -/
section
variable {prog : Program} {w : World} {A : Around} {E : Value → Shared → Prop} {s : Shared} {z TI TO i1 i2 l1 l2 : Addr} {f0 : Value} {f1 : Bool}
end
section
variable {X : Cx}
end
end L2

namespace L2
open PySem PySem.Spec PyProof.Rows
section
variable {X : Cx}
theorem bt_all : bootBuiltins "all" = some (.builtin "all") := by decide +kernel
end
end L2

namespace L2
open PySem PySem.Spec PyProof.Rows
/-! ### d.items(), walked by two names: the dict is held still meanwhile -/
section
variable {prog : Program} {w : World} {A : Around} {E : Value → Shared → Prop} {s : Shared} {d : Addr}
end
section
variable {X : Cx} {pins : List (Addr × Obj)} {σ : St} {H : Hp} {s : Shared} {d : Addr} {u : HO} {o : Obj}
end
section
variable {X : Cx}
end
end L2

namespace L2
open PySem PySem.Spec PyProof.Rows
/-! ### sorted of pairs of ints, below 64: each of what comes out went in -/
section
open PySem.W
end
section
open PySem.W
variable {prog : Program} {w : World} {A : Around} {E : Value → Shared → Prop} {s : Shared}
end
section
variable {X : Cx}
end
section
variable {X : Cx}
/-- all of a list of truths -/
def rAllB (K : PySem.W.Frag) : List V → Hp → VK → Prop := fun xs H Q => ∃ (p : Addr) (bs : List Bool), xs = [.ref p] ∧ SqL K H p (bs.map V.bl) ∧ Q (.bl (bs.all id)) H
theorem call_allB (hc : X.calm = true) : CallR X (.builtin "all") (rAllB X.K) := by
  intro pins s σ H xs us Q I r h
  obtain ⟨p, bs, rfl, hq, q⟩ := h
  obtain ⟨u, rfl, ru⟩ := vals1 r
  cases ru
  obtain ⟨its, rv, pl, hz⟩ := I.list hq
  have hln := rv.length
  rw [List.length_map] at hln
  have hlt : p < s.heap.objs.size := by obtain ⟨_, _, q, _⟩ := pl; exact Heap.lt_size q
  refine call_all_walk (wpAny_pyIter_list pl.isList ?_)
  refine ⟨s.heap.objs.size, [s.heap.objs.size, p], [s.heap.objs.size], its.toArray.size, _, _, fun i => bs.getD i true, rfl, Walks.list (A := X.A.in1) (I.ok.hd hc) _ p (Nat.ne_of_lt hlt) its.toArray, ⟨⟨_, Heap.get?_push_size _ rfl, rfl, rfl⟩, pl.isList.push _⟩, fun i v s' Q' E' hP hQ => ?_, fun h' tk hk => ?_⟩
  · have hv : its[i]? = some v := by simpa using hP
    have hi : i < bs.length := by have := (List.getElem?_eq_some_iff.mp hv).1; omega
    obtain ⟨w, hw, rw'⟩ := rv.get (i := i) (x := .bl bs[i]) (by rw [List.getElem?_map, List.getElem?_eq_getElem hi]; rfl)
    rw [hv] at hw
    cases hw
    cases rw'
    replace hQ : Q' (bs.getD i true) s' := hQ
    rw [show bs.getD i true = bs[i] by rw [List.getD_eq_getElem?_getD, List.getElem?_eq_getElem hi]; rfl] at hQ
    exact wpAny_truthy_bool hQ
  · have ea : ((List.range its.toArray.size).all fun i => bs.getD i true) = bs.all id := by
      rw [List.size_toArray, ← hln, Bool.eq_iff_iff, List.all_eq_true, List.all_eq_true]
      constructor
      · intro h b hb
        obtain ⟨i, hi, rfl⟩ := List.getElem_of_mem hb
        have := h i (List.mem_range.mpr hi)
        rw [List.getD_eq_getElem?_getD, List.getElem?_eq_getElem hi] at this
        exact this
      · intro h i hi
        have hi' := List.mem_range.mp hi
        rw [List.getD_eq_getElem?_getD, List.getElem?_eq_getElem hi']
        exact h _ (List.getElem_mem hi')
    rw [ea]
    refine ⟨.bl _, H, I.kept (t' := tk) (fun b o e => hk b o (fun hm => ?_) (Heap.get?_push_of_some _ e)), rfl, q⟩
    rw [List.mem_singleton.mp hm] at e
    exact Nat.lt_irrefl _ (Heap.lt_size e)
end
end L2

namespace L2
open PySem PySem.Spec PyProof.Rows
/-! ### d.setdefault(k, x) -/
section
variable {prog : Program} {w : World} {K : Type} [DecidableEq K] {knd : KeyKind prog w K} {A : Around} {E : Value → Shared → Prop} {s : Shared}
end
section
variable {X : Cx} {o e f : Expr} {apos cpos : Pos} {td ty tx : TE}
end
/-! ### for k in d -/
section
variable {X : Cx}
end
/-! ### sorted(d), the keys ints -/
section
variable {prog : Program} {w : World} {A : Around} {E : Value → Shared → Prop} {s : Shared} {T : String} {r d : Addr} {n : Nat} {P : Nat → Value → Prop} {OK : Heap → Prop}
end
section
variable {X : Cx}
end
/-! ### zip of three lists -/
section
variable {prog : Program} {w : World} {A : Around} {E : Value → Shared → Prop} {s : Shared}
end
section
variable {X : Cx}
end
end L2

namespace L2
open PySem PySem.Spec PyProof.Rows
/-! ## min(d, key=lambda each: told[each]), d a dict with ints for keys -/
section
variable {prog : Program} {w : World} {A : Around} {E : Value → Shared → Prop} {s : Shared}
end
/-! ### a code's table grows -/
section
variable {X : Cx} {pins : List (Addr × Obj)} {σ : St} {H : Hp} {s : Shared} {h' : Heap} {T : Addr} {ps more : Array Value} {t' : Nat}
end
/-! ### the head of a law whose program holds one lambda in the def fn -/
end L2

namespace L2
open PySem PySem.Spec PyProof.Rows
/-! ### texts: str(), join, split, int(), walking a text -/
section
variable {X : Cx}
theorem strs_of : ∀ {ws : List Str} {us : List Value}, Vals (ws.map V.str) us → ∃ l : List (Str × Tok), us = strValues l ∧ l.map (·.1) = ws
  | [], _, .nil => ⟨[], rfl, rfl⟩
  | w :: ws, _, .cons r rr => by
    obtain ⟨t, rfl⟩ := (show ∃ t, _ = Value.str w t from r)
    obtain ⟨l, rfl, e⟩ := strs_of rr
    exact ⟨(w, t) :: l, rfl, by rw [List.map_cons, e]⟩
/-- sep.join(texts) -/
def rJoin (K : PySem.W.Frag) : V → List V → Hp → VK → Prop := fun x xs H Q => ∃ (sep : Str) (a : Addr) (ws : List Str), x = .str sep ∧ xs = [.ref a] ∧ SqL K H a (ws.map V.str) ∧ (ws.map (·.length)).sum + ws.length * sep.length ≤ 1000000 ∧ Q (.str (Str.join sep ws)) H
theorem mt_join : MtM X "str.join" (rJoin X.K) := by
  intro pins s σ H x vs v us Q I rx rv h
  obtain ⟨sep, a, ws, rfl, rfl, hq, hl, q⟩ := h
  obtain ⟨t, rfl⟩ := rx
  obtain ⟨u, rfl, ru⟩ := rv.one
  cases ru
  obtain ⟨its, r, pl, hz⟩ := I.list hq
  obtain ⟨l, rfl, e⟩ := strs_of r
  have tl : Builtin.Str.tooLong ((l.map (·.1)).toArray.foldl (· + ·.length + sep.length) 0) = false := by
    rw [e, StrLaws.joinTotal]
    unfold Builtin.Str.tooLong
    have : (1000000 : Nat) ≤ sizeLine := by decide
    exact decide_eq_false (by omega)
  refine call_meets PySem.F.slot_str_join (typeIs_str _ _ _) PySem.F.entry_str_join (PySem.F.args_str_join_2 _ _) (meets_str_join_list sep t a l tl) ⟨pl.isList, ?_⟩
  have fin : (Made.str (Builtin.Str.glued sep (l.map (·.1)))).post (fun v s' => EP X pins σ Q v s') s := ⟨joinFit_length tl, .str (Builtin.Str.glued sep (l.map (·.1))), H, I.tok _, ⟨_, rfl⟩, by rw [StrLaws.glued_eq_join, e]; exact q⟩
  match l, fin, e with
  | [], fin, _ => exact fin
  | [p], _, e => exact ⟨.str p.1, H, I, ⟨_, rfl⟩, by subst e; exact q⟩
  | _ :: _ :: _, fin, _ => exact fin
/-- x.split(y) -/
def rSplit : V → List V → Hp → VK → Prop := fun x xs H Q => ∃ (z y : Str), x = .str z ∧ xs = [.str y] ∧ y.length = 1 ∧ z.length ≤ 1000000 ∧ ∀ l : Addr, H l = none → Q (.ref l) (upd H l (.lst ((Txt.split z y).map V.str)))
theorem strsFrom_vals : ∀ (ws : List Str) (n : Nat), Vals (ws.map V.str) (strsFrom n ws)
  | [], _ => .nil
  | w :: ws, n => .cons ⟨_, rfl⟩ (strsFrom_vals ws (n + 1))
theorem mt_split : MtM X "str.split" rSplit := by
  intro pins s σ H x vs v us Q I rx rv h
  obtain ⟨z, y, rfl, rfl, y1, zl, q⟩ := h
  obtain ⟨t, rfl⟩ := rx
  obtain ⟨u, rfl, ru⟩ := rv.one
  obtain ⟨t', rfl⟩ := ru
  have hn := split_le z y
  have zs : z.length ≤ sizeLine := Nat.le_trans zl (by decide)
  have ps : ∀ ws : List Str, ws.length ≤ z.length + 2 → (ws.map V.str).length ≤ sizeLine := fun ws h => by rw [List.length_map]; exact Nat.le_trans h (Nat.le_trans (Nat.add_le_add_right zl 2) (by decide))
  by_cases c1 : (decide (z.length < y.length) || decide (Builtin.Str.strKind z < Builtin.Str.strKind y)) = true
  · have e : Txt.split z y = [z] := by unfold Txt.split; rw [if_pos c1]
    rw [e] at q
    refine call_meets PySem.F.slot_str_split (typeIs_str _ _ _) PySem.F.entry_str_split (PySem.F.args_str_split_2 _ _) (meets_str_split_cannot_occur z y t t' c1) ?_
    exact ⟨.ref _, _, I.laid (t' := s.toks) (fun b o e => Heap.get?_push_of_some _ e) (Nat.le_refl _) (show ObjOk X.prog X.w _ _ _ (.lst [V.str z]) from ⟨by show 1 ≤ sizeLine; decide, [Value.str z t], 0, .cons ⟨t, rfl⟩ .nil, Heap.get?_push_size _ rfl⟩), rfl, q _ (I.hok.fresh (Nat.le_refl _))⟩
  · have c1' : (decide (z.length < y.length) || decide (Builtin.Str.strKind z < Builtin.Str.strKind y)) = false := by simpa using c1
    have y0 : (y.length == 0) = false := by rw [y1]; rfl
    by_cases c2 : (Builtin.Str.occurrences z y 0 z.length (z.length + 1)).isEmpty = true
    · have e : Txt.split z y = [z] := by unfold Txt.split; rw [if_neg c1, if_pos c2]
      rw [e] at q
      refine call_meets PySem.F.slot_str_split (typeIs_str _ _ _) PySem.F.entry_str_split (PySem.F.args_str_split_2 _ _) (meets_str_split_not_found z y t t' c1' y0 c2) ?_
      exact ⟨.ref _, _, I.laid (t' := s.toks) (fun b o e => Heap.get?_push_of_some _ e) (Nat.le_refl _) (show ObjOk X.prog X.w _ _ _ (.lst [V.str z]) from ⟨by show 1 ≤ sizeLine; decide, [Value.str z t], 0, .cons ⟨t, rfl⟩ .nil, Heap.get?_push_size _ rfl⟩), rfl, q _ (I.hok.fresh (Nat.le_refl _))⟩
    · have c2' : (Builtin.Str.occurrences z y 0 z.length (z.length + 1)).isEmpty = false := by simpa using c2
      have e : Txt.split z y = Builtin.Str.partsBetween z (Builtin.Str.occurrences z y 0 z.length (z.length + 1)) y.length := by unfold Txt.split; rw [if_neg c1, if_neg c2]
      rw [e] at q hn
      refine call_meets PySem.F.slot_str_split (typeIs_str _ _ _) PySem.F.entry_str_split (PySem.F.args_str_split_2 _ _) (meets_str_split_sep z y t t' c1' y0 c2' zs (Nat.le_trans hn (Nat.le_trans (Nat.add_le_add_right zl 2) (by decide)))) ?_
      exact ⟨.ref _, _, I.laid (fun b o e => Heap.get?_push_of_some _ e) (Nat.le_refl _) (show ObjOk X.prog X.w _ _ _ (.lst ((Builtin.Str.partsBetween z (Builtin.Str.occurrences z y 0 z.length (z.length + 1)) y.length).map V.str)) from ⟨ps _ hn, _, 0, strsFrom_vals _ _, Heap.get?_push_size _ rfl⟩), rfl, q _ (I.hok.fresh (Nat.le_refl _))⟩
/-- int of a text of figures -/
theorem call_intT : CallR X (.type "int") (fun xs H Q => ∃ (z : Str) (n : Int), xs = [.str z] ∧ PySem.intText? z = some n ∧ z.length ≤ 640 ∧ Q (.int n) H) := by
  intro pins s σ H xs us Q I r h
  obtain ⟨z, n, rfl, hn, hl, q⟩ := h
  obtain ⟨u, rfl, ru⟩ := vals1 r
  obtain ⟨t, rfl⟩ := ru
  exact PySem.W.KIN.call_text hn hl ⟨.int n, H, I.tok _, ⟨_, rfl⟩, q⟩
/-- the signs of a text, one by one -/
def Its (x : Str) : It := ⟨fun i _ => i < x.cps.size, fun i H v H' => H' = H ∧ ∃ c, x.cps[i]? = some c ∧ v = .str ⟨#[c]⟩, fun i _ => x.cps.size ≤ i⟩
theorem turn_str {P : Program} {w : World} {K : PySem.W.Frag} {tg : Expr} (it : Addr) (x : Str) (t : Tok) : Turn P w K tg (Its x) [it] it (fun i h => h.IsStrIter it "str_ascii_iterator" x t i) where
  mem := by simp
  obj := fun i h st b hb => by
    have e : b = it := by simpa using hb
    subst e
    obtain ⟨o, e, c, d⟩ := st
    exact ⟨o, e, fun v z => by rw [d] at z; cases z⟩
  keep := fun i h h' st k => let ⟨o, e, r⟩ := st; ⟨o, k it (by simp) o e, r⟩
  item := by
    intro X hP hw hK hc i pins s σ H E I hf st hg
    subst hP hw hK
    obtain ⟨f0, f1, f2, f3, f4, f5⟩ := hf it (by simp)
    have hi : i < x.cps.size := hg
    refine wpAny_pyNext_ascii_item st (c := x.cps[i]) (by simp [hi]) fun h' st' sb => ?_
    have I1 : Inv X pins σ H { s with heap := h', toks := s.toks + 1 } := I.turned (fun b o hb e => (sb.2 b hb).trans e) f0 f1 f3 f4 f5
    obtain ⟨o, e, c, d⟩ := id st'
    exact ⟨_, rfl, go_of (s := { s with heap := h', toks := s.toks + 1 }) e c d (by decide) ⟨.str ⟨#[x.cps[i]]⟩, H, I1, ⟨_, rfl⟩, ⟨rfl, _, by simp [hi], rfl⟩, st', fun b hb => (hf b hb).1⟩⟩
  done := by
    intro X hP hw hK hc i pins s σ H E I hf st hg
    subst hP hw hK
    obtain ⟨f0, f1, f2, f3, f4, f5⟩ := hf it (by simp)
    exact wpAny_pyNext_ascii_end (I.ok.hd hc) st (by have : x.cps.size ≤ i := hg; simp; omega) fun h' eb => ⟨rfl, I.turned (t' := s.toks) (fun b o hb e => eb b o hb e) f0 f1 f3 f4 f5⟩
  self := fun _ _ _ _ _ st h => wpAny_pyIter_striter_ascii st h
def iStr (tl : TE) : TI := fun σ H R => tl σ H fun v H1 => ∃ x : Str, v = .str x ∧ x.cps.all (· < 128) = true ∧ R (Its x) H1
theorem pi_str {tg l : Expr} {tl : TE} (hl : PE X l tl) : PI X tg l (iStr tl) := by
  intro pins s σ H R I h
  refine thn (hl pins s σ H _ I h) fun v s1 ⟨x, H1, I1, r1, q1⟩ => ?_
  obtain ⟨z, rfl, ha, q⟩ := q1
  obtain ⟨t, rfl⟩ := r1
  refine wpAny_pyIter_ascii ha ?_
  refine ⟨s1.heap.objs.size, [s1.heap.objs.size], _, _, H1, rfl, I1.kept (t' := s1.toks) fun b o e => Heap.get?_push_of_some _ e, turn_str _ z t, ⟨_, Heap.get?_push_size _ rfl, rfl, rfl⟩, fun b hb => ?_, q⟩
  have e : b = s1.heap.objs.size := by simpa using hb
  subst e
  exact I1.fpOk (Nat.le_refl _) (I1.hok.fresh (Nat.le_refl _))
theorem comp_str {x : Str} {te : TE} {fv : St} {H1 : Hp} {QQ : List V → Hp → Prop} (Pv : Nat → List V → Hp → Prop) (hz : x.cps.size ≤ sizeLine) (h0 : Pv 0 [] H1)
    (hs : ∀ i c ys H, x.cps[i]? = some c → Pv i ys H → te (some (.str ⟨#[c]⟩) :: fv) H fun y H2 => Pv (i + 1) (ys ++ [y]) H2) (hd : ∀ ys H, ys.length = x.cps.size → Pv x.cps.size ys H → QQ ys H)
    : tCompR te fv (Its x) H1 QQ := by
  refine ⟨fun i m ys H => m = x.cps.size - i ∧ i ≤ x.cps.size ∧ ys.length = i ∧ Pv i ys H, ⟨x.cps.size, by simp, Nat.zero_le _, rfl, h0⟩, ?_⟩
  rintro i m ys H ⟨rfl, hi, hy, p⟩
  refine ⟨by omega, ?_⟩
  by_cases hlt : i < x.cps.size
  · refine .inr ⟨hlt, fun y H2 => Pv (i + 1) (ys ++ [y]) H2, fun y H2 p2 => ⟨x.cps.size - (i + 1), by omega, rfl, hlt, by rw [List.length_append, hy]; rfl, p2⟩, fun v H' y => ?_⟩
    obtain ⟨rfl, c, hc, rfl⟩ := y
    exact hs i c ys _ hc p
  · have e : i = x.cps.size := by omega
    subst e
    exact .inl ⟨Nat.le_refl _, hd ys H hy p⟩
end
end L2

namespace L2
open PySem PySem.Spec PyProof.Rows
/-! ### enumerate(xs, start=n) -/
section
variable {prog : Program} {w : World} {A : Around} {E : Value → Shared → Prop} {s : Shared}
theorem kwT {M : Model} {env : Env} {pos : Pos} {T : String} {z : Sem Value} {args : List (Bool × Sem Value)} {ks : List (Option Str × Sem Value)} {R : Value → Shared → Prop} (hp : args.any (·.1) = false) (hn : ks.any (·.1.isNone) = false) (hall : ks.all (·.1.isSome) = true)
    (h : wpAny M A (spliced ((false, z) :: args)) (fun vs s1 => wpAny M A (evalAll (ks.map (·.2))) (fun us s2 => wpAny M A (call (.type T) vs ((ks.filterMap (·.1)).zip us)) R E s2) E s1) E s) :
    wpAny M A (callWith pos (.type T) [] ((false, z) :: args) ks) R E s := by
  have hp' : ((false, z) :: args).any (·.1) = false := by rw [List.any_cons, hp]; rfl
  unfold callWith
  refine wpAny_bind (wpAny_holding (wpAny_mono (evalArgs_kwB (Q := fun a s1 => wpAny M A (call (.type T) a.pos a.kw) R E s1) hall h) (fun a s1 k => wpAny_bind (wpAny_standAt ?_)) fun _ _ e => e))
  rw [hp', hn]
  refine wpAny_bind (wpAny_pure ?_)
  exact wpAny_bind (wpAny_mono k (fun r s2 q => wpAny_bind (wpAny_holding (wpAny_point (wpAny_pure q)))) fun _ _ e => e)
theorem enum_ct (a b : Value) : checkTypeCall "enumerate" ⟨[a], [(("start" : Str), b)]⟩ = pure () := by kernel_rfl
theorem enum_cn (a b : Value) : checkBuiltinCall "enumerate.__new__" ⟨[.type "enumerate", a], [(("start" : Str), b)]⟩ = pure () := by kernel_rfl
theorem enum_ini (a b c : Value) : argsOk "object.__init__" ⟨[a, b], [(("start" : Str), c)]⟩ := by
  unfold argsOk
  rw [signature?_of (id := "object.__init__") (n := ['_', '_', 't', 'i', 'n', 'i', '_', '_']) (o := ['t', 'c', 'e', 'j', 'b', 'o']) (by kernel_rfl) F.owner_object]
  kernel_rfl
theorem ini_meets {T newId : String} {self a : Value} {kw : List (Str × Value)} (hl : typeLookup (.type T) "__init__" = pure (some (.builtin "object.__init__"))) (hm : Bind.madeBy (.type T) = pure (some newId)) (hne : (some newId != some "object.__new__") = true) :
    Meets (Builtin.«object.__init__» ⟨[self, a], kw⟩) (fun _ R s => s.TypeIs self T ∧ R (.ok (.ret .none)) s) := .of_wp fun _ _ _ _ _ ⟨hT, hq⟩ => by
  repeat any_goals first | assumption | wp_step
  exact ⟨_, rfl, hq⟩
theorem callT_kw {T newId : String} {Bn : Builtin} {x : Value} {kw : List (Str × Value)} {S : PySem.Spec} {Q : Value → Shared → Prop} (ft : TypeCalled T newId "object.__init__")
    (hne : (some newId != some "object.__new__") = true) (hct : checkTypeCall T ⟨[x], kw⟩ = pure ()) (hcn : checkBuiltinCall newId ⟨[.type T, x], kw⟩ = pure ())
    (hok : ∀ obj, argsOk "object.__init__" ⟨[obj, x], kw⟩) (eN : entryFor table newId = some Bn) (g : Meets (Bn ⟨[.type T, x], kw⟩) S)
    (h : S A.in1 (wants (fun obj s1 => s1.TypeIs obj T ∧ Q obj s1) E) s) : wpAny (model prog w) A (call (.type T) [x] kw) Q E s := by
  have ⟨_, _, hmro⟩ := ft.mro
  have ⟨hmade, hsub, h1, h2⟩ := And.intro ft.made (And.intro ft.sub (And.intro ft.notType ft.canCreate))
  refine wpAny_call (codeAny_of_tree (show wpAny _ _ (callAny (.type T) _) _ _ _ from wpAny_pure ⟨Code.quiet_builtin _ (by decide +kernel), codeAny_builtin F.entry_type_call ?_⟩))
  rw [Around.under_plain (weight_type_call_type T [x] kw) (units_type_call_type T [x] kw)]
  repeat any_goals first | assumption | wp_step
  refine codeAny_mono (codeAny_call_builtin ft.plain eN (wpAny_of_eq hcn (g prog w A.in1 _ s h))) fun r t hr => ?_
  match r, hr with
  | .error e, hr => exact hr
  | .ok (.ret obj), hr =>
    obtain ⟨hT, hq⟩ := hr
    have ⟨hli, hbi⟩ := And.intro ft.init.lookup (ft.init.bind obj)
    repeat any_goals first | assumption | wp_step
    refine codeAny_mono (codeAny_call_builtin ft.init.plain F.entry_object_init (ft.init.check _ _ _ _ _ _ _ _ hT (hok obj) (ini_meets ft.init.lookup ft.made hne prog w A.in1 (wants (fun r t2 => r = .none ∧ Q obj t2) E) t ⟨hT, rfl, hq⟩))) fun r2 t2 q => ?_
    match r2, q with
    | .error e, q => exact q
    | .ok (.ret r), q =>
      obtain ⟨rfl, q⟩ := q
      repeat any_goals first | assumption | wp_step
theorem enumS_meets (l : Addr) (items : Array Value) (n : Nat) (dct : Option Addr) (sl : Array (Option Value)) (t : Tok) :
    Meets (Builtin.«enumerate.__new__» ⟨[.type "enumerate", .ref l], [(("start" : Str), .int 3 t)]⟩) (fun _ R s => s.heap.get? l = some { cls := .type "list", dict := dct, data := .seq items n, slots := sl } ∧
      R (.ok (.ret (.ref (s.heap.push { cls := .type "list_iterator", data := .fields #[.ref l, .int 0 0] }).objs.size))) { s with heap := (s.heap.push { cls := .type "list_iterator", data := .fields #[.ref l, .int 0 0] }).push { cls := .type "enumerate", data := .fields #[.none, .bool false, .ref s.heap.objs.size, rawInt 3, .none, .none] } }) :=
  .of_wp fun prog w A R ⟨hp, g, d, tk, os⟩ ⟨hl, h⟩ => by
    have ⟨hsub, hL⟩ := And.intro sub_enumerate (show Heap.IsList (Shared.heap ⟨hp, g, d, tk, os⟩) l items from ⟨_, hl, rfl, n, rfl⟩)
    wp_walk using AutoSeq1.wpAny_loadPart' hl
    refine wpAny_stack_any fun _ => wpAny_pure ?_
    split
    · rename_i c _ _ _ _ _
      cases (c == Value.type "enumerate") <;> (wp_walk using AutoSeq1.wpAny_loadPart' hl, wpAny_pyIter_list hL)
      all_goals exact ⟨_, rfl, h⟩
    · wp_walk using AutoSeq1.wpAny_loadPart' hl, wpAny_pyIter_list hL
      exact ⟨_, rfl, h⟩
theorem drawsS {prog : Program} {w : World} {A : Around} (hh : A.handled = none) (it l : Addr) (hne : l ≠ it) (items : Array Value) : Draws prog w A it [it, l] (items.size + 3) (fun i v => 3 ≤ i ∧ items[i - 3]? = some v) (fun i h => 3 ≤ i ∧ h.IsListIter it l (i - 3) ∧ h.IsList l items) := by
  have D := Draws.list (prog := prog) (w := w) hh it l hne items
  refine ⟨fun i h st => D.live _ h st.2, fun i h h' st k => ⟨st.1, D.frame _ h h' st.2 k⟩, fun i s Q E hi st hQ => ?_, fun s Q E st hE => D.done s Q E st.2 hE⟩
  refine D.item (i - 3) s Q E (by have := st.1; omega) st.2 fun x h' tk p st' sb => hQ x h' tk ⟨st.1, p⟩ ⟨by omega, ?_⟩ sb
  have e : i + 1 - 3 = i - 3 + 1 := by have := st.1; omega
  rw [e]
  exact st'
def Ites (K : PySem.W.Frag) (a : Addr) : It :=
  ⟨fun i H => ∃ xs x, SqL K H a xs ∧ xs[i]? = some x, fun i H v H' => ∃ T x, H T = none ∧ v = .ref T ∧ H' = upd H T (.tup [.int ((i + 3 : Nat) : Int), x]) ∧ ∀ xs, SqL K H a xs → xs[i]? = some x, fun i H => ∃ xs, SqL K H a xs ∧ xs.length ≤ i⟩
theorem turn_enumS {P : Program} {w : World} {K : PySem.W.Frag} {es : List Expr} {k : Nat} {pos : Pos} (a e it : Addr) (hei : e ≠ it) : Turn P w K (.Tuple es k pos) (Ites K a) [e, it] e (fun i h => (∃ old, IsEnum h e it ((i + 3 : Nat) : Int) old) ∧ h.IsListIter it a i) where
  mem := by simp
  obj := fun i h st b hb => by
    obtain ⟨⟨old, he⟩, o, e2, c, d⟩ := st
    rcases List.mem_cons.mp hb with rfl | hb
    · exact ⟨_, he, fun v z => by
        have z' : Data.fields _ = Data.cell v := z
        cases z'⟩
    · have e3 : b = it := by simpa using hb
      subst e3
      exact ⟨o, e2, fun v z => by rw [d] at z; cases z⟩
  keep := fun i h h' st kk => by
    obtain ⟨⟨old, he⟩, hit⟩ := st
    exact ⟨⟨old, kk e (by simp) _ he⟩, hit.at fun o q => kk it (by simp) o q⟩
  item := by
    intro X hP hw hK hc i pins s σ H E I hf st hg
    subst hP hw hK
    obtain ⟨xs, x, hq, hx⟩ := hg
    obtain ⟨its, rv, p, hz⟩ := I.list hq
    obtain ⟨u, hu, ru⟩ := rv.get hx
    obtain ⟨⟨old, he⟩, hit⟩ := st
    have hu' : its.toArray[i]? = some u := by simpa using hu
    have hie : i < its.toArray.size := by
      rcases Nat.lt_or_ge i its.toArray.size with z | z
      · exact z
      · rw [Array.getElem?_eq_none z] at hu'; cases hu'
    have nea : e ≠ a := fun z => by
      obtain ⟨o, ho, hc, _⟩ := p.isList
      rw [← z, he] at ho
      cases ho
      simp at hc
    have nia : a ≠ it := fun z => by
      obtain ⟨o, ho, hc, _⟩ := p.isList
      obtain ⟨o2, ho2, hc2, _⟩ := hit
      rw [z, ho2] at ho
      cases ho
      rw [hc2] at hc
      simp at hc
    have hA : X.A.in1.handled = none := I.ok.hd hc
    refine wpAny_pyNext_enum_itemD (drawsS hA it a nia its.toArray) he (i := i + 3) ⟨by omega, by rw [Nat.add_sub_cancel]; exact hit, p.isList⟩ (by omega) hei (by simp [hei, nea]) fun y h' tk py ho st' hT hsz hk => ?_
    obtain ⟨_, hit', _⟩ := st'
    rw [Nat.add_sub_cancel, hu'] at py
    obtain ⟨_, py⟩ := py
    cases py
    have e9 : i + 3 + 1 - 3 = i + 1 := by omega
    rw [e9] at hit'
    refine ⟨_, rfl, ?_⟩
    refine wpAny_letOwnedTupleGo_enum ho fun h2 he2 hs2 => ?_
    have hs2' : Heap.SameBut e h' h2 := hs2
    have hel : e < s.heap.objs.size := Heap.lt_size he
    have hil : it < s.heap.objs.size := by obtain ⟨_, q, _⟩ := hit; exact Heap.lt_size q
    have hfr : H s.heap.objs.size = none := I.hok.fresh (Nat.le_refl _)
    have I0 : Inv X pins σ (upd H s.heap.objs.size (.tup [.int ((i + 3 : Nat) : Int), x])) { s with heap := s.heap.push { cls := .type "tuple", data := .seq #[.int ((i + 3 : Nat) : Int) tk, u] }, toks := tk + 1 } :=
      I.laid (t' := tk + 1) (fun b u e => Heap.get?_push_of_some _ e) (Nat.le_refl _) ⟨by show 2 ≤ sizeLine; decide, [.int ((i + 3 : Nat) : Int) tk, u], .cons ⟨_, rfl⟩ (.cons ru .nil), ⟨_, Heap.get?_push_size _ rfl, rfl, _, rfl⟩⟩
    have hfb : ∀ b ∈ [e, it], b < s.heap.objs.size := fun b hb => by
      rcases List.mem_cons.mp hb with rfl | hb
      · exact hel
      · have e3 : b = it := by simpa using hb
        rw [e3]; exact hil
    have hn : ∀ b ∈ [e, it], upd H s.heap.objs.size (.tup [.int ((i + 3 : Nat) : Int), x]) b = none := fun b hb => by
      rw [upd_ne (Nat.ne_of_lt (hfb b hb))]
      exact (hf b hb).1
    have I2 : Inv X pins σ (upd H s.heap.objs.size (.tup [.int ((i + 3 : Nat) : Int), x])) { s with heap := h2, toks := tk + 1 } := Inv.turnedL (s := { s with heap := s.heap.push { cls := .type "tuple", data := .seq #[.int ((i + 3 : Nat) : Int) tk, u] }, toks := tk + 1 }) (h' := h2) I0 (t' := tk + 1) (fp := [e, it]) (fun b o hb q => by
      have nb : b ≠ e := fun z => hb (by simp [z])
      have nb2 : b ≠ it := fun z => hb (by simp [z])
      refine (hs2'.2 b nb).trans ?_
      rcases Heap.get?_push_cases q with ⟨z1, z2⟩ | q
      · rw [z1, z2]; exact hT
      · exact hk b o nb nb2 q) fun b hb => ⟨hn b hb, (hf b hb).2⟩
    refine ⟨.ref s.heap.objs.size, _, I2, rfl, ⟨s.heap.objs.size, x, hfr, rfl, rfl, fun ys hy => by rw [I.list_inj hy hq]; exact hx⟩, ?_, hn⟩
    refine ⟨⟨u, ?_⟩, hit'.at fun o q => (hs2'.2 it (Ne.symm hei)).trans q⟩
    have e4 : (((i + 1 + 3 : Nat) : Nat) : Int) = ((i + 3 : Nat) : Int) + 1 := by omega
    rw [e4]
    exact he2
  done := by
    intro X hP hw hK hc i pins s σ H E I hf st hg
    subst hP hw hK
    obtain ⟨xs, hq, hx⟩ := hg
    obtain ⟨its, rv, p, hz⟩ := I.list hq
    obtain ⟨⟨old, he⟩, hit⟩ := st
    have hl := rv.length
    obtain ⟨f0, f1, f2, f3, f4, f5⟩ := hf it (by simp)
    have nia : a ≠ it := fun z => by
      obtain ⟨o, ho, hc, _⟩ := p.isList
      obtain ⟨o2, ho2, hc2, _⟩ := hit
      rw [z, ho2] at ho
      cases ho
      rw [hc2] at hc
      simp at hc
    have hA : X.A.in1.handled = none := I.ok.hd hc
    have D : Draws X.prog X.w X.A.in1 it [it, a] 0 (fun _ _ => False) (fun _ h => h.IsListIter it a i ∧ h.IsList a its.toArray) := ⟨fun _ _ st => let ⟨o, ho, _⟩ := st.1; ⟨o, ho⟩, fun _ _ _ st kk => ⟨st.1.at fun o q => kk it (by simp) o q, st.2.at fun o q => kk a (by simp) o q⟩, fun _ _ _ _ z => absurd z (Nat.not_lt_zero _), fun s Q E st hE => wpAny_nextOf_list_end hA st.1 st.2 (by simp; omega) hE⟩
    exact wpAny_pyNext_enum_endD D he ⟨hit, p.isList⟩ fun h' eb => ⟨rfl, I.turned (t' := s.toks) (fun b o hb e => eb b o hb e) f0 f1 f3 f4 f5⟩
  self := fun _ _ _ _ _ st h => by
    obtain ⟨⟨old, he⟩, _⟩ := st
    exact wpAny_pyIter_enum he h
theorem call_enumS {l : Addr} {items : Array Value} {t : Tok} {Q : Value → Shared → Prop} (hL : s.heap.IsList l items)
    (h : ∀ h', IsEnum h' (s.heap.objs.size + 1) s.heap.objs.size 3 .none → h'.IsListIter s.heap.objs.size l 0 → (∀ b o, s.heap.get? b = some o → h'.get? b = some o) → Q (.ref (s.heap.objs.size + 1)) { s with heap := h' }) :
    wpAny (model prog w) A (call (.type "enumerate") [.ref l] [(("start" : Str), .int 3 t)]) Q E s := by
  obtain ⟨⟨k, dc, da, sl⟩, hl, hc, n, hd⟩ := hL
  cases (show k = .type "list" from hc)
  cases (show da = .seq items n from hd)
  refine callT_kw F.called_enumerate (by decide) (enum_ct _ _) (enum_cn _ _) (fun obj => enum_ini obj _ _) F.entry_enumerate_new (enumS_meets l items n dc sl t) ⟨hl, ?_⟩
  have hz : s.heap.objs.size + 1 = (s.heap.push { cls := .type "list_iterator", data := .fields #[.ref l, .int 0 0] }).objs.size := (Heap.size_push ..).symm
  show _ ∧ _
  rw [← hz]
  have he : IsEnum ((s.heap.push { cls := .type "list_iterator", data := .fields #[.ref l, .int 0 0] }).push { cls := .type "enumerate", data := .fields #[.none, .bool false, .ref s.heap.objs.size, rawInt 3, .none, .none] }) (s.heap.objs.size + 1) s.heap.objs.size 3 .none := by
    have := Heap.get?_push_size (s.heap.push { cls := .type "list_iterator", data := .fields #[.ref l, .int 0 0] }) (o := { cls := .type "enumerate", data := .fields #[.none, .bool false, .ref s.heap.objs.size, rawInt 3, .none, .none] }) rfl
    rwa [← hz] at this
  exact ⟨⟨_, he, rfl⟩, h _ he ⟨_, Heap.get?_push_of_some _ (Heap.get?_push_size _ rfl), rfl, rfl⟩ fun b o x => Heap.get?_push_of_some _ (Heap.get?_push_of_some _ x)⟩
end
section
variable {X : Cx}
def iEnumS (K : PySem.W.Frag) (ta : TA) : TI := fun σ H R => ta σ H fun vs H1 => ∃ a, vs = [.ref a] ∧ (∃ xs, SqL K H1 a xs) ∧ R (Ites K a) H1
theorem pi_enumS {l : Expr} {ta : TA} {es : List Expr} {k : Nat} {cp kp tp p pos : Pos} {c : Nat} (hg : Gl X "enumerate") (hm : X.mg "enumerate" = none) (ha : PA X [l] ta) (hs : starEach [l] X.env = [(false, eval l X.env)] := by rfl) :
    PI X (.Tuple es k tp) (.Call (.Name "enumerate" p) [l] [⟨some "start", .Constant (.int 3) c cp, kp⟩] pos) (iEnumS X.K ta) := by
  intro pins s σ H R I h
  refine wpAny_Call_Name_kw (ld_blt I hg hm bt_enumerate ?_)
  have hsp : backTo pos (starEach [l] X.env) = [(false, eval l X.env)] := by rw [hs]; rfl
  have h2 := ha pos pins s σ H _ I h
  rw [hsp] at h2 ⊢
  refine kwT (env := X.env) rfl rfl rfl (thn h2 fun us s1 ⟨vs, H1, I1, r1, q1⟩ => ?_)
  refine kws_cons (wpAny_Constant_int (kws_nil ?_))
  replace I1 := I1.tok (s1.toks + 1)
  obtain ⟨a, e, ⟨xs, hq⟩, q⟩ := q1
  subst e
  obtain ⟨u, rfl, ru⟩ := vals1 r1
  cases ru
  obtain ⟨its, rv, p, hz⟩ := I1.list hq
  refine call_enumS (s := { s1 with toks := s1.toks + 1 }) p.isList fun h' he hit hk => ?_
  refine wpAny_pyIter_enum he ?_
  refine ⟨s1.heap.objs.size + 1, [s1.heap.objs.size + 1, s1.heap.objs.size], _, _, H1, rfl, I1.kept (t' := s1.toks + 1) hk, turn_enumS a _ _ (Nat.succ_ne_self _), ⟨⟨_, he⟩, hit⟩, fun b hb => ?_, q⟩
  have hb' : s1.heap.objs.size ≤ b := by
    rcases List.mem_cons.mp hb with rfl | hb
    · exact Nat.le_succ _
    · have e3 : b = s1.heap.objs.size := by simpa using hb
      rw [e3]; exact Nat.le_refl _
  exact I1.fpOk hb' (I1.hok.fresh hb')
end
theorem compG_enumS {K : PySem.W.Frag} {a : Addr} {xs : List V} {g : TG} {tt : TT} {te : TE} {n : Nat} {fv : St} {H1 : Hp} {QQ : List V → Hp → Prop} (Pv : Nat → List V → Hp → Prop) (hz : xs.length ≤ sizeLine) (h0 : Pv 0 [] H1) (hl : ∀ i ys H, i ≤ xs.length → Pv i ys H → SqL K H a xs)
    (hs : ∀ i x ys H T, xs[i]? = some x → Pv i ys H → H T = none → g (.ref T) (List.replicate n none ++ fv) (upd H T (.tup [.int ((i + 3 : Nat) : Int), x])) fun σ2 H2 => σ2.drop n = fv ∧ tt σ2 H2 fun b H3 => if b = true then te σ2 H3 (fun y H4 => Pv (i + 1) (ys ++ [y]) H4) else Pv (i + 1) ys H3) (hd : ∀ ys H, Pv xs.length ys H → QQ ys H) (hy : ∀ i ys H, Pv i ys H → ys.length ≤ i)
    : tCompG g tt te n fv (Ites K a) H1 QQ := by
  refine ⟨fun i m ys H => m = xs.length - i ∧ i ≤ xs.length ∧ Pv i ys H, ⟨xs.length, by simp, Nat.zero_le _, h0⟩, ?_⟩
  rintro i m ys H ⟨rfl, hi, p⟩
  have q := hl i ys H hi p
  have hyl := hy i ys H p
  refine ⟨by omega, ?_⟩
  by_cases hlt : i < xs.length
  · refine .inr ⟨⟨xs, xs[i], q, by simp [hlt]⟩, fun zs H2 => Pv (i + 1) zs H2, fun zs H2 p2 => ⟨xs.length - (i + 1), by omega, rfl, hlt, p2⟩, fun v H' y => ?_⟩
    obtain ⟨T, x, hT, rfl, rfl, y⟩ := y
    exact hs i x ys _ T (y xs q) p hT
  · have e : i = xs.length := by omega
    subst e
    exact .inl ⟨⟨xs, q, Nat.le_refl _⟩, hd ys H p⟩
end L2

namespace L2
open PySem PySem.Spec PyProof.Rows
/-! ### texts: slices, index, times, a loop over the signs -/
section
variable {X : Cx}
theorem parts_of {v : Value} {o : Option Int} (h : IsPart v o) : ∃ l : Option (Int × Tok), v = partValue l ∧ l.map (·.1) = o := by
  cases h with
  | none => exact ⟨none, rfl, rfl⟩
  | int i t => exact ⟨some (i, t), rfl, rfl⟩
def rSlS : V → Option Int → Option Int → Hp → VK → Prop := fun x lo hi H Q => ∃ z : Str, x = .str z ∧ z.length ≤ sizeLine ∧ Q (.str (Txt.slice z lo hi)) H
theorem sl_str : SlR X rSlS := by
  intro pins s σ H x v vl vu lo hi sl Q I rx hs pl pu h
  obtain ⟨z, rfl, hz, q⟩ := h
  obtain ⟨t, rfl⟩ := rx
  obtain ⟨l, rfl, rfl⟩ := parts_of pl
  obtain ⟨u, rfl, rfl⟩ := parts_of pu
  refine ⟨"str", _, PySem.F.slot_str_getitem.lookup, typeIs_str _ _ _, wpAny_getItem_str_slice (l := l) (u := u) (st := none) hs rfl ?_⟩
  exact post_val_or_str ⟨Nat.le_trans (Txt.slice_le z _ _) hz, fun t' k => ⟨.str _, H, I.tok _, ⟨_, rfl⟩, q⟩⟩
/-- x.index(y), where y is in x -/
def rIndexS : V → List V → Hp → VK → Prop := fun x xs H Q => ∃ (z y : Str) (i : Nat) (r : List Nat), x = .str z ∧ xs = [.str y] ∧ Builtin.Str.occurrences z y 0 z.length 1 = i :: r ∧ Q (.int (i : Int)) H
theorem mt_indexS : MtM X "str.index" rIndexS := by
  intro pins s σ H x vs v us Q I rx rv h
  obtain ⟨z, y, i, r, rfl, rfl, e, q⟩ := h
  obtain ⟨t, rfl⟩ := rx
  obtain ⟨u, rfl, ru⟩ := rv.one
  obtain ⟨t', rfl⟩ := ru
  refine call_gives PySem.F.slot_str_index (typeIs_str _ _ _) PySem.F.entry_str_index (PySem.F.args_str_index_2 _ _) (gives_str_index z y t t' i r e) ?_
  exact ⟨.int (i : Int), H, I.tok _, ⟨_, rfl⟩, q⟩
theorem rep_size (a : Array Nat) : ∀ (n : Nat) (b : Array Nat), ((List.replicate n a).foldl (· ++ ·) b).size = b.size + n * a.size
  | 0, b => by simp
  | n + 1, b => by
    rw [List.replicate_succ, List.foldl_cons, rep_size a n, Array.size_append, Nat.succ_mul]
    omega
/-- x * n, n above one -/
theorem op_mul_str : OpR X (binaryOp .Mult) (fun x y H Q => ∃ (z : Str) (n : Nat), x = .str z ∧ y = .int (n : Int) ∧ 1 < n ∧ z.length ≠ 0 ∧ z.length * n ≤ 1000000 ∧ Q (.str ⟨(List.replicate n z.cps).foldl (· ++ ·) #[]⟩) H) := by
  intro pins s σ H x y v u Q I rx ry h
  obtain ⟨z, n, rfl, rfl, n1, z0, hz, q⟩ := h
  obtain ⟨t, rfl⟩ := rx
  obtain ⟨t', rfl⟩ := ry
  have nl : n ≤ 1000000 := Nat.le_trans (Nat.le_mul_of_pos_left n (Nat.pos_of_ne_zero z0)) hz
  have zl : z.length ≤ 1000000 := Nat.le_trans (Nat.le_mul_of_pos_right _ (by omega)) hz
  have c1 : ((n : Int) == 1 || z.length == 0) = false := by
    rw [Bool.or_eq_false_iff]
    exact ⟨by simp; omega, by simpa using z0⟩
  refine P.mul_str (by simp; omega) (fun _ _ => ?_) (fun _ _ => ?_) ?_
  · have : (1000000 : Int) ≤ (2 ^ 63 - 1) / (n : Int) := Int.le_ediv_of_mul_le (by omega) (by omega)
    omega
  · unfold Builtin.Str.tooLong
    have : (1000000 : Nat) ≤ sizeLine := by decide
    rw [Int.toNat_natCast]
    exact decide_eq_false (by omega)
  · rw [if_neg (by omega), c1, if_neg (by decide), Int.toNat_natCast]
    refine ⟨?_, .str _, H, I.tok _, ⟨_, rfl⟩, q⟩
    show ((List.replicate n z.cps).foldl (· ++ ·) #[]).size ≤ _
    rw [rep_size]
    have : (1000000 : Nat) ≤ sizeLine := by decide
    have e : n * z.cps.size = z.length * n := Nat.mul_comm _ _
    show 0 + n * z.cps.size ≤ _
    omega
end
theorem for_str {x : Str} {g : TG} {tb : TS} {D : Ends} {σ : St} {H : Hp} (Pv : Nat → St → Hp → Prop) (h0 : Pv 0 σ H)
    (hs : ∀ i c σ H, x.cps[i]? = some c → Pv i σ H → g (.str ⟨#[c]⟩) σ H fun σ2 H2 => tb { D with nx := Pv (i + 1), ct := Pv (i + 1), bk := D.nx } σ2 H2) (hd : ∀ σ H, Pv x.cps.size σ H → D.nx σ H) :
    ∃ W : Nat → Nat → St → Hp → Prop, (∃ m, W 0 m σ H) ∧ ∀ i m σ H, W i m σ H →
      ((Its x).stop i H ∧ D.nx σ H) ∨ ((Its x).go i H ∧ ∃ N : St → Hp → Prop, (∀ σ' H', N σ' H' → ∃ m', m' < m ∧ W (i + 1) m' σ' H') ∧ ∀ v H', (Its x).yld i H v H' → g v σ H' fun σ2 H2 => tb { D with nx := N, ct := N, bk := D.nx } σ2 H2) := by
  refine ⟨fun i m σ H => m = x.cps.size - i ∧ i ≤ x.cps.size ∧ Pv i σ H, ⟨x.cps.size, by simp, Nat.zero_le _, h0⟩, ?_⟩
  rintro i m σ H ⟨rfl, hi, p⟩
  by_cases hlt : i < x.cps.size
  · refine .inr ⟨hlt, Pv (i + 1), fun σ' H' p' => ⟨x.cps.size - (i + 1), by omega, rfl, hlt, p'⟩, fun v H' y => ?_⟩
    obtain ⟨rfl, c, hc, rfl⟩ := y
    exact hs i c σ _ hc p
  · have e : i = x.cps.size := by omega
    subst e
    exact .inl ⟨Nat.le_refl _, hd σ H p⟩
end L2

namespace L2
open PySem PySem.Spec PyProof.Rows PySem.Calls Builtin Builtin.ObjectAttr Builtin.Getset_descriptor
/-! ## isinstance of an error, with either answer -/
/-- of an object only its class is known -/
def KindAt (x D : Addr) (h : Heap) : Prop := ∃ o, h.get? x = some o ∧ o.cls = .ref D
theorem KindAt.type {x D : Addr} {h : Heap} (M : Model) (I : KindAt x D h) : PySem.W.Looks M h (typeOf (.ref x)) (.ref D) := by
  obtain ⟨o, a, b⟩ := I
  exact b ▸ (PySem.W.Looks.ld a).andThen .now
/-- a class whose `__class__` is the plain one -/
structure ErC (K : PySem.W.Frag) (D : Addr) : Prop where
  ga : PySem.W.findIn K (.ref D) "__getattribute__" = some (some (.builtin "BaseException.__getattribute__"))
  gt : PySem.W.findIn K (.ref D) "__getattr__" = some none
  hb : PySem.W.mroIn K D (.type "BaseException") = some true
  hd : PySem.W.hasDictIn K D = true
  ha : PySem.W.findIn K (.ref D) "__class__" = some (some (.builtin "object.__class__"))
  hn : PySem.W.specialIn K (.builtin "object.__class__") "__get__" = some (some (.builtin "getset_descriptor.__get__"))
  tk : PySem.W.takesIn K (.builtin "object.__class__") = some true
  hm : PySem.W.mroIn K D (.type "object") = some true
section
variable {prog : Program} {w : World} {A : Around} {E : Value → Shared → Prop} {s : Shared} {K : PySem.W.Frag} {x D : Addr}
theorem kd_find {M : Model} {h : Heap} (X : K.In h) (e : ErC K D) : PySem.W.Looks M h (find (.ref x) (.ref D) "__class__") (.bind (.builtin "getset_descriptor.__get__") (.builtin "object.__class__")) := by
  have L1 := PySem.W.looks_findIn (M := M) X e.ha
  have L2 := PySem.W.looks_specialIn (M := M) X e.hn
  have L3 := PySem.W.looks_takesIn (M := M) X e.tk
  refine L1.andThen (L2.andThen ?_)
  exact (show PySem.W.Looks M h (dataDescriptor? (some (.builtin "object.__class__")) (some (.builtin "getset_descriptor.__get__"))) (some (.builtin "getset_descriptor.__get__", .builtin "object.__class__")) from L3.andThen .now).andThen (PySem.W.Looks.tag .now)
theorem kd_get {R : Except Value Flow → Shared → Prop} {tp : Value} (X : K.In s.heap) (I : KindAt x D s.heap) (e : ErC K D)
    (h : R (.ok (.ret (.ref D))) s) : codeAny (model prog w) A (.call (.builtin "getset_descriptor.__get__") ⟨[.builtin "object.__class__", .ref x, tp], []⟩) R s := by
  obtain ⟨hh, g, dr, t, os⟩ := s
  have L0 := I.type (model prog w)
  have L1 := PySem.W.looks_mroIn (M := model prog w) X e.hm
  refine codeAny_call_builtin PySem.W.KF.slot_gs.plain PySem.W.KF.entry_gs (PySem.W.KF.slot_gs.check _ _ _ _ _ _ _ _ PySem.W.KF.type_class (PySem.W.KF.args_gs _ _ _) ?_)
  unfold Builtin.«getset_descriptor.__get__» descrGet
  rw [PySem.W.dga_obj]
  refine wpAny_bind (wpAny_pure ?_)
  unfold descrGetter descrCheckInstance descrNameAndClass isInstance
  simp only [PySem.W.KF.owner_class]
  repeat lk
  refine ⟨Code.quiet_builtin _ (by decide +kernel), codeAny_builtin PySem.W.KF.entry_class ?_⟩
  unfold Builtin.«object.__class__» shownTypeOf
  repeat lk
  exact h
theorem kd_check {M : Model} {nameV : Value} {Q : Unit → Shared → Prop} (X : K.In s.heap) (I : KindAt x D s.heap) (e : ErC K D) (hq : Q () s) : wpAny M A (checkBuiltinCall "BaseException.__getattribute__" ⟨[.ref x, nameV], []⟩) Q E s := by
  obtain ⟨hh, g, d, t, os⟩ := s
  have hk : builtinKind "BaseException.__getattribute__" = some .slot := by decide +kernel
  have hsplit : splitId "BaseException.__getattribute__" = some ("BaseException", "__getattribute__") := by decide +kernel
  have ha := F.args_bexc_ga (.ref x) nameV
  have L0 := I.type M
  have L1 := PySem.W.looks_mroIn (M := M) X e.hb
  have LI : PySem.W.Looks M hh (isInstance (.ref x) (.type "BaseException")) true := L0.andThen L1
  simp only [checkBuiltinCall, hk, hsplit]
  refine wpAny_bind (LI.at ?_)
  repeat (first | assumption | wp_step)
theorem kd_entry {tk : Tok} {Q : Fin → Shared → Prop} (X : K.In s.heap) (I : KindAt x D s.heap) (e : ErC K D) (h : Q (.done (.ret (.ref D))) s) : wpAny (model prog w) A (Builtin.«object.__getattribute__» ⟨[.ref x, .str "__class__" tk], []⟩) Q E s := by
  obtain ⟨hh, g, d, t, os⟩ := s
  have L0 := I.type (model prog w)
  have L2 := kd_find (x := x) (M := model prog w) X e
  unfold Builtin.«object.__getattribute__»
  repeat (first | assumption | with_reducible refine L0.at ?_ | with_reducible refine L2.at ?_ | with_reducible refine wpAny_call (kd_get (K := K) X I e ?_) | wp_step)
theorem kd_class {Q : Option Value → Shared → Prop} (X : K.In s.heap) (I : KindAt x D s.heap) (e : ErC K D) (h : Q (some (.ref D)) { s with toks := s.toks + 1 }) : wpAny (model prog w) A (getAttr? (.ref x) "__class__") Q E s := by
  obtain ⟨hh, g, d, t, os⟩ := s
  have L0 := I.type (model prog w)
  have L1 := PySem.W.looks_findIn (M := model prog w) X e.ga
  have L3 := PySem.W.looks_findIn (M := model prog w) X e.gt
  have f3 := F.excAttr_ValueError.ga.bind (.ref x)
  unfold getAttr? getAttrBy? getAttrBy
  refine wpAny_bind (wpAny_mkText (wpAny_bind (wpAny_attempt (wpAny_holding (wpAny_bind (L0.at (wpAny_bind (L1.at ?_))))))))
  show wpAny _ _ (getAttrByItsOwn _ _ _ _ _ _) _ _ _
  unfold getAttrByItsOwn
  refine wpAny_bind (show wpAny _ _ (typeLookup _ _) _ _ _ from L3.at ?_)
  refine wpAny_bind (wpAny_attempt (wpAny_holding ?_))
  show wpAny _ _ (boundAndCalled _ _ _) _ _ _
  unfold boundAndCalled
  rw [f3]
  refine wpAny_bind (wpAny_pure ?_)
  refine wpAny_call (codeAny_call_builtin F.excAttr_ValueError.ga.plain F.entry_bexc_ga (kd_check (s := ⟨hh, g, d, t + 1, os⟩) X I e (kd_entry (s := ⟨hh, g, d, t + 1, os⟩) X I e ?_)))
  exact wpAny_mono (PySem.W.handed_on rfl (Q := fun v s' => v = .ref D ∧ s' = ⟨hh, g, d, t + 1, os⟩) ⟨rfl, rfl⟩) (fun v s'' hv => by obtain ⟨rfl, rfl⟩ := hv; exact wpAny_pure h) (fun _ _ z => z)
theorem kitx_err (e : ErC K D) : PySem.W.KitX K (.ref x) (.ref D) (KindAt x D) where
  ty := fun M _ _ I => I.type M
  it := fun _ _ X _ => by
    obtain ⟨cdD, hcD, _⟩ := PySem.W.any_some e.hd
    unfold PySem.W.clsIn at hcD
    split at hcD
    · rename_i c' d' cd' sl' ho
      intro A' Q' E' s' k q
      unfold isType loadHead
      exact wpAny_bind (wpAny_loadPart (k _ _ (X _ _ ho)) (wpAny_pure q))
    · cases hcD
  ne := fun h tp dd its n sl X htp => by
    obtain ⟨cdD, hcD, _⟩ := PySem.W.any_some e.hd
    refine Bool.eq_false_iff.mpr fun q => ?_
    have e : D = tp := Value.ref.inj (beq_iff_eq.mp q)
    subst e
    unfold PySem.W.clsIn at hcD
    split at hcD
    · rename_i c' d' cd' sl' ho
      have z := (X _ _ ho).symm.trans htp
      cases z
    · cases hcD
  ca := fun X I k => kd_class X I e k
end
end L2

namespace L2
open PySem PySem.Spec PyProof.Rows
/-! ## what keeps the dicts of objects -/
/-- what was there has the dict that it had -/
structure DK (h h' : Heap) : Prop where
  le : h.objs.size ≤ h'.objs.size
  d : ∀ (e : Addr) (o' : Obj), e < h.objs.size → h'.get? e = some o' → ∃ o, h.get? e = some o ∧ o'.dict = o.dict
theorem DK.rfl' (h : Heap) : DK h h := ⟨Nat.le_refl _, fun _ o' _ q => ⟨o', q, rfl⟩⟩
theorem DK.trans {a b c : Heap} (x : DK a b) (y : DK b c) : DK a c := ⟨Nat.le_trans x.le y.le, fun e o' he q => by
  obtain ⟨o1, q1, d1⟩ := y.d e o' (Nat.lt_of_lt_of_le he x.le) q
  obtain ⟨o, q0, d0⟩ := x.d e o1 he q1
  exact ⟨o, q0, d1.trans d0⟩⟩
theorem DK.upd {h : Heap} {a : Addr} {f : Obj → Obj} (ha : (h.get? a).isSome) (hf : ∀ o, (f o).dict = o.dict) : DK h (h.update a f) := by
  refine ⟨Nat.le_of_eq (Heap.size_update ..).symm, fun e o' he q => ?_⟩
  by_cases z : a = e
  · subst z
    obtain ⟨o, q0⟩ := Option.isSome_iff_exists.mp ha
    obtain ⟨q1, _⟩ := Heap.get?_some_iff.mp q
    obtain ⟨q2, _⟩ := Heap.get?_some_iff.mp q0
    refine ⟨o, q0, ?_⟩
    cases h
    simp only [Heap.update, Array.getElem?_modify, if_true] at q1
    simp only at q2
    rw [q2] at q1
    cases q1
    exact hf o
  · rw [Heap.get?_update_other _ _ z] at q
    exact ⟨o', q, rfl⟩
theorem DK.psh (h : Heap) (o : Obj) : DK h (h.push o) := by
  refine ⟨by rw [Heap.size_push]; exact Nat.le_succ _, fun e o' he q => ?_⟩
  rw [Heap.get?_push_ne _ _ _ (Nat.ne_of_lt he)] at q
  exact ⟨o', q, rfl⟩
/-- a tree that calls nothing and changes no dict -/
def DSafe {α : Type} : Sem α → Prop
  | .pure _ => True
  | .raise _ => True
  | .unsupported _ => True
  | .finish _ => True
  | .rule _ k => DSafe (k ())
  | .at _ k => DSafe (k ())
  | .load _ _ k => ∀ o, DSafe (k o)
  | .update _ _ f k => (∀ o, (f o).dict = o.dict) ∧ DSafe (k ())
  | .alloc _ k => ∀ a, DSafe (k a)
  | .loadIfAlive _ k => ∀ o, DSafe (k o)
  | .point _ k => DSafe (k ())
  | .register _ _ => True
  | .fresh k => ∀ t, DSafe (k t)
  | .ask k => ∀ t, DSafe (k t)
  | .choose _ _ k => ∀ t, DSafe (k t)
  | .os _ _ k => ∀ t, DSafe (k t)
  | .call _ _ _ _ _ => False
  | .handled _ k => ∀ t, DSafe (k t)
  | .newGen _ k => ∀ t, DSafe (k t)
  | .genState _ k => ∀ t, DSafe (k t)
  | .resume _ _ _ _ => False
  | .yield _ _ _ _ => True
  | .stack k => ∀ t, DSafe (k t)
  | .fork _ _ => True
  | .thread k => ∀ t, DSafe (k t)
  | .await _ _ _ _ _ => True
theorem DSafe.bind {α β : Type} {m : Sem α} {f : α → Sem β} (hm : DSafe m) (hf : ∀ a, DSafe (f a)) : DSafe (m >>= f) := by
  show DSafe (m.bind f)
  induction m with
  | pure a => exact hf a
  | raise e => exact True.intro
  | unsupported w => exact True.intro
  | finish e => exact True.intro
  | rule t k ih => exact ih () hm
  | «at» p k ih => exact ih () hm
  | load a p k ih => exact fun o => ih o (hm o)
  | update a p g k ih => exact ⟨hm.1, ih () hm.2⟩
  | alloc o k ih => exact fun a => ih a (hm a)
  | loadIfAlive a k ih => exact fun o => ih o (hm o)
  | point l k ih => exact ih () hm
  | register a k ih => exact True.intro
  | fresh k ih => exact fun o => ih o (hm o)
  | ask k ih => exact fun o => ih o (hm o)
  | choose s n k ih => exact fun o => ih o (hm o)
  | os q l k ih => exact fun o => ih o (hm o)
  | call c h g l k ih => exact hm.elim
  | handled o k ih => exact fun o => ih o (hm o)
  | newGen c k ih => exact fun o => ih o (hm o)
  | genState g k ih => exact fun o => ih o (hm o)
  | resume g r l k ih => exact hm.elim
  | yield v g l k ih => exact True.intro
  | stack k ih => exact fun o => ih o (hm o)
  | fork c k ih => exact True.intro
  | thread k ih => exact fun o => ih o (hm o)
  | await a t d l k ih => exact True.intro
theorem dsafe_wp {α : Type} {M : Model} {Γ : PySem.Ctx} (m : Sem α) (hm : DSafe m) (Q : α → Pos → Shared → Prop) (E : Value → Pos → Shared → Prop) (p : Pos) (s : Shared) (h : Sem.wp M Γ m Q E p s) :
    Sem.wp M Γ m (fun a p' s' => Q a p' s' ∧ DK s.heap s'.heap) (fun e p' s' => E e p' s' ∧ DK s.heap s'.heap) p s := by
  have go : ∀ {m : Sem α} {p : Pos} {s s1 : Shared}, DK s.heap s1.heap → Sem.wp M Γ m (fun a p' s' => Q a p' s' ∧ DK s1.heap s'.heap) (fun e p' s' => E e p' s' ∧ DK s1.heap s'.heap) p s1 → Sem.wp M Γ m (fun a p' s' => Q a p' s' ∧ DK s.heap s'.heap) (fun e p' s' => E e p' s' ∧ DK s.heap s'.heap) p s1 :=
    fun {m p s s1} d z => Sem.wp_mono M Γ m (fun a p' s' q => ⟨q.1, d.trans q.2⟩) (fun a p' s' q => ⟨q.1, d.trans q.2⟩) p s1 z
  induction m generalizing p s with
  | pure a => rw [Sem.wp] at h ⊢; exact ⟨h, DK.rfl' _⟩
  | raise e => rw [Sem.wp] at h ⊢; exact ⟨h, DK.rfl' _⟩
  | unsupported w => rw [Sem.wp] at h; exact h.elim
  | finish e => rw [Sem.wp] at h; exact h.elim
  | rule t k ih => rw [Sem.wp] at h ⊢; exact ih () hm p s h
  | «at» p' k ih => rw [Sem.wp] at h ⊢; exact ih () hm p' s h
  | load a pt k ih => rw [Sem.wp] at h ⊢; obtain ⟨o, e, h⟩ := h; exact ⟨o, e, ih o (hm o) p s h⟩
  | update a pt g k ih => rw [Sem.wp] at h ⊢; exact ⟨h.1, go (DK.upd h.1 hm.1) (ih () hm.2 p _ h.2)⟩
  | alloc o k ih => rw [Sem.wp] at h ⊢; exact go (DK.psh _ _) (ih _ (hm _) p _ h)
  | loadIfAlive a k ih => rw [Sem.wp] at h ⊢; exact ih _ (hm _) p s h
  | point l k ih => rw [Sem.wp] at h ⊢; exact ih () hm p s h
  | register a k ih => rw [Sem.wp] at h; exact h.elim
  | fresh k ih => rw [Sem.wp] at h ⊢; exact ih _ (hm _) p _ h
  | ask k ih => rw [Sem.wp] at h ⊢; exact ih _ (hm _) p s h
  | choose sr n k ih => rw [Sem.wp] at h ⊢; exact ⟨h.1, ih _ (hm _) p _ h.2⟩
  | os q l k ih => rw [Sem.wp] at h ⊢; exact ih _ (hm _) p _ h
  | call c hh g l k ih => exact hm.elim
  | handled o k ih => rw [Sem.wp] at h ⊢; exact ih _ (hm _) p s h
  | newGen c k ih => rw [Sem.wp] at h ⊢; exact ih _ (hm _) p _ h
  | genState g k ih => rw [Sem.wp] at h ⊢; obtain ⟨o, e, h⟩ := h; exact ⟨o, e, ih _ (hm _) p s h⟩
  | resume g r l k ih => exact hm.elim
  | yield v g l k ih => rw [Sem.wp] at h; exact h.elim
  | stack k ih => rw [Sem.wp] at h ⊢; exact ih _ (hm _) p s h
  | fork c k ih => rw [Sem.wp] at h; exact h.elim
  | thread k ih => rw [Sem.wp] at h ⊢; exact ih _ (hm _) p s h
  | await a t d l k ih => rw [Sem.wp] at h; exact h.elim
theorem wpAny_dk {α : Type} {M : Model} {A : Around} {m : Sem α} (hm : DSafe m) {Q : α → Shared → Prop} {E : Value → Shared → Prop} {s : Shared} (h : wpAny M A m Q E s) : wpAny M A m (fun a s' => Q a s' ∧ DK s.heap s'.heap) (fun e s' => E e s' ∧ DK s.heap s'.heap) s :=
  fun Γ p hΓ => dsafe_wp m hm _ _ p s (h Γ p hΓ)
/-! ### the stations of an exception -/
theorem dsafe_pure {α : Type} (a : α) : DSafe (pure a : Sem α) := True.intro
theorem dsafe_uns {α : Type} (w : String) : DSafe (PySem.unsupported w : Sem α) := True.intro
theorem dsafe_ite {α : Type} {c : Prop} [Decidable c] {a b : Sem α} (ha : DSafe a) (hb : DSafe b) : DSafe (if c then a else b) := by split <;> assumption
theorem dsafe_load (a : Addr) : DSafe (load a) := fun _ => True.intro
theorem dsafe_stack : DSafe stack := fun _ => True.intro
theorem dsafe_fieldsOf (v : Value) : DSafe (fieldsOf v) := by
  unfold fieldsOf
  cases v with
  | ref a =>
    refine DSafe.bind (dsafe_load a) fun o => ?_
    cases o.data <;> exact True.intro
  | _ => exact True.intro
theorem dsafe_field (v : Value) (i : Nat) : DSafe (field v i) := by
  unfold field
  refine DSafe.bind (dsafe_fieldsOf v) fun vs => ?_
  cases vs[i]? <;> exact True.intro
theorem dsafe_setField (v : Value) (i : Nat) (x : Value) : DSafe (setField v i x) := by
  unfold setField
  cases v with
  | ref a =>
    show DSafe (updateField a i x)
    unfold updateField
    refine DSafe.bind (dsafe_load a) fun o => ?_
    cases o.data with
    | fields vs =>
      refine dsafe_ite ?_ (dsafe_uns _)
      refine ⟨fun o => ?_, True.intro⟩
      unfold Obj.mapFields
      split <;> rfl
    | _ => exact True.intro
  | _ => exact True.intro
theorem dsafe_setFlight (e : Value) (f : Option Addr) : DSafe (setFlight e f) := by
  unfold setFlight
  refine DSafe.bind (dsafe_field e 1) fun tb => ?_
  exact dsafe_ite (dsafe_setField _ _ _) (dsafe_pure _)
theorem dsafe_ready : ∀ l : List Env, DSafe (readyFrames l)
  | [] => True.intro
  | env :: outer => by
    unfold readyFrames
    cases env.frame with
    | none => exact True.intro
    | some f =>
      refine DSafe.bind (dsafe_load f) fun o => ?_
      refine dsafe_ite (dsafe_pure _) ?_
      refine DSafe.bind ?_ fun i => DSafe.bind ?_ fun b => DSafe.bind ⟨fun o => rfl, True.intro⟩ fun _ => dsafe_ready outer
      · unfold behindIsImport
        refine dsafe_ite (dsafe_pure _) (dsafe_ite (dsafe_pure _) (DSafe.bind (dsafe_field _ _) fun _ => dsafe_pure _))
      · unfold keptBack
        cases outer with
        | nil => exact dsafe_ite (dsafe_pure _) (DSafe.bind (by unfold underTheClaimsCaller; exact DSafe.bind dsafe_stack fun _ => dsafe_pure _) fun _ => dsafe_pure _)
        | cons c r => exact dsafe_pure _
theorem dsafe_frameOf (env : Env) : DSafe (PySem.frameOf env) := by
  unfold PySem.frameOf frameObject frameEnvs
  refine DSafe.bind (DSafe.bind dsafe_stack fun _ => dsafe_pure _) fun l => DSafe.bind ?_ fun o => ?_
  · cases (l.dropWhile fun x => x.frame != env.frame) with
    | nil => exact dsafe_pure _
    | cons e r => exact DSafe.bind (dsafe_ready _) fun _ => dsafe_pure _
  · cases o <;> exact True.intro
theorem dsafe_place (f : Addr) (b : Bool) : DSafe (entryPlaceOf f b) := by
  unfold entryPlaceOf
  refine DSafe.bind dsafe_stack fun acts => ?_
  split <;> exact True.intro
theorem dsafe_noteFrame (e : Value) (env : Env) : DSafe (noteFrame e env) := by
  unfold noteFrame
  cases env.frame with
  | none => exact True.intro
  | some f =>
    refine DSafe.bind (dsafe_field _ _) fun head => ?_
    have last : DSafe (do
        let a ← PySem.frameOf env
        let pl ← entryPlaceOf f (head != .none)
        let b ← EntryCells.newEntry head a .none (rawInt f) .none pl
        setField e 1 b) := by
      refine DSafe.bind (dsafe_frameOf env) fun a => DSafe.bind (dsafe_place _ _) fun pl => DSafe.bind ?_ fun b => dsafe_setField _ _ _
      unfold EntryCells.newEntry newFields newObj
      dsimp only
      have nw : ∀ d : Data, DSafe (newObjAsIs (.type "traceback") d) := fun d => DSafe.bind (fun _ => True.intro) fun _ => dsafe_pure _
      exact dsafe_ite (DSafe.bind (dsafe_uns _) fun _ => nw _) (nw _)
    refine dsafe_ite (DSafe.bind (dsafe_field _ _) fun z => dsafe_ite (dsafe_pure _) (DSafe.bind (dsafe_setField _ _ _) fun _ => last)) last
theorem dsafe_leaving (env : Env) (e : Value) : DSafe (leaving env e) := DSafe.bind (dsafe_noteFrame e env) fun _ => dsafe_setFlight e none
end L2

namespace L2
open PySem PySem.Spec PyProof.Rows
/-! ## exceptions whose dict is known -/
def Xd (h : Heap) (x : Addr) (d : Option Addr) : Prop := ∃ oe, h.get? x = some oe ∧ oe.dict = d
theorem Xd.dk {h h' : Heap} {x : Addr} {d : Option Addr} (z : Xd h x d) (k : DK h h') (ex : ∃ o, h'.get? x = some o) : Xd h' x d := by
  obtain ⟨oe, e, hd⟩ := z
  obtain ⟨o', e'⟩ := ex
  obtain ⟨o, e2, d2⟩ := k.d x o' (Heap.lt_size e) e'
  rw [e] at e2
  cases e2
  exact ⟨o', e', d2.trans hd⟩
theorem Trc.there {h : Heap} {x T : Addr} {C : Value} (t : Trc h x C T) : ∃ o, h.get? x = some o := by
  obtain ⟨oe, _, _, _, _, he, _⟩ := t
  exact ⟨oe, he⟩
/-- how it lies behind a call, with its dict -/
def CXd (P : Program) (w : World) : CXT := fun outer H s E e s' => ∃ (x : Addr) (C : Value) (T : Addr) (H' : Hp) (d : Option Addr), e = .ref x ∧ s'.os = s.os ∧ AllBare s'.gens ∧ Un (frs outer) [] H H' s.heap s'.heap ∧ HOk P w H' s'.heap ∧
  s.heap.get? x = none ∧ s.heap.get? T = none ∧ H' x = none ∧ H' T = none ∧ Trc s'.heap x C T ∧ Xd s'.heap x d ∧ E C d H'
abbrev WKD := Value → Option Addr → St → Hp → Prop
def WshD (X : Cx) (W : WKD) : Prop := ∀ (pins : List (Addr × Obj)) (σ : St) (H : Hp) (s : Shared) (x : Addr) (C : Value) (d : Option Addr), Inv X pins σ H s → XA X pins H s x C → Xd s.heap x d → W C d σ H → X.xe (.ref x) s
theorem wshD_cx {P : Program} {w : World} {K : PySem.W.Frag} {mg : Str → Option Value} {base : Heap} {N : List Str} {qual : Str} {scope : Scope} {f : Addr} {cd : Value} {A : Around} {outer : List Env} {s₀ : Shared} {H₀ : Hp} {E : XK} :
    WshD (cxOf (CXd P w) P w K mg base N qual scope f cd A outer s₀ H₀ E) (fun C d _ H => E C d H) := fun pins σ H s x C d I xa z hE => by
  show wpAny (model P w) (A.deeper (envOfC qual scope s₀.heap.objs.size f cd)) (leaving (envOfC qual scope s₀.heap.objs.size f cd) (.ref x)) _ _ s
  refine wpAny_mono (wpAny_dk (dsafe_leaving _ _) (Inv.leave (Q := fun _ s' => ∃ h' T, s' = { s with heap := h' } ∧ Inv (cxOf (CXd P w) P w K mg base N qual scope f cd A outer s₀ H₀ E) pins σ H { s with heap := h' } ∧ XOk (cxOf (CXd P w) P w K mg base N qual scope f cd A outer s₀ H₀ E) pins H x ∧ XOk (cxOf (CXd P w) P w K mg base N qual scope f cd A outer s₀ H₀ E) pins H T ∧ Trc h' x C T) (E := fun _ _ => False) I rfl rfl rfl xa fun h' T I' x1 xT tr => ⟨h', T, rfl, I', x1, xT, tr⟩)) ?_ (fun _ _ q => q.1.elim)
  rintro _ s' ⟨⟨h', T, rfl, I', x1, xT, tr⟩, dk⟩
  exact ⟨x, C, T, H, d, rfl, I'.os, I'.bare, I'.base, I'.hok, x1.old, xT.old, x1.trk, xT.trk, tr, z.dk dk tr.there, hE⟩
structure CalD (P : Program) (w : World) (K : PySem.W.Frag) (mg : Str → Option Value) (base : Heap) (k : Nat) (x : Str) (ps : List Str) (sp : Sp) (f : Addr) (fd : FuncData) : Prop where
  ok : FnOk P w K mg base (CXd P w) k f fd ps sp
  bn : Binds K fd ps []
  mg : mg x = some (.ref f)
  kp : PySem.W.keepIn K (.ref f) = true
theorem Fun.okD {P : Program} {w : World} {K : PySem.W.Frag} {mg : Str → Option Value} {base : Heap} {x qual : Str} {st : Stmt} {f : Addr} {fd : FuncData} {N ps : List Str} {k : Nat} {sp : Sp} (F : Fun K x qual st f fd) (S : FnScope N ps (defScope st)) (len : ∀ vs H Q E, sp vs H Q E → vs.length = ps.length)
    (hbody : ∀ (cdv : Value) (A : Around) (outer : List Env) (s : Shared) (H : Hp) (vs : List V) (Q : VK) (E : XK), Room k (A.deeper (envOfC qual (defScope st) s.heap.objs.size f cdv)) → sp vs H Q E →
      ∃ t, PSs (cxOf (CXd P w) P w K mg base N qual (defScope st) f cdv A outer s H E) (defBody st) t ∧ t { nx := fun _ H' => Q .non H', rt := Q } (start N vs) H) : FnOk P w K mg base (CXd P w) (k + 1) f fd ps sp := by
  obtain ⟨oc, od, kV, doc, pm, an, cdv, ct, osl, rfl, lk, hcd⟩ := F.ex
  exact fn_of lk hcd S len fun A outer s H vs Q E hr hsp => hbody cdv A outer s H vs Q E hr hsp
section
variable {X : Cx} {k : Nat} {f C : Addr} {fd : FuncData} {ps : List Str} {sp : Sp} {dvs : List V} {ds : List Value} {W : WKD} {x m : Str} {p pos apos : Pos} {e o : Expr} {es : List Expr} {ta : TE} {t : TA}
theorem WshD.of {pins : List (Addr × Obj)} {σ : St} {H : Hp} {s s' : Shared} {v : Value} (ws : WshD X W) (hx : X.ex = []) (I : Inv X pins σ H s) (h : CXd X.prog X.w X.stack H s (fun C d H' => W C d σ H') v s') : X.xe v s' := by
  obtain ⟨x, C, T, H', d, rfl, os, bare, un, hok, nx, nT, tx, tT, tr, z, q⟩ := h
  have I' : Inv X pins σ H' s' := I.call' os un hok bare fun b z => absurd z (by simp)
  exact ws pins σ H' s' x C d I' ⟨I.xok hx nx tx, .inr ⟨T, I.xok hx nT tT, tr⟩⟩ z q
theorem run_fnD {pins : List (Addr × Obj)} {σ : St} {H : Hp} {s : Shared} {Q : VK} {us : List Value} {vs : List V} (F : FnOk X.prog X.w X.K X.mg X.base (CXd X.prog X.w) k f fd ps sp) (hr : Room k X.A) (hb : Binds X.K fd ps ds) (hd : Vals dvs ds) (ws : WshD X W) (hx : X.ex = [])
    (I : Inv X pins σ H s) (r : Vals vs us) (h : sp (vs ++ dvs) H Q (fun C d H' => W C d σ H')) : wpAny (model X.prog X.w) X.A (call (.ref f) us) (EP X pins σ Q) X.xe s := by
  have r2 : Vals (vs ++ dvs) (us ++ ds) := r.append hd
  have hl : (us ++ ds).length = ps.length := by rw [← r2.length]; exact F.len _ _ _ _ h
  refine wpAny_call (codeAny_mono (F.run X.A X.stack s H ⟨us, []⟩ (us ++ ds) (vs ++ dvs) Q _ hr I.env0 (hb s us I.kIn hl) r2 h) fun r s' hq => ?_)
  cases r with
  | error e => exact ws.of hx I hq
  | ok fl =>
    cases fl with
    | ret u => exact I.after hq
    | next => exact False.elim hq
    | brk => exact False.elim hq
    | cont => exact False.elim hq
def tCallD (sp : Sp) (dvs : List V) (W : WKD) (t : TA) : TE := fun σ H Q => t σ H fun vs H1 => sp (vs ++ dvs) H1 Q fun C d H' => W C d σ H'
theorem pe_callD (F : FnOk X.prog X.w X.K X.mg X.base (CXd X.prog X.w) k f fd ps sp) (hr : Room k X.A) (hg : Gl X x) (hm : X.mg x = some (.ref f)) (hk : PySem.W.keepIn X.K (.ref f) = true) (hb : Binds X.K fd ps ds) (hd : Vals dvs ds) (ws : WshD X W) (hx : X.ex = [])
    (ha : PA X (e :: es) t) (hdb : (x == ("__debug__" : Str)) = false := by decide) (he : starEach (e :: es) X.env = (false, eval e X.env) :: starEach es X.env := by rfl) (hpl : (backTo pos (starEach es X.env)).any (·.1) = false := by rfl) :
    PE X (.Call (.Name x p) (e :: es) [] pos) (tCallD sp dvs W t) := by
  intro pins s σ H Q I h
  refine wpAny_Call_Name_kw (ld_glob I hg hm ?_ hdb)
  refine PySem.W.callWith_K (h₀ := X.base) I.ok.mod.kin hk (thn (ha pos pins s σ H _ I h) fun us s1 ⟨vs, H1, I1, r, q⟩ => ⟨I1.kIn, ?_⟩) he hpl
  exact run_fnD F hr hb hd ws hx I1 r q
end
/-- what is wanted of the exceptions of callees, in a try -/
def WshTD (X : Cx) (W : WKD) : Prop := ∀ (pins : List (Addr × Obj)) (σ : St) (H : Hp) (s : Shared) (x T : Addr) (C : Value) (d : Option Addr), Inv X pins σ H s → XOk X pins H x → XOk X pins H T → Trc s.heap x C T → Xd s.heap x d → W C d σ H → X.xe (.ref x) s
section
variable {X : Cx} {k : Nat} {f : Addr} {fd : FuncData} {ps : List Str} {sp : Sp} {dvs : List V} {ds : List Value} {W : WKD} {x : Str} {p pos : Pos} {e : Expr} {es : List Expr} {t : TA}
theorem pe_callTD (F : FnOk X.prog X.w X.K X.mg X.base (CXd X.prog X.w) k f fd ps sp) (hr : Room k X.A) (hg : Gl X x) (hm : X.mg x = some (.ref f)) (hk : PySem.W.keepIn X.K (.ref f) = true) (hb : Binds X.K fd ps ds) (hd : Vals dvs ds) (ws : WshTD X W) (hx : X.ex = [])
    (ha : PA X (e :: es) t) (hdb : (x == ("__debug__" : Str)) = false := by decide) (he : starEach (e :: es) X.env = (false, eval e X.env) :: starEach es X.env := by rfl) (hpl : (backTo pos (starEach es X.env)).any (·.1) = false := by rfl) :
    PE X (.Call (.Name x p) (e :: es) [] pos) (tCallD sp dvs W t) := by
  intro pins s σ H Q I h
  refine wpAny_Call_Name_kw (ld_glob I hg hm ?_ hdb)
  refine PySem.W.callWith_K (h₀ := X.base) I.ok.mod.kin hk (thn (ha pos pins s σ H _ I h) fun us s1 ⟨vs, H1, I1, r, q⟩ => ⟨I1.kIn, ?_⟩) he hpl
  have r2 : Vals (vs ++ dvs) (us ++ ds) := r.append hd
  have hl : (us ++ ds).length = ps.length := by rw [← r2.length]; exact F.len _ _ _ _ q
  refine wpAny_call (codeAny_mono (F.run X.A X.stack s1 H1 ⟨us, []⟩ (us ++ ds) (vs ++ dvs) Q _ hr I1.env0 (hb s1 us I1.kIn hl) r2 q) fun r s' hq => ?_)
  cases r with
  | error e =>
    obtain ⟨x, C, T, H', d, rfl, os, bare, un, hok, nx, nT, tx, tT, tr, z, q'⟩ := hq
    have I' : Inv X pins σ H' s' := I1.call' os un hok bare fun b z => absurd z (by simp)
    exact ws pins σ H' s' x T C d I' (I1.xok hx nx tx) (I1.xok hx nT tT) tr z q'
  | ok fl =>
    cases fl with
    | ret u => exact I1.after hq
    | next => exact False.elim hq
    | brk => exact False.elim hq
    | cont => exact False.elim hq
end
section
variable {M : Model} {A : Around} {E : Value → Shared → Prop} {h : Heap} {g : Array GenState} {d : Drawn} {t : Nat} {os : OsState}
theorem exc_upM {C D : Addr} {nm2 qn2 : Str} {N2 : Addr} {bs2 bm2 : List Value} {hdct2 : Bool} {sn2 : List Str} {sub2 : List Value} {ab2 : Bool} {col2 : Option Bool} {dd2 : Option Addr} {j0 j1 j2 j3 j5 : Option Value} {id2 : String} {x : Addr} {ob : Obj} {Q : Bool → Shared → Prop}
    (hD : h.get? D = some (excClassObj nm2 qn2 D N2 bs2 bm2 hdct2 sn2 sub2 ab2 col2 dd2 j0 j1 j2 j3 j5 id2)) (hob : h.get? x = some ob) (hcl : ob.cls = .ref C)
    (hDB : (Value.ref D :: bm2).contains (.type "BaseException") = true) (lk : PySem.W.Looks M h (isSubtype (.ref C) (.ref D)) true) (hq : Q true ⟨h, g, d, t, os⟩) : wpAny M A (excMatches (.ref x) (.ref D)) Q E ⟨h, g, d, t, os⟩ := by
  have ntup := tc_notTuple
  unfold excMatches
  repeat (first | (with_reducible refine wpAny_loadPart_at hob ?_; rw [hcl]) | with_reducible refine wpAny_loadPart_at hD ?_ | (with_reducible refine wpAny_isSubtype_exc hD ?_; rw [hDB]) | with_reducible refine lk.at ?_ | wp_step)
  exact hq
end
/-- an error that was caught, with its dict -/
def excD (x C : Addr) (d : Option Addr) : HO := .ext fun h => ∃ o, h.get? x = some o ∧ o.cls = .ref C ∧ o.dict = d ∧ PySem.W.notCls o = true
def tTryAsD (ie : Nat) (Cs : Addr → Prop) (tb : WKD → TS) (ts : TS) : TS := fun Ds σ H => tb (fun C d σ1 H1 => ∃ c, C = .ref c ∧ Cs c ∧ ∀ x, H1 x = none → ts { nx := fun σ2 H2 => Ds.nx (σ2.set ie none) H2, rt := fun _ _ => False } (σ1.set ie (some (.ref x))) (upd H1 x (excD x c d))) Ds σ H
end L2

namespace L2
open PySem PySem.Spec PyProof.Rows PySem.Calls Builtin Builtin.ObjectAttr
/-! ## errors with an own __init__ that stores into the error -/
def excInI (K : PySem.W.Frag) (C fI : Addr) : Bool := match K.lookup C with
  | some ⟨.type "type", _, .cls cd, sl⟩ => (match cd.mro, sl.toList with
    | .ref C' :: bm, [_, _, _, _, some (.builtin n), _] => C' == C && n == "ValueError.__new__" && !cd.hasDel && PySem.W.tailIn K veM bm && PySem.W.nsOkIn K cd.ns && PySem.W.nsIn K cd.ns "__init__" == some (some (.ref fI))
    | _, _ => false)
  | _ => false
theorem ns_some_of {K : PySem.W.Frag} {h : Heap} {N : Addr} {mg : Str → Option Value} {n : Str} {v : Value} (X : K.In h) (G : h.Ns N mg) (e : PySem.W.nsIn K N n = some (some v)) : mg n = some v := by
  obtain ⟨o, es, ep, ho, hd, _, hf⟩ := G
  unfold PySem.W.nsIn at e
  split at e
  · rename_i c d es' n' sl q
    have := X _ _ q
    rw [ho] at this
    cases this
    cases hd
    split at e
    · rename_i en he
      cases e
      rw [← hf]
      unfold nsFind findBy
      rw [← Array.find?_toList, he]
      rfl
    · split at e <;> cases e
  · cases e
theorem exc_objI {K : PySem.W.Frag} {C fI : Addr} {h : Heap} (e : excInI K C fI = true) (X : K.In h) : ∃ bm N nm qn bs hdct sn sub ab col dd k0 k1 k2 k3 k5 mN, h.get? C = some (excClassObj nm qn C N bs bm hdct sn sub ab col dd k0 k1 k2 k3 k5 "ValueError.__new__") ∧ h.Ns N mN ∧ mN "__init__" = some (.ref fI) ∧ OwnTail h veM bm := by
  have z := e
  unfold excInI at z
  split at z
  · rename_i ddx cdx slx hobj
    split at z
    · rename_i Cx bmx y0 y1 y2 y3 nx y5 hmro hslots
      have zz := z
      simp only [Bool.and_eq_true, beq_iff_eq, Bool.not_eq_true'] at zz
      obtain ⟨⟨⟨⟨⟨eC, eN⟩, edel⟩, etail⟩, ens⟩, einit⟩ := zz
      subst eC
      subst eN
      obtain ⟨l⟩ := slx
      have hl : l = [y0, y1, y2, y3, some (.builtin "ValueError.__new__"), y5] := hslots
      subst hl
      obtain ⟨nm, bs, mro, ns, qn, hd, sn, sub, ab, col, del⟩ := cdx
      have hmro' : mro = .ref Cx :: bmx := hmro
      have hdel' : del = false := edel
      subst hmro' hdel'
      have N := PySem.W.isNs_of_in X ens
      refine ⟨bmx, ns, nm, qn, bs, hd, sn, sub, ab, col, ddx, y0, y1, y2, y3, y5, _, X _ _ hobj, .of_isNs N, ?_, PySem.W.tail_of_in X etail⟩
      exact ns_some_of X (.of_isNs N) einit
    · cases z
  · cases z
section
variable {prog : Program} {w : World} {A : Around} {E : Value → Shared → Prop} {h : Heap} {g : Array GenState} {d : Drawn} {t : Nat} {os : OsState}
variable {nm q : Str} {C N : Addr} {bs bm bmB : List Value} {hdct : Bool} {sn : List Str} {sub : List Value} {ab : Bool} {col : Option Bool} {dd : Option Addr} {k0 k1 k2 k3 k5 : Option Value} {B newId initId : String}
theorem type_call_init (F : ExcBaseFacts B newId initId bmB) (T : OwnTail h bmB bm) {mN : Str → Option Value} {rest : List Value} {fI : Addr} {oI : Obj} {Q : Fin → Shared → Prop}
    (hC : h.get? C = some (excClassObj nm q C N bs bm hdct sn sub ab col dd k0 k1 k2 k3 k5 newId)) (hn : h.Ns N mN) (hi : mN "__init__" = some (.ref fI))
    (hfI : h.get? fI = some oI) (hfc : oI.cls = .type "function")
    (hq : ∀ h' e, Heap.MadeExcOf h h' e (.ref C) rest →
      wpAny (model prog w) A (call (.ref fI) (.ref e :: rest)) (fun r s' => r = .none ∧ Q (.done (.ret (.ref e))) s') E ⟨h', g, d, t, os⟩) (hrest : rest.length ≤ sizeLine) :
    wpAny (model prog w) A (Builtin.«type.__call__» ⟨.ref C :: rest, []⟩) Q E ⟨h, g, d, t, os⟩ := by
  repeat (first | with_reducible refine wpAny_loadPart_at hC ?_ | with_reducible refine wpAny_madeBy_exc hC ?_ | wp_step)
  refine codeAny_call_builtin_code (Code.quiet_builtin _ F.quiet) (wpAny_check_new_subT F T hC ?_)
  refine codeAny_exc_new_subT F T hC ?_ hrest
  show wpAny _ _ _ _ _ _
  have hC₁ := Heap.get?_push_of_some { cls := .ref C, data := .fields #[.ref h.objs.size, .none, .none, .none, .bool false, .none] }
    (Heap.get?_push_of_some { cls := .type "tuple", data := .seq rest.toArray } hC)
  have hfI₁ := Heap.get?_push_of_some { cls := .ref C, data := .fields #[.ref h.objs.size, .none, .none, .none, .bool false, .none] }
    (Heap.get?_push_of_some { cls := .type "tuple", data := .seq rest.toArray } hfI)
  have hn₁ : ((h.push { cls := .type "tuple", data := .seq rest.toArray }).push { cls := .ref C, data := .fields #[.ref h.objs.size, .none, .none, .none, .bool false, .none] }).Ns N mN :=
    let ⟨o, es, ep, e, r⟩ := hn; ⟨o, es, ep, Heap.get?_push_of_some _ (Heap.get?_push_of_some _ e), r⟩
  have hget : ((h.push { cls := .type "tuple", data := .seq rest.toArray }).push
      { cls := .ref C, data := .fields #[.ref h.objs.size, .none, .none, .none, .bool false, .none] }).get? (h.objs.size + 1) = some
      { cls := .ref C, data := .fields #[.ref h.objs.size, .none, .none, .none, .bool false, .none] } := by heap_get
  have T₁ := T.keeps (h' := (h.push { cls := .type "tuple", data := .seq rest.toArray }).push { cls := .ref C, data := .fields #[.ref h.objs.size, .none, .none, .none, .bool false, .none] })
    fun b o e => Heap.get?_push_of_some _ (Heap.get?_push_of_some _ e)
  have hcC : (Value.ref C :: bm).contains (.ref C) = true := by simp
  unfold isInstance
  repeat (first | with_reducible refine wpAny_loadPart_at hget ?_ | (with_reducible refine wpAny_isSubtype_exc hC₁ ?_; rw [hcC]) | wp_step)
  show wpAny _ _ (typeLookup (.ref C) _) _ _ _
  refine wpAny_typeLookup_tail hC₁ hn₁ T₁ F.mroIs F.init.lookup ?_
  rw [hi]
  refine wpAny_holding (wpAny_bind ?_)
  unfold bindSpecial
  refine wpAny_bind (wpAny_typeOf (T := "function") ⟨_, hfI₁, hfc⟩ ?_)
  rw [if_pos (by decide)]
  refine wpAny_pure (wpAny_bind (wpAny_mono (hq _ (h.objs.size + 1) ⟨fun b o hb => Heap.get?_push_of_some _ (Heap.get?_push_of_some _ hb), Heap.get?_none_of_le (Nat.le_succ _), h.objs.size, hget, Heap.get?_none_of_le (Nat.le_refl _), ?_⟩) (fun r s' hr => ?_) fun _ _ x => x))
  · exact Heap.get?_push_of_some _ (Heap.get?_push_at rfl rfl)
  · obtain ⟨rfl, hQ⟩ := hr
    wp_walk
    exact hQ
theorem call_initT (F : ExcBaseFacts B newId initId bmB) (T : OwnTail h bmB bm) {mN : Str → Option Value} {rest : List Value} {fI : Addr} {oI : Obj} {Q : Value → Shared → Prop}
    (hC : h.get? C = some (excClassObj nm q C N bs bm hdct sn sub ab col dd k0 k1 k2 k3 k5 newId)) (hn : h.Ns N mN) (hi : mN "__init__" = some (.ref fI))
    (hfI : h.get? fI = some oI) (hfc : oI.cls = .type "function")
    (hq : ∀ h' e, Heap.MadeExcOf h h' e (.ref C) rest →
      wpAny (model prog w) (A.under (.builtin "type.__call__" ⟨.ref C :: rest, []⟩)) (call (.ref fI) (.ref e :: rest)) (fun r s' => r = .none ∧ Q (.ref e) s') E ⟨h', g, d, t, os⟩) (hrest : rest.length ≤ sizeLine) :
    wpAny (model prog w) A (call (.ref C) rest) Q E ⟨h, g, d, t, os⟩ := by
  have f1 := tc_lookup
  have f2 := tc_bind (.ref C)
  have hT : (⟨h, g, d, t, os⟩ : Shared).TypeIs (.ref C) "type" := ⟨_, hC, rfl⟩
  refine wpAny_call (codeAny_of_tree ?_)
  show wpAny _ _ (callAny (.ref C) _) _ _ _
  repeat (any_goals (first | assumption | with_reducible refine wpAny_loadPart_at hC ?_ | wp_step))
  refine ⟨rfl, ?_⟩
  refine codeAny_call_builtin_at (Code.quiet_builtin _ (by decide +kernel)) entry_typeCall (wpAny_check_type_call_sub hC (type_call_init F T hC hn hi hfI hfc (fun h' e hm => ?_) hrest))
  exact hq h' e hm
theorem raise_made {M : Model} {env : Env} {s : Shared} {x : Sem Value} {Q : Flow → Shared → Prop} (hbase : bm.contains (.type "BaseException") = true) (hh : A.handled = none)
    (h : wpAny M A x (fun v s₁ => ∃ e oe, v = .ref e ∧ s₁.heap.get? C = some (excClassObj nm q C N bs bm hdct sn sub ab col dd k0 k1 k2 k3 k5 newId) ∧
      s₁.heap.get? e = some oe ∧ oe.cls = .ref C ∧ (∃ vs, oe.data = .fields vs ∧ vs[1]? = some .none) ∧ E (.ref e) s₁) E s) :
    wpAny M A (raiseStmt env (some x) none) Q E s := by
  have hcB : (Value.ref C :: bm).contains (.type "BaseException") = true := by rw [List.contains_cons, hbase, Bool.or_true]
  unfold raiseStmt
  refine wpAny_bind (wpAny_mono h (fun v s₁ h₁ => ?_) fun _ _ x => x)
  obtain ⟨e, oe, rfl, hC, he, hcl, ⟨vs, hdt, hv1⟩, hE⟩ := h₁
  obtain ⟨hp, g, d, tk, os⟩ := s₁
  obtain ⟨oc, odd, odt, osl⟩ := oe
  cases hcl
  cases hdt
  repeat (first | with_reducible refine wpAny_loadPart_at he ?_ | with_reducible refine wpAny_loadPart_at hC ?_ | (with_reducible refine wpAny_isSubtype_exc hC ?_; rw [hcB]) | wp_step)
  rw [hv1]
  refine wpAny_pure ?_
  rw [if_neg (by decide)]
  exact wpAny_pure (wpAny_raiseNew_none hh hE)
end
/-! ### the store -/
/-- a new error: its fields as made, its dict -/
def excN (x C : Addr) (d : Option Addr) : HO := .ext fun h => ∃ o vs a0, h.get? x = some o ∧ o.cls = .ref C ∧ o.dict = d ∧ o.data = .fields vs ∧ vs[0]? = some a0 ∧ vs[1]? = some .none
theorem excN_ok {P : Program} {w : World} {H : Hp} {h : Heap} {x C : Addr} {d : Option Addr} (e : ∃ o vs a0, h.get? x = some o ∧ o.cls = .ref C ∧ o.dict = d ∧ o.data = .fields vs ∧ vs[0]? = some a0 ∧ vs[1]? = some .none) : ObjOk P w H h x (excN x C d) := by
  refine ⟨e, let ⟨o, _, _, q, _⟩ := e; ⟨o, q⟩, fun h1 h2 ⟨o, vs, a0, q, r⟩ k => ⟨o, vs, a0, k o q, r⟩⟩
theorem tail_refuse {h : Heap} {tl : List Value} (T : OwnTail h veM tl) (self : Value) : refuseLoop self "__setattr__" tl = pure () := by
  induction T with
  | base => exact PySem.F.store_ValueError.passes self
  | own _ _ _ _ ih => rw [refuseLoop_ref, ih]
/-- a class of errors into whose errors `f` may be stored -/
structure ErS (K : PySem.W.Frag) (C fI : Addr) (f : Str) : Prop where
  ei : excInI K C fI = true
  sa : PySem.W.findIn K (.ref C) "__setattr__" = some (some (.builtin "object.__setattr__"))
  na : PySem.W.findIn K (.ref C) f = some none
  hd : PySem.W.hasDictIn K C = true
section
variable {prog : Program} {w : World} {A : Around} {E : Value → Shared → Prop} {s : Shared} {K : PySem.W.Frag} {x C fI : Addr} {name : Str} {v : Value}
theorem setE_check {M : Model} {nameV : Value} {Q : Unit → Shared → Prop} (X : K.In s.heap) (I : KindAt x C s.heap) (e : excInI K C fI = true) (hq : Q () s) : wpAny M A (checkBuiltinCall "object.__setattr__" ⟨[.ref x, nameV, v], []⟩) Q E s := by
  obtain ⟨hh, g, d, t, os⟩ := s
  obtain ⟨bm, N, nm, qn, bs, hdct, sn, sub, ab, col, dd, k0, k1, k2, k3, k5, mN, hC, hN, hi, T⟩ := exc_objI e X
  have SF := PySem.F.store_ValueError
  have ha := SF.args (.ref x) nameV v
  obtain ⟨o, hx, hc⟩ := I
  have hcB : (Value.ref C :: bm).contains (.type "object") = true := by rw [List.contains_cons, T.hasType (X := "object") (b := true) rfl, Bool.or_true]
  simp only [checkBuiltinCall, SF.kind, SF.split]
  refine wpAny_bind ?_
  · unfold isInstance
    repeat (first | (with_reducible refine wpAny_loadPart_at hx ?_; rw [hc]) | (with_reducible refine wpAny_isSubtype_exc hC ?_; rw [hcB]) | wp_step)
    exact hq
theorem setE {Q : Unit → Shared → Prop} {o : Obj} (X : K.In s.heap) (hx : s.heap.get? x = some o) (hc : o.cls = .ref C) (hdn : o.dict = none) (hnc : ∀ c, o.data ≠ .cls c) (e : ErS K C fI name)
    (hq : ∀ h' tk', h'.get? x = some { o with dict := some s.heap.objs.size } → h'.Ns1 s.heap.objs.size (fun y => if y = name then some v else none) → (∀ b ob, b ≠ x → s.heap.get? b = some ob → h'.get? b = some ob) → Q () { s with heap := h', toks := tk' }) :
    wpAny (model prog w) A (setAttr (.ref x) name v) Q E s := by
  obtain ⟨h, g, d, t, os⟩ := s
  have I : KindAt x C h := ⟨o, hx, hc⟩
  obtain ⟨bm, N, nm, qn, bs, hdct, sn, sub, ab, col, dd, k0, k1, k2, k3, k5, mN, hC, hN, hi, T⟩ := exc_objI e.ei X
  have L0 := I.type (model prog w)
  have L1 := PySem.W.looks_findIn (M := model prog w) X e.sa
  have L2 := PySem.W.looks_findIn (M := model prog w) X e.na
  have SF := PySem.F.store_ValueError
  have hpass := tail_refuse T (.ref x)
  obtain ⟨cd, hcl, hhd⟩ := PySem.W.any_some e.hd
  have L3 := PySem.W.looks_clsIn (M := model prog w) X hcl
  refine wpAny_bind (wpAny_mkText (wpAny_bind (wpAny_bind (wpAny_bind (L0 _ _ _ _ (fun _ _ e => e) (L1 _ _ _ _ (fun _ _ e => e) (wpAny_holding ?_)))))))
  rw [SF.slot.bind]
  refine wpAny_bind (wpAny_pure (wpAny_bind (wpAny_call (codeAny_call_builtin SF.slot.plain SF.entry (setE_check (s := ⟨h, g, d, t + 1, os⟩) X I e.ei ?_)))))
  unfold Builtin.«object.__setattr__»
  repeat (first | rw [refuse_eq] | (rw [refuseLoop_ref, hpass]) | with_reducible refine L0.at ?_ | with_reducible refine wpAny_mroOf_exc hC ?_ | with_reducible refine L2.at ?_ | wp_step)
  obtain ⟨oc, odd, odt, osl⟩ := o
  have hc' : oc = .ref C := hc
  have hdn' : odd = none := hdn
  subst hc' hdn'
  dsimp only
  refine wpAny_bind (L3.at ?_)
  rw [hhd]
  have hx₁ : (h.push { cls := .type "dict", data := .dict #[] }).get? x = some ⟨.ref C, none, odt, osl⟩ := Heap.get?_push_of_some _ hx
  have hxs : x ≠ h.objs.size := Nat.ne_of_lt (Heap.lt_size hx)
  rw [if_neg (by decide)]
  dsimp only
  rw [if_neg (by simp [typeHasDict])]
  have go : ∀ (Q' : Option Addr → Shared → Prop) (E' : Value → Shared → Prop), Q' (some h.objs.size) ⟨(h.push { cls := .type "dict", data := .dict #[] }).update x fun o => { cls := o.cls, dict := some h.objs.size, data := o.data, slots := o.slots }, g, d, t + 1, os⟩ →
      wpAny (model prog w) A.in1 (do
        let d ← alloc { cls := Value.type "dict", data := Data.dict #[] }
        update x fun o => { cls := o.cls, dict := some d, data := o.data, slots := o.slots }
        dictMade (.ref C) x d) Q' E' ⟨h, g, d, t + 1, os⟩ := fun Q' E' hq' => wpAny_bind (wpAny_alloc' (wpAny_bind (wpAny_update' hx₁ (wpAny_pure hq'))))
  have hgd : ((h.push { cls := .type "dict", data := .dict #[] }).update x fun o => { cls := o.cls, dict := some h.objs.size, data := o.data, slots := o.slots }).get? h.objs.size
      = some { cls := .type "dict", data := .dict #[] } :=
    (Heap.get?_update_ne _ _ _ _ hxs.symm).trans (Heap.get?_push_at rfl rfl)
  have hnd : ((h.push { cls := .type "dict", data := .dict #[] }).update x fun o => { cls := o.cls, dict := some h.objs.size, data := o.data, slots := o.slots }).Ns h.objs.size (fun _ => none) :=
    ⟨_, #[], _, hgd, rfl, fun e he => absurd he (by simp), fun _ => rfl⟩
  have fin : ∀ {E'}, wpAny (model prog w) A.in1 (storeInDict h.objs.size (.str name t) name v)
      (fun fin s' => match fin with | .done (.ret _) => Q () s' | _ => False) E' ⟨(h.push { cls := .type "dict", data := .dict #[] }).update x fun o => { cls := o.cls, dict := some h.objs.size, data := o.data, slots := o.slots }, g, d, t + 1, os⟩ := by
    intro E'
    unfold storeInDict newKeyGuard
    refine wpAny_bind (wpAny_pure (wpAny_bind (wpAny_nsSet1 (Heap.Ns1.of_empty hnd) fun h' hn' hs => ?_)))
    obtain ⟨oD, esD, epD, hoD, hdD, hcD⟩ := hn'.count (Within.cons name v Within.nil)
    refine wpAny_bind (wpAny_lookBehind hoD (by rw [hdD]; exact pastItsLine_dict (Nat.le_trans hcD (by rw [List.length_cons, List.length_nil, sizeLine_eq]; omega))) ?_)
    refine wpAny_pure (hq h' _ ?_ hn' fun b ob hbx hb => ?_)
    · refine (hs.2 x hxs).trans (Heap.get?_update_self _ hx₁ ?_)
      have hfr := (Heap.get?_some_iff.mp hx).2
      cases odt <;> first | rfl | exact hfr
    · exact (hs.2 b (Nat.ne_of_lt (Heap.lt_size hb))).trans ((Heap.get?_update_ne _ _ _ _ hbx).trans (Heap.get?_push_of_some _ hb))
  have big : ∀ {E'}, wpAny (model prog w) A.in1 (do
        let d ← alloc { cls := Value.type "dict", data := Data.dict #[] }
        update x fun o => { cls := o.cls, dict := some d, data := o.data, slots := o.slots }
        dictMade (.ref C) x d) (fun a s' => a = some h.objs.size ∧ s' = ⟨(h.push { cls := .type "dict", data := .dict #[] }).update x fun o => { cls := o.cls, dict := some h.objs.size, data := o.data, slots := o.slots }, g, d, t + 1, os⟩) E' ⟨h, g, d, t + 1, os⟩ := go _ _ ⟨rfl, rfl⟩
  cases odt with
  | cls c => exact absurd rfl (hnc c)
  | _ =>
    refine wpAny_mono big (fun a s' z => ?_) fun _ _ z => z
    obtain ⟨rfl, rfl⟩ := z
    refine wpAny_mono fin (fun f s' z => ?_) fun _ _ z => z
    rcases f with (_ | _ | _ | _) | _ <;> first | exact wpAny_pure (wpAny_pure z) | exact z.elim
end
section
variable {X : Cx} {pins : List (Addr × Obj)} {σ : St} {H : Hp} {s : Shared} {A : Around} {E : Value → Shared → Prop} {a C fI : Addr} {f : Str}
theorem setattrE_ok {y : V} {u : Value} {Q : Unit → Shared → Prop} (I : Inv X pins σ H s) (hx : X.ex = []) (e : H a = some (excN a C none)) (es : ErS X.K C fI f) (ry : RelV y u)
    (h : ∀ s' d, H d = none → d ≠ a → Inv X pins σ (upd (upd H a (excN a C (some d))) d (.xd [(f, y)])) s' → Q () s') : wpAny (model X.prog X.w) A (setAttr (.ref a) f u) Q E s := by
  obtain ⟨⟨o, vs, a0, ho, hc, hd, hdt, h0, h1⟩, _, _⟩ := (show ObjOk X.prog X.w H s.heap a (excN a C none) from I.hok a _ e)
  refine setE I.kIn ho hc hd (fun c z => by rw [hdt] at z; cases z) es fun h' tk' q1 q2 q3 => ?_
  have dn : H s.heap.objs.size = none := I.hok.fresh (Nat.le_refl _)
  have dne : s.heap.objs.size ≠ a := Nat.ne_of_gt (Heap.lt_size ho)
  have I1 : Inv X pins σ (upd H a (excN a C (some s.heap.objs.size))) { s with heap := h', toks := tk' } := I.write (x := a) (e := a) (by rw [e]; exact True.intro) (.inl rfl) (fun b u n q => q3 b u n q) ⟨_, q1⟩ (excN_ok ⟨_, vs, a0, q1, hc, rfl, hdt, h0, h1⟩)
  refine h _ _ dn dne (I1.xtrack (I.xok hx (Heap.get?_none_of_le (Nat.le_refl _)) (by rw [upd_ne dne]; exact dn)) ⟨_, q2, fun g => ?_⟩)
  show RelO ([(f, y)].lookup g) (if g = f then some u else none)
  by_cases q : g = f
  · subst q
    rw [if_pos rfl]
    simp only [List.lookup, beq_self_eq_true]
    exact ry
  · rw [if_neg q]
    have hb : (g == f) = false := beq_eq_false_iff_ne.mpr q
    simp only [List.lookup, hb]
    exact True.intro
/-- a tracked object is left to itself -/
def del (H : Hp) (x : Addr) : Hp := fun b => if b = x then none else H b
theorem del_same {x : Addr} : del H x x = none := if_pos rfl
theorem del_ne {x b : Addr} (h : b ≠ x) : del H x b = H b := if_neg h
theorem Inv.untrk {φ : Heap → Prop} {x : Addr} (I : Inv X pins σ H s) (e : H x = some (.ext φ)) : Inv X pins σ (del H x) s := by
  have ne : ∀ {b : Addr} {u : HO}, H b = some u → (∀ φ, u ≠ .ext φ) → b ≠ x := fun {b u} q n z => by
    rw [z, e] at q
    cases q
    exact n φ rfl
  refine I.step (h' := s.heap) (g' := s.gens) (t' := s.toks) (d' := s.drawn) (ch := []) (fun _ z => nomatch z) (fun b o _ _ _ q _ => q) (fun b o _ _ _ q _ => ⟨o.slots, q⟩) (fun b o _ _ n => ?_) (fun b o _ q => ⟨o, q⟩)
    (fun b xs q => ?_) (fun b o u q => ?_) (fun b ps q => ⟨#[], ?_⟩) (fun m hm => hm) (fun b u q => ?_) I.bare
  · by_cases z : b = x
    · rw [z]; exact del_same
    · rw [del_ne z]; exact n
  · rw [del_ne (ne q fun _ z => by cases z)]; exact q
  · rw [del_ne (ne q fun _ z => by cases z)]; exact q
  · rw [del_ne (ne q fun _ z => by cases z), q]; simp
  · by_cases z : b = x
    · rw [z, del_same] at q; cases q
    · rw [del_ne z] at q
      refine (I.hok b u q).stay (fun c v _ q => q) (fun c q => ?_) fun c xs q => ?_
      · rw [del_ne (ne q fun _ z => by cases z)]; exact q
      · rw [del_ne (ne q fun _ z => by cases z)]; exact q
/-- e.f = value, in an error's own __init__ -/
def sFldE (K : PySem.W.Frag) (fI : Addr) (ta tv : TE) (f : Str) : TS := fun D σ H => tv σ H fun y H1 => ta σ H1 fun x H2 => ∃ a C, x = .ref a ∧ H2 a = some (excN a C none) ∧ ErS K C fI f ∧ ∀ d, H2 d = none → d ≠ a → D.nx σ (upd (upd H2 a (excN a C (some d))) d (.xd [(f, y)]))
theorem ps_fldE {o value : Expr} {ta tv : TE} {pos pos' : Pos} (hx : X.ex = []) (ha : PE X o ta) (hv : PE X value tv) (hs : swapsWith value (some (.Attribute o f pos')) pos.line X.env = pure false) : PS X (.Assign [.Attribute o f pos'] value pos) (sFldE X.K fI ta tv f) := by
  intro pins s σ H D I h
  refine plainObj_wpAny_Assign_Attribute (thn (hv pins s σ H _ I h) fun u s1 ⟨y, H1, I1, ry, q⟩ => thn (ha pins s1 σ H1 _ I1 q) fun ov s2 ⟨x, H2, I2, rx, a, C, ex, ea, es, q2⟩ => ?_) hs
  subst ex
  obtain rfl : ov = Value.ref a := rx
  exact setattrE_ok I2 hx ea es ry fun s3 d dn dne I3 => ⟨σ, _, I3, q2 d dn dne⟩
/-! ### reading -/
theorem getE {b : Bool} {od o : Obj} {v : Value} {Q : Value → Shared → Prop} (XX : X.K.In s.heap) (J : PySem.W.InstAt s.heap a o C (some od)) (ec : ErC X.K C) (na : PySem.W.findIn X.K (.ref C) f = some none) (hl : PySem.W.lookIn f od = some (some v)) (hv : PySem.W.handedIn v = true)
    (h : Q v { s with toks := s.toks + 1 }) : wpAny (model X.prog X.w) A (getAttr (.ref a) f b) Q E s := by
  obtain ⟨hh, g, d, t, os⟩ := s
  have I : KindAt a C hh := ⟨o, J.at_, J.cls⟩
  have L0 := I.type (model X.prog X.w)
  have L1 := PySem.W.looks_findIn (M := model X.prog X.w) XX ec.ga
  have L3 := PySem.W.looks_findIn (M := model X.prog X.w) XX ec.gt
  have LF := PySem.W.looks_find (M := model X.prog X.w) XX J (PySem.W.findObj_own ec.hd na rfl hl)
  have f3 := F.excAttr_ValueError.ga.bind (.ref a)
  unfold getAttr getAttrBy
  refine wpAny_bind (wpAny_mkText (wpAny_holding (wpAny_bind (L0.at (wpAny_bind (L1.at ?_))))))
  show wpAny _ _ (getAttrByItsOwn _ _ _ _ _ _) _ _ _
  unfold getAttrByItsOwn
  refine wpAny_bind (show wpAny _ _ (typeLookup _ _) _ _ _ from L3.at ?_)
  refine wpAny_bind (wpAny_attempt (wpAny_holding ?_))
  have hcg : callGetattribute (.ref a) (.str f t) (.builtin "BaseException.__getattribute__") b = boundAndCalled (.builtin "BaseException.__getattribute__") (.ref a) (.str f t) := by cases b <;> rfl
  show wpAny _ _ (callGetattribute _ _ _ _) _ _ _
  rw [hcg]
  unfold boundAndCalled
  rw [f3]
  refine wpAny_bind (wpAny_pure ?_)
  refine wpAny_call (codeAny_call_builtin F.excAttr_ValueError.ga.plain F.entry_bexc_ga (kd_check (s := ⟨hh, g, d, t + 1, os⟩) XX I ec ?_))
  unfold Builtin.«object.__getattribute__»
  repeat (first | assumption | with_reducible refine L0.at ?_ | with_reducible refine LF.at ?_ | wp_step)
  exact PySem.W.handed_on hv h
theorem getattrE_ok {b : Bool} {v : V} {d : Addr} {fs : List (Str × V)} {Q : Value → Shared → Prop} (I : Inv X pins σ H s) (e : H a = some (excD a C (some d))) (ec : ErC X.K C) (na : PySem.W.findIn X.K (.ref C) f = some none) (ed : H d = some (.xd fs)) (l : fs.lookup f = some v)
    (h : ∀ u s', Inv X pins σ H s' → RelV v u → Q u s') : wpAny (model X.prog X.w) A (getAttr (.ref a) f b) Q E s := by
  obtain ⟨⟨o, ho, hc, hd, hn⟩, _, _⟩ := (show ObjOk X.prog X.w H s.heap a (excD a C (some d)) from I.hok a _ e)
  obtain ⟨mA, N1, r⟩ := (show ObjOk X.prog X.w H s.heap d (.xd fs) from I.hok d _ ed)
  obtain ⟨u, hu, ru⟩ := RelO.some_of (v := v) (o := mA f) (by rw [← l]; exact r f)
  obtain ⟨od, hod, hl⟩ := lookIn_ns N1
  refine getE (o := o) (od := od) I.kIn ⟨ho, hc, hn, by rw [hd]; exact hod⟩ ec na (by rw [hl, hu]) (handed_of ru) (h u _ (I.tok _) ru)
def tFldE (K : PySem.W.Frag) (ta : TE) (f : Str) : TE := fun σ H Q => ta σ H fun x H1 => ∃ a C d fs v, x = .ref a ∧ H1 a = some (excD a C (some d)) ∧ ErC K C ∧ PySem.W.findIn K (.ref C) f = some none ∧ H1 d = some (.xd fs) ∧ fs.lookup f = some v ∧ Q v H1
theorem pe_fldE {e : Expr} {ta : TE} {pos : Pos} (he : PE X e ta) (hb : attributeBase e f X.env (eval e X.env) = eval e X.env) : PE X (.Attribute e f pos) (tFldE X.K ta f) := by
  intro pins s σ H Q I h
  refine attr_of hb (thn (he pins s σ H _ I h) fun u s1 ⟨x, H1, I1, rx, a, C, d, fs, v, ex, ea, ec, na, ed, l, q⟩ => ?_)
  subst ex
  obtain rfl : u = Value.ref a := rx
  exact getattrE_ok I1 ea ec na ed l fun u' s2 I2 ru => ⟨v, H1, I2, ru, q⟩
end
/-! ### raise C(..) where C has an own __init__ -/
section
variable {prog : Program} {w : World} {A : Around} {E : Value → Shared → Prop} {s : Shared} {env : Env}
variable {nm q : Str} {C N : Addr} {bs bm bmB : List Value} {hdct : Bool} {sn : List Str} {sub : List Value} {ab : Bool} {col : Option Bool} {dd : Option Addr} {k0 k1 k2 k3 k5 : Option Value} {B newId initId : String}
theorem raise_call_init (F : ExcBaseFacts B newId initId bmB) {mN : Str → Option Value} {fI : Addr} {x : Str} {np cpos pos : Pos} {args : List Expr} {Q : Flow → Shared → Prop}
    (hbase : bm.contains (.type "BaseException") = true) (hh : A.handled = none) (hplain : (backTo cpos (starEach args env)).any (·.1) = false) (hi : mN "__init__" = some (.ref fI))
    (h : wpAny (model prog w) A (eval (.Name x np) env) (fun f s₁ => f = .ref C ∧ wpAny (model prog w) A (evalArgs (.ref C) true (backTo cpos (starEach args env)) [])
      (fun a s₂ => a.kw = [] ∧ a.pos.length ≤ sizeLine ∧ s₂.heap.get? C = some (excClassObj nm q C N bs bm hdct sn sub ab col dd k0 k1 k2 k3 k5 newId) ∧ s₂.heap.Ns N mN ∧ OwnTail s₂.heap bmB bm ∧ (∃ oI, s₂.heap.get? fI = some oI ∧ oI.cls = .type "function") ∧
        ∀ h' e, Heap.MadeExcOf s₂.heap h' e (.ref C) a.pos → wpAny (model prog w) (A.under (.builtin "type.__call__" ⟨.ref C :: a.pos, []⟩)) (call (.ref fI) (.ref e :: a.pos)) (fun r s' => r = .none ∧ ∃ oe, s'.heap.get? C = some (excClassObj nm q C N bs bm hdct sn sub ab col dd k0 k1 k2 k3 k5 newId) ∧
          s'.heap.get? e = some oe ∧ oe.cls = .ref C ∧ (∃ vs, oe.data = .fields vs ∧ vs[1]? = some .none) ∧ E (.ref e) s') E { s₂ with heap := h' }) E s₁) E s) :
    wpAny (model prog w) A (exec (.Raise (some (.Call (.Name x np) args [] cpos)) none pos) env) Q E s := by
  rw [arm_exec_Raise]
  first
    | refine wpAny_bind (wpAny_standAt (raise_made (C := C) (nm := nm) (q := q) (N := N) (bs := bs) (bm := bm) (hdct := hdct) (sn := sn) (sub := sub) (ab := ab) (col := col) (dd := dd) (k0 := k0) (k1 := k1) (k2 := k2) (k3 := k3) (k5 := k5) (newId := newId) hbase hh (wpAny_bind (wpAny_mono (wpAny_Call_ofName (wpAny_mono h (fun f s₁ h₁ => ?_) fun _ _ x => x)) (fun v s₃ h₃ => wpAny_bind (wpAny_standAt (wpAny_pure h₃))) fun _ _ x => x))))
    | (simp only [evalOpt, Option.map]; refine wpAny_bind (wpAny_standAt (raise_made (C := C) (nm := nm) (q := q) (N := N) (bs := bs) (bm := bm) (hdct := hdct) (sn := sn) (sub := sub) (ab := ab) (col := col) (dd := dd) (k0 := k0) (k1 := k1) (k2 := k2) (k3 := k3) (k5 := k5) (newId := newId) hbase hh (wpAny_bind (wpAny_mono (wpAny_Call_ofName (wpAny_mono h (fun f s₁ h₁ => ?_) fun _ _ x => x)) (fun v s₃ h₃ => wpAny_bind (wpAny_standAt (wpAny_pure h₃))) fun _ _ x => x)))))
    | (refine wpAny_bind (wpAny_standAt (raise_made (C := C) (nm := nm) (q := q) (N := N) (bs := bs) (bm := bm) (hdct := hdct) (sn := sn) (sub := sub) (ab := ab) (col := col) (dd := dd) (k0 := k0) (k1 := k1) (k2 := k2) (k3 := k3) (k5 := k5) (newId := newId) hbase hh ?_)); refine wpAny_bind (wpAny_mono (wpAny_Call_ofName (wpAny_mono h (fun f s₁ h₁ => ?_) fun _ _ x => x)) (fun v s₃ h₃ => wpAny_bind (wpAny_standAt (wpAny_pure h₃))) fun _ _ x => x))
  obtain ⟨rfl, h₁⟩ := h₁
  unfold callWith
  refine wpAny_bind (wpAny_holding (wpAny_mono h₁ (fun a s₂ h₂ => wpAny_bind (wpAny_standAt ?_)) fun _ _ x => x))
  obtain ⟨apos, akw⟩ := a
  obtain ⟨hkw, hlen, hC, hn, T, ⟨oI, hfI, hfc⟩, h₂⟩ := h₂
  obtain rfl : akw = [] := hkw
  obtain ⟨hp, g, d, tk, os⟩ := s₂
  simp only [hplain]
  refine wpAny_bind (wpAny_keeperOf_exc hC ?_)
  refine wpAny_bind (call_initT F T hC hn hi hfI hfc (fun h' e hm => wpAny_mono (h₂ h' e hm) (fun r s' hr => ?_) fun _ _ z => z) hlen)
  obtain ⟨rfl, oe, a1, a2, a3, a4, a5⟩ := hr
  exact ⟨rfl, wpAny_bind (wpAny_holding (wpAny_point (wpAny_pure ⟨e, oe, rfl, a1, a2, a3, a4, a5⟩)))⟩
end
def tRaiseI (C : Addr) (sp : Sp) (W : WKD) (t : TA) : TS := fun _ σ H => t σ H fun vs H1 => vs.length ≤ sizeLine ∧ ∀ x, H1 x = none → sp (.ref x :: vs) (upd H1 x (excN x C none)) (fun v H2 => v = .non ∧ ∃ d, H2 x = some (excN x C d) ∧ W (.ref C) d σ (del H2 x)) E0
theorem ps_raiseI {X : Cx} {k : Nat} {x f : Str} {C fI : Addr} {fd : FuncData} {ps : List Str} {sp : Sp} {e : Expr} {es : List Expr} {t : TA} {W : WKD} {np cpos pos : Pos} (er : ErS X.K C fI f) (hfn : PySem.W.isFn X.K (.ref fI) = true) (F : FnOk X.prog X.w X.K X.mg X.base CX0 k fI fd ps sp) (hb : Binds X.K fd ps []) (hr : Room (k + 1) X.A)
    (hm : X.mg x = some (.ref C)) (hg : Gl X x) (ws : WshD X W) (hx : X.ex = []) (hc : X.calm = true) (ha : PA X (e :: es) t)
    (he : starEach (e :: es) X.env = (false, eval e X.env) :: starEach es X.env := by rfl) (hpl : (backTo cpos (starEach es X.env)).any (·.1) = false := by rfl) (hdb : (x == ("__debug__" : Str)) = false := by decide) :
    PS X (.Raise (some (.Call (.Name x np) (e :: es) [] cpos)) none pos) (tRaiseI C sp W t) := by
  intro pins s σ H D I h
  obtain ⟨tl, N, nm, qn, bs, hdct, sn, sub, ab, col, dd, k0, k1, k2, k3, k5, mN, hC, hN, hi, T⟩ := exc_objI er.ei I.ok.mod.kin
  have hpl2 : (backTo cpos (starEach (e :: es) X.env)).any (·.1) = false := by
    rw [he]
    show (false || (backTo cpos (starEach es X.env)).any (·.1)) = false
    rw [hpl]; rfl
  obtain ⟨oI, hoI, hcI⟩ := Option.map_eq_some_iff.mp (show PySem.W.typeIn X.K (.ref fI) = some (.type "function") from beq_iff_eq.mp hfn)
  refine raise_call_init (C := C) (nm := nm) (q := qn) (N := N) (bs := bs) (bm := tl) (hdct := hdct) (sn := sn) (sub := sub) (ab := ab) (col := col) (dd := dd) (k0 := k0) (k1 := k1) (k2 := k2) (k3 := k3) (k5 := k5) PySem.F.excBase_ValueError (mN := mN) (T.hasType PySem.F.excBase_ValueError.hasBase) (I.ok.hd hc) hpl2 hi (ld_glob I hg hm ⟨rfl, ?_⟩ hdb)
  have z := ha cpos pins s σ H _ I h
  rw [he] at z ⊢
  refine Calls.evalArgs_plain (wpAny_mono z (fun us s2 zz => ?_) fun _ _ y => y)
  obtain ⟨vs, H1, I2, r, hz, q⟩ := zz
  refine ⟨rfl, by rw [← r.length]; exact hz, I2.bk _ _ hC, hN.keeps I2.bk, T.keeps I2.bk, ⟨oI, I2.kIn _ _ hoI, hcI⟩, fun h' e' hme => ?_⟩
  obtain ⟨t0, ht0, _, _⟩ := hme.there
  have I3 : Inv X pins σ H1 { s2 with heap := h' } := I2.kept (t' := s2.toks) hme.keeps
  have xn : H1 e' = none := I2.hok.none_of hme.new
  have xo : XOk X pins H1 e' := I2.xok hx hme.new xn
  have I4 : Inv X pins σ (upd H1 e' (excN e' C none)) { s2 with heap := h' } := I3.xtrack xo (excN_ok ⟨_, _, _, ht0, rfl, rfl, rfl, rfl, rfl⟩)
  have hq := q e' xn
  have r2 : Vals (V.ref e' :: vs) (Value.ref e' :: us) := .cons rfl r
  have hl : (Value.ref e' :: us ++ []).length = ps.length := by
    have e := r2.length
    rw [F.len _ _ _ _ hq] at e
    rw [List.append_nil]
    exact e.symm
  have hbb := hb { s2 with heap := h' } (Value.ref e' :: us) I4.kIn hl
  rw [List.append_nil] at hbb
  refine wpAny_call (codeAny_mono (F.run _ X.stack _ _ ⟨Value.ref e' :: us, []⟩ (Value.ref e' :: us) _ _ _ (hr.make C us []) (I4.env0.make C us []) hbb r2 hq) fun r s' hq' => ?_)
  cases r with
  | error e => exact (pass0 (X := X) pins σ _ _ e s' I4 hq')
  | ok fl =>
    cases fl with
    | ret u =>
      obtain ⟨v, H', I5, rv, ev, d, hxd, w5⟩ := I4.after hq'
      subst ev
      obtain ⟨⟨o, vs2, a0, ho, hcl, hdd, hdt, h0, h1⟩, _, _⟩ := (show ObjOk X.prog X.w H' s'.heap e' (excN e' C d) from I5.hok e' _ hxd)
      refine ⟨rv, o, I5.bk _ _ hC, ho, hcl, ⟨vs2, hdt, h1⟩, ?_⟩
      exact ws pins σ (del H' e') s' e' (.ref C) d (I5.untrk hxd) ⟨⟨xo.old, del_same, xo.nl, xo.nc, xo.np⟩, .inl ⟨o, vs2, a0, ho, hcl, hdt, h0, h1⟩⟩ ⟨o, ho, hdd⟩ w5
    | next => exact False.elim hq'
    | brk => exact False.elim hq'
    | cont => exact False.elim hq'
/-! ### isinstance -/
theorem call_isiD {X : Cx} : CallR X (.builtin "isinstance") (fun xs H Q => ∃ x c dx d b, xs = [.ref x, .ref d] ∧ H x = some (excD x c dx) ∧ ErC X.K c ∧ PySem.W.kitOne X.K (.ref c) (.ref d) = some b ∧ Q (.bl b) H) := by
  intro pins s σ H xs us Q I r h
  obtain ⟨x, c, dx, d, b, rfl, hx, ec, ek, q⟩ := h
  obtain ⟨v1, v2, rfl, r1, r2⟩ := vals2 r
  cases r1
  cases r2
  obtain ⟨⟨o, p1, p2, _⟩, _, _⟩ := (show ObjOk X.prog X.w H s.heap x (excD x c dx) from I.hok x _ hx)
  exact PySem.W.kia_one (kitx_err ec) I.kIn ⟨o, p1, p2⟩ ek (fun z => nomatch z) fun tk => ⟨.bl b, H, I.tok tk, rfl, q⟩
theorem call_isiDT {X : Cx} : CallR X (.builtin "isinstance") (fun xs H Q => ∃ x c dx T b, xs = [.ref x, .ty T] ∧ H x = some (excD x c dx) ∧ ErC X.K c ∧ PySem.W.kitOne X.K (.ref c) (.type T) = some b ∧ Q (.bl b) H) := by
  intro pins s σ H xs us Q I r h
  obtain ⟨x, c, dx, T, b, rfl, hx, ec, ek, q⟩ := h
  obtain ⟨v1, v2, rfl, r1, r2⟩ := vals2 r
  cases r1
  cases r2
  obtain ⟨⟨o, p1, p2, _⟩, _, _⟩ := (show ObjOk X.prog X.w H s.heap x (excD x c dx) from I.hok x _ hx)
  exact PySem.W.kia_one (kitx_err ec) I.kIn ⟨o, p1, p2⟩ ek (fun z => nomatch z) fun tk => ⟨.bl b, H, I.tok tk, rfl, q⟩
end L2

namespace L2
open PySem PySem.Spec PyProof.Rows
theorem ps_tryAsDI {X : Cx} {body : List Stmt} {b0 : Stmt} {suite : List Stmt} {dn en : Str} {np hpos pos : Pos} {D : Addr} {ie : Nat} {Cs : Addr → Prop} {tb : WKD → TS} {ts : TS} (hx : X.ex = []) (hst : X.stack = X.env :: X.outer) (hfr : X.env.frame = some X.env.locals) (hN : X.N.Nodup) (hi : X.N[ie]? = some en) (hl : X.env.kindOf en = some .local)
    (hgD : Gl X dn) (hmD : X.mg dn = some (.ref D)) {fI : Addr} (eD : excInI X.K D fI = true) (hCs : ∀ c, Cs c → PySem.W.mroIn X.K c (.ref D) = some true)
    (hb : ∀ pins XE W, WshTD (X.tried pins XE) W → PSs (X.tried pins XE) body (tb W)) (hs : ∀ v, PSs (X.marked v) (b0 :: suite) ts) (hdb : (dn == ("__debug__" : Str)) = false := by decide) :
    PS X (.Try body [.ExceptHandler (some (.Name dn np)) (some en) (b0 :: suite) hpos] [] [] pos) (tTryAsD ie Cs tb ts) := by
  intro pins s σ H Ds I h
  refine wpAny_Try_except ?_
  refine wpAny_mono (hb pins (fun e s₁ => wpAny (model X.prog X.w) X.A (noteFrame e X.env) (fun _ s₂ => wpAny (model X.prog X.w) X.A (setFlight e none) (fun _ s₃ => wpAny (model X.prog X.w) X.A (handleBy e X.env [.ExceptHandler (some (.Name dn np)) (some en) (b0 :: suite) hpos]) (SP X pins Ds) X.xe s₃) X.xe s₂) X.xe s₁) _ ?_ [] s σ H Ds I.tried h) (fun f s1 q => ?_) fun _ _ z => z
  · intro pins' σ1 H1 s1 x T C d I1 xx xT tr zd hw
    obtain ⟨c, rfl, hc, hts⟩ := hw
    have I2 : Inv X pins σ1 H1 s1 := I1.untried
    have x2 : XOk X pins H1 x := xx.untried
    have T2 : XOk X pins H1 T := xT.untried
    have frm : X.A.frames = some (X.env :: X.outer) := by rw [← hst]; exact I2.ok.frames
    have fly : ∀ {h : Heap} {T : Addr}, Inv X pins σ1 H1 { s1 with heap := h } → Trc h x (.ref c) T → ∃ a0, Heap.FlyingW (hidX X h [x, T]) (X.env :: X.outer) x (.ref c) a0 h := fun {h T} J tr => by
      obtain ⟨oe, vs, a0, oT, ts, he, hcl, h0, hd, h1, hTe, hT, hdT, h3⟩ := tr
      exact ⟨a0, hid_in _ _, hid_none (by simp), hst ▸ J.hidF [x, T], ⟨oe, vs, T, oT, ts, he, ⟨hcl, h0⟩, hd, h1, hid_none (by simp), hTe, hT, hdT, h3⟩⟩
    have two : ∀ {T : Addr}, XOk X pins H1 T → ∀ b ∈ [x, T], XOk X pins H1 b := fun {T} hT b hb => by
      rcases List.mem_cons.mp hb with e | hb
      · rw [e]; exact x2
      · have e : b = T := by simpa using hb
        rw [e]; exact hT
    obtain ⟨a0, fl⟩ := fly (h := s1.heap) I2 tr
    refine wpAny_mono (wpAny_dk (dsafe_noteFrame _ _) (wpAny_looks_onW (Q := fun _ s' => ∃ h4, s' = { s1 with heap := h4 } ∧ Heap.HeldW (hidX X s1.heap [x, T]) (X.env :: X.outer) x (.ref c) a0 X.env.locals h4 ∧ s1.heap.UpToSlots h4) (E := fun _ _ => False) frm hfr fl fun h4 a b => ⟨h4, rfl, a, b⟩)) ?_ (fun _ _ q => q.1.elim)
    rintro _ s4 ⟨⟨h4, rfl, held4, up4⟩, dk4⟩
    refine wpAny_mono (wpAny_dk (dsafe_setFlight _ _) (wpAny_landsW (Q := fun _ s' => ∃ h5, s' = { s1 with heap := h5 } ∧ Heap.FlyingW (hidX X s1.heap [x, T]) (X.env :: X.outer) x (.ref c) a0 h5 ∧ h4.UpToSlots h5) (E := fun _ _ => False) held4 fun h5 a b => ⟨h5, rfl, a, b⟩)) ?_ (fun _ _ q => q.1.elim)
    rintro _ s5 ⟨⟨h5, rfl, fl5, up5⟩, dk5⟩
    obtain ⟨I5, T5, xT5, tr5⟩ := I2.left hx (two T2) fl5.1 fl5.2.2.2 (up4.trans up5)
    have z5 : Xd h5 x d := zd.dk (DK.trans (b := h4) dk4 dk5) tr5.there
    refine wpAny_handleBy_cons (codeAny_handlers_test (Calls.Name_function_global I5.ok.kind hgD (Calls.loadGlobal_global (by rw [I5.ok.glob]; exact I5.mod.glob.keeps I5.bk) hmD ?_) hdb)) (by intro q; cases q)
    obtain ⟨_, _, _, _, _, _, _, _, _, _, _, _, _, _, _, _, _, hD, _, _, TD⟩ := exc_objI eD I5.kIn
    have hDB := TD.hasType (X := "BaseException") (b := true) rfl
    obtain ⟨ob, _, _, _, _, hob, hcl, _⟩ := id tr5
    refine exc_upM hD hob hcl (by rw [List.contains_cons, hDB, Bool.or_true]) (PySem.W.looks_mroIn I5.kIn (hCs c hc)) ?_
    refine codeAny_handlers_suite_as ?_
    obtain ⟨a5, fl5'⟩ := fly I5 tr5
    refine wpAny_mono (wpAny_dk (dsafe_setFlight _ _) (lands_againW (Q := fun _ s' => ∃ h6, s' = { s1 with heap := h6 } ∧ Heap.FlyingW (hidX X h5 [x, T5]) (X.env :: X.outer) x (.ref c) a5 h6 ∧ h5.UpToSlots h6) (E := fun _ _ => False) (s := { s1 with heap := h5 }) fl5' fun h6 a b => ⟨h6, rfl, a, b⟩)) ?_ (fun _ _ q => q.1.elim)
    rintro _ s6 ⟨⟨h6, rfl, fl6, up6⟩, dk6⟩
    obtain ⟨I6, T6, xT6, tr6⟩ := I5.left hx (two xT5) fl6.1 fl6.2.2.2 up6
    have z6 : Xd h6 x d := z5.dk dk6 tr6.there
    obtain ⟨oe, vs6, _, _, _, he, hcl6, _, hd6, _⟩ := id tr6
    have hnc : PySem.W.notCls oe = true := by unfold PySem.W.notCls; rw [hd6]
    have hdd : oe.dict = d := by
      obtain ⟨o2, e2, d2⟩ := z6
      rw [he] at e2
      cases e2
      exact d2
    have I7 := I6.xtrack (o := excD x c d) x2 ⟨⟨oe, he, hcl6, hdd, hnc⟩, ⟨oe, he⟩, fun h1 h2 ⟨o, z1, z2⟩ kk => ⟨o, kk o z1, z2⟩⟩
    refine store_ok I7 hN hi (.inl hl) (v := .ref x) rfl (fun s8 I8 => ?_) (.inr hl)
    refine wpAny_mono (hs (.ref x) pins s8 _ _ _ (I8.marked _) (hts x x2.trk)) (fun f s9 q9 => ?_) fun _ _ z => z.elim
    cases f with
    | next =>
      obtain ⟨σ9, H9, I9, q9⟩ := q9
      have I9' : Inv X pins σ9 H9 s9 := Inv.unmarked (hd := I2.ok.hd) (fr := I2.ok.frames) I9
      obtain ⟨m, hm⟩ := I9'.loc
      refine wpAny_nameGoes_keeps hl hm.1 (by rw [I9'.ok.kind]; rfl) fun h' v hn hss => ?_
      exact ⟨_, _, I9'.gone hN hi hm hn hss, q9⟩
    | brk => obtain ⟨_, _, _, z⟩ := q9; exact z.elim
    | cont => obtain ⟨_, _, _, z⟩ := q9; exact z.elim
    | ret u => obtain ⟨_, _, _, _, _, z⟩ := q9; exact z.elim
  · have q' := SP.untried q
    cases f with
    | next => exact wpAny_execs_nil q'
    | brk => exact q'
    | cont => exact q'
    | ret u => exact q'
end L2

namespace L2
open PySem PySem.Spec PyProof.Rows
/-! ## a comprehension whose element may raise -/
/-- what the block may change is pinned -/
def PnX (X : Cx) : Prop := ∀ b ∈ X.ex, ∃ o, (b, o) ∈ X.pn
section
variable {X : Cx} {pins : List (Addr × Obj)} {σ : St} {H H' : Hp} {s s' : Shared} {b : Addr}
theorem Inv.xokP (I : Inv X pins σ H s) (hx : PnX X) (e : s.heap.get? b = none) (n : H' b = none) : XOk X pins H' b := by
  refine ⟨?_, n, fun z => ?_, fun x c q z => ?_, fun p hp z => ?_⟩
  · cases q : X.s₀.heap.get? b with
    | none => rfl
    | some o =>
      obtain ⟨o', e'⟩ := I.base.there b o q fun z => by
        obtain ⟨o1, h1⟩ := hx b z
        have := (I.pin (b, o1) (List.mem_append_left _ h1)).1
        rw [e] at this
        cases this
      rw [e] at e'
      cases e'
  · obtain ⟨m, ⟨o, _, _, ho, _⟩, _⟩ := I.loc
    rw [z, ho] at e
    cases e
  · obtain ⟨v, o, ho, _⟩ := I.cell x c q
    rw [z, e] at ho
    cases ho
  · have := (I.pin p hp).1
    rw [z, e] at this
    cases this
/-- on its way, seen by this frame or not -/
def TrcF (h : Heap) (x : Addr) (C : Value) (T : Addr) : Prop :=
  ∃ oe vs a0 oT ts fl, h.get? x = some oe ∧ oe.cls = C ∧ vs[0]? = some a0 ∧ oe.data = .fields vs ∧ vs[1]? = some (.ref T) ∧ T ≠ x ∧ h.get? T = some oT ∧ oT.data = .fields ts ∧ ts[3]? = some fl
theorem Inv.leftF {h' : Heap} {ch : List Addr} {a0 C fl : Value} {x : Addr} (I : Inv X pins σ H s) (hx : PnX X) (hch : ∀ b ∈ ch, XOk X pins H b) (k : (hidX X s.heap ch).StaysIn h') (t : h'.TracedAtW (hidX X s.heap ch) x C a0 fl) (u : s.heap.UpToSlots h') :
    Inv X pins σ H { s with heap := h' } ∧ ∃ T, XOk X pins H T ∧ TrcF h' x C T := by
  have fr : ∀ b o, s.heap.get? b = some o → b ∈ frs X.stack → ∃ sl, h'.get? b = some { o with slots := sl } := fun b o e hb => by
    obtain ⟨_, o', ho, hd⟩ := I.stack.mem hb
    rw [e] at ho
    cases ho
    exact u b o e hd
  refine ⟨I.xstep hch (fun b o e n1 n2 => k b o (PySem.W.hideAll_get _ e fun z => (List.mem_append.mp z).elim n1 n2)) fun b o e _ hb => fr b o e hb, ?_⟩
  obtain ⟨oe, vs, T, oT, ts, he, ⟨hcls, h0⟩, hd, h1, hnT, hTe, hT, hdT, h3⟩ := t
  refine ⟨T, ?_, oe, vs, a0, oT, ts, fl, he, hcls, h0, hd, h1, hTe, hT, hdT, h3⟩
  cases q : s.heap.get? T with
  | none => exact I.xokP hx q (I.hok.none_of q)
  | some o =>
    by_cases z : T ∈ ch
    · exact hch T z
    · by_cases z2 : T ∈ frs X.stack
      · obtain ⟨_, o', ho, hd'⟩ := I.stack.mem z2
        obtain ⟨sl, e⟩ := fr T o q z2
        rw [hT] at e
        cases e
        rw [q] at ho
        cases ho
        exact absurd hdT (hd' ts)
      · have := PySem.W.hideAll_get (ch ++ frs X.stack) q fun z3 => (List.mem_append.mp z3).elim z z2
        rw [hnT] at this
        cases this
end
section
variable {M : Model} {A : Around} {E : Value → Shared → Prop} {s : Shared}
/-- a frame is left, whatever frame has seen the exception last -/
theorem leaving_any {base : Heap} {env : Env} {outer : List Env} {L e : Addr} {cls a0 fl : Value} {Q : Unit → Shared → Prop} (hfr : A.frames = some (env :: outer)) (hl : s.heap.FunFrames base (env :: outer)) (hf : env.frame = some L)
    (ht : s.heap.TracedAtW base e cls a0 fl) (hkb : base.StaysIn s.heap) (hen : base.get? e = none)
    (h : ∀ h', base.StaysIn h' → h'.TracedW base e cls a0 → s.heap.UpToSlots h' → Q () { s with heap := h' }) : wpAny M A (leaving env (.ref e)) Q E s := by
  by_cases c : fl = rawInt L
  · subst c
    unfold leaving
    exact wpAny_bind (wpAny_noteFrame_againW hf ht (wpAny_landsW ⟨hkb, hen, hl, ht⟩ fun h' z up => h h' z.1 z.2.2.2 up))
  · obtain ⟨oe, vs, T, oT, ts, he, ⟨hc, h0⟩, hd, h1, nT, Te, hT, dT, h3⟩ := ht
    have b1 : (Value.ref T != Value.none) = true := by simp
    have b2 : ¬ ((fl == rawInt L) = true) := fun z => c (eq_of_beq z)
    have i1 := (Array.getElem?_eq_some_iff.mp h1).1
    have i3 := (Array.getElem?_eq_some_iff.mp h3).1
    unfold leaving noteFrame
    simp only [hf]
    refine wpAny_bind (wpAny_bind (wpAny_field he hd h1 ?_))
    rw [if_pos b1]
    refine wpAny_bind (wpAny_field hT dT h3 ?_)
    rw [if_neg b2]
    refine wpAny_bind (wpAny_setField hT dT i3 ?_)
    generalize hg : s.heap.update T (Obj.mapFields (·.setIfInBounds 3 Value.none)) = g
    have oth : ∀ b, b ≠ T → g.get? b = s.heap.get? b := fun b z => by rw [← hg]; exact Heap.get?_update_other _ _ (Ne.symm z)
    have isT : ∀ b o, s.heap.get? b = some o → (∀ ws, o.data ≠ .fields ws) → b ≠ T := fun b o q n z => by
      subst z
      rw [hT] at q
      cases q
      exact n ts dT
    have kb : base.StaysIn g := fun b o q => by
      rw [oth b fun z => by rw [z, nT] at q; cases q]
      exact hkb b o q
    have z := wpAny_newEntryW (M := M) (E := E) (Q := Q) (s := { s with heap := g }) (head := .ref T) (hadNext := Value.ref T != Value.none) hfr (hl.of_keeps fun b o q n => ⟨o, by rw [oth b (isT b o q n)]; exact q, rfl⟩) hf (by show g.get? e = some oe; rw [oth e (Ne.symm Te)]; exact he) kb hen hd i1 h0
      fun h' y => by
        refine h h' y.1 (hc ▸ y.2.2.1) fun b o q n => y.2.2.2 b o ?_ n
        show g.get? b = some o
        rw [oth b (isT b o q n)]
        exact q
    exact z
end
section
variable {X : Cx} {pins : List (Addr × Obj)} {σ : St} {H : Hp} {s : Shared} {x T : Addr} {C : Value} {E : Value → Shared → Prop}
theorem two_ok {x T : Addr} (x1 : XOk X pins H x) (xT : XOk X pins H T) : ∀ b ∈ [x, T], XOk X pins H b := fun b hb => by
  rcases List.mem_cons.mp hb with e | hb
  · rw [e]
    exact x1
  · have e : b = T := by simpa using hb
    rw [e]
    exact xT
theorem Inv.leaveF {Q : Unit → Shared → Prop} (I : Inv X pins σ H s) (hx : X.ex = []) (hst : X.stack = X.env :: X.outer) (hfr : X.env.frame = some X.env.locals) (x1 : XOk X pins H x) (xT : XOk X pins H T) (tr : TrcF s.heap x C T)
    (h : ∀ h' T, Inv X pins σ H { s with heap := h' } → XOk X pins H x → XOk X pins H T → Trc h' x C T → Q () { s with heap := h' }) : wpAny (model X.prog X.w) X.A (leaving X.env (.ref x)) Q E s := by
  have frm : X.A.frames = some (X.env :: X.outer) := by rw [← hst]; exact I.ok.frames
  obtain ⟨oe, vs, a0, oT, ts, fl, he, hc, h0, hd, h1, hTe, hT, hdT, h3⟩ := tr
  refine leaving_any (base := hidX X s.heap [x, T]) frm (hst ▸ I.hidF [x, T]) hfr ⟨oe, vs, T, oT, ts, he, ⟨hc, h0⟩, hd, h1, hid_none (by simp), hTe, hT, hdT, h3⟩ (hid_in _ _) (hid_none (by simp)) fun h' k1 k3 k4 => ?_
  obtain ⟨I', T', xT', tr'⟩ := I.left hx (two_ok x1 xT) k1 k3 k4
  exact h h' T' I' x1 xT' tr'
end
/-- what is wanted of exceptions that this frame may have seen -/
def WshF (X : Cx) (W : WKD) : Prop := ∀ (pins : List (Addr × Obj)) (σ : St) (H : Hp) (s : Shared) (x T : Addr) (C : Value) (d : Option Addr), Inv X pins σ H s → XOk X pins H x → XOk X pins H T → TrcF s.heap x C T → Xd s.heap x d → W C d σ H → X.xe (.ref x) s
theorem wshF_cx {P : Program} {w : World} {K : PySem.W.Frag} {mg : Str → Option Value} {base : Heap} {N : List Str} {qual : Str} {scope : Scope} {f : Addr} {cd : Value} {A : Around} {outer : List Env} {s₀ : Shared} {H₀ : Hp} {E : XK} :
    WshF (cxOf (CXd P w) P w K mg base N qual scope f cd A outer s₀ H₀ E) (fun C d _ H => E C d H) := fun pins σ H s x T C d I x1 xT tr z hE => by
  show wpAny (model P w) (A.deeper (envOfC qual scope s₀.heap.objs.size f cd)) (leaving (envOfC qual scope s₀.heap.objs.size f cd) (.ref x)) _ _ s
  refine wpAny_mono (wpAny_dk (dsafe_leaving _ _) (Inv.leaveF (Q := fun _ s' => ∃ h' T, s' = { s with heap := h' } ∧ Inv (cxOf (CXd P w) P w K mg base N qual scope f cd A outer s₀ H₀ E) pins σ H { s with heap := h' } ∧ XOk (cxOf (CXd P w) P w K mg base N qual scope f cd A outer s₀ H₀ E) pins H x ∧ XOk (cxOf (CXd P w) P w K mg base N qual scope f cd A outer s₀ H₀ E) pins H T ∧ Trc h' x C T) (E := fun _ _ => False) I rfl rfl rfl x1 xT tr fun h' T I' x1 xT tr => ⟨h', T, rfl, I', x1, xT, tr⟩)) ?_ (fun _ _ q => q.1.elim)
  rintro _ s' ⟨⟨h', T, rfl, I', x1, xT, tr⟩, dk⟩
  exact ⟨x, C, T, H, d, rfl, I'.os, I'.bare, I'.base, I'.hok, x1.old, xT.old, x1.trk, xT.trk, tr, z.dk dk tr.there, hE⟩
section
variable {X : Cx} {k : Nat} {f : Addr} {fd : FuncData} {ps : List Str} {sp : Sp} {dvs : List V} {ds : List Value} {W : WKD} {x : Str} {p pos : Pos} {e : Expr} {es : List Expr} {t : TA}
/-- a call that may raise, in a comprehension -/
theorem pe_callC' (F : FnOk X.prog X.w X.K X.mg X.base (CXd X.prog X.w) k f fd ps sp) (hr : Room k X.A) (hg : Gl X x) (hm : X.mg x = some (.ref f)) (hk : PySem.W.keepIn X.K (.ref f) = true) (hb : Binds X.K fd ps ds) (hd : Vals dvs ds) (ws : WshTD X W) (hx : PnX X)
    (ha : PA X (e :: es) t) (hdb : (x == ("__debug__" : Str)) = false := by decide) (he : starEach (e :: es) X.env = (false, eval e X.env) :: starEach es X.env := by rfl) (hpl : (backTo pos (starEach es X.env)).any (·.1) = false := by rfl) :
    PE X (.Call (.Name x p) (e :: es) [] pos) (tCallD sp dvs W t) := by
  intro pins s σ H Q I h
  refine wpAny_Call_Name_kw (ld_glob I hg hm ?_ hdb)
  refine PySem.W.callWith_K (h₀ := X.base) I.ok.mod.kin hk (thn (ha pos pins s σ H _ I h) fun us s1 ⟨vs, H1, I1, r, q⟩ => ⟨I1.kIn, ?_⟩) he hpl
  have r2 : Vals (vs ++ dvs) (us ++ ds) := r.append hd
  have hl : (us ++ ds).length = ps.length := by rw [← r2.length]; exact F.len _ _ _ _ q
  refine wpAny_call (codeAny_mono (F.run X.A X.stack s1 H1 ⟨us, []⟩ (us ++ ds) (vs ++ dvs) Q _ hr I1.env0 (hb s1 us I1.kIn hl) r2 q) fun r s' hq => ?_)
  cases r with
  | error e =>
    obtain ⟨x, C, T, H', d, rfl, os, bare, un, hok, nx, nT, tx, tT, tr, z, q'⟩ := hq
    have I' : Inv X pins σ H' s' := I1.call' os un hok bare fun b z => absurd z (by simp)
    exact ws pins σ H' s' x T C d I' (I1.xokP hx nx tx) (I1.xokP hx nT tT) tr z q'
  | ok fl =>
    cases fl with
    | ret u => exact I1.after hq
    | next => exact False.elim hq
    | brk => exact False.elim hq
    | cont => exact False.elim hq
end
section
variable {X : Cx} {pins : List (Addr × Obj)} {σ : St} {H : Hp} {s : Shared} {x T L : Addr} {C : Value} {d : Option Addr} {R : Value → Shared → Prop} {fenv cenv : Env} {outer : List Env}
theorem note_eq {e : Value} {a b : Env} (h : a.frame = b.frame) : noteFrame e a = noteFrame e b := by
  unfold noteFrame PySem.frameOf frameObject frameEnvs
  rw [h]
/-- the block's note -/
theorem noted_in (hx : PnX X) (hst : X.stack = fenv :: outer) (hf : fenv.frame = some L) (hfe : cenv.frame = fenv.frame) (hA : X.A = X.A) (I : Inv X pins σ H s) (x1 : XOk X pins H x) (xT : XOk X pins H T) (tr : Trc s.heap x C T) (zd : Xd s.heap x d)
    (h : ∀ s4 T4, Inv X pins σ H s4 → XOk X pins H T4 → TrcF s4.heap x C T4 → Xd s4.heap x d → R (.ref x) s4) : notedBy (model X.prog X.w) X.A cenv R (.ref x) s := by
  have frm : X.A.frames = some (fenv :: outer) := by rw [← hst]; exact I.ok.frames
  obtain ⟨oe, vs, a0, oT, ts, he, hc, h0, hd, h1, hTe, hT, hdT, h3⟩ := tr
  unfold notedBy
  rw [note_eq hfe]
  refine wpAny_mono (wpAny_dk (dsafe_noteFrame _ _) (wpAny_looks_onW (Q := fun _ s' => ∃ h4, s' = { s with heap := h4 } ∧ Heap.HeldW (hidX X s.heap [x, T]) (fenv :: outer) x C a0 L h4 ∧ s.heap.UpToSlots h4) (E := fun _ _ => False) frm hf ⟨hid_in _ _, hid_none (by simp), hst ▸ I.hidF [x, T], oe, vs, T, oT, ts, he, ⟨hc, h0⟩, hd, h1, hid_none (by simp), hTe, hT, hdT, h3⟩ fun h4 a b => ⟨h4, rfl, a, b⟩)) ?_ (fun _ _ q => q.1.elim)
  rintro _ s4 ⟨⟨h4, rfl, held, up⟩, dk⟩
  obtain ⟨I4, T4, xT4, tr4⟩ := I.leftF hx (two_ok x1 xT) held.1 held.2.2.2 up
  obtain ⟨o4, _, _, _, _, _, e4, _⟩ := id tr4
  exact h _ T4 I4 xT4 tr4 (zd.dk dk ⟨o4, e4⟩)
/-- the block is left -/
theorem passed_on {W : WKD} {what : String} {env : Env} (ws : WshF X W) (I : Inv X pins σ H s) (x1 : XOk X pins H x) (xT : XOk X pins H T) (tr : TrcF s.heap x C T) (zd : Xd s.heap x d) (h : W C d σ H) : wpAny (model X.prog X.w) X.A (PySem.passOn what (.ref x) env : Sem Value) (fun _ _ => False) X.xe s := by
  obtain ⟨oe, vs, a0, oT, ts, fl, he, hc, h0, hd, h1, hTe, hT, hdT, h3⟩ := tr
  have i3 := (Array.getElem?_eq_some_iff.mp h3).1
  unfold PySem.passOn setFlight
  refine wpAny_bind (wpAny_field he hd h1 ?_)
  rw [if_neg (show ¬ ((Value.ref T == Value.none) = true) from by simp)]
  refine wpAny_bind (wpAny_bind (wpAny_field he hd h1 ?_))
  rw [if_pos (show (Value.ref T != Value.none) = true from by simp)]
  refine wpAny_setField hT hdT i3 ?_
  generalize hv : (env.frame.elim Value.none fun f => rawInt f) = v
  have oth : ∀ b, b ≠ T → (s.heap.update T (Obj.mapFields (·.setIfInBounds 3 v))).get? b = s.heap.get? b := fun b z => Heap.get?_update_other _ _ (Ne.symm z)
  have one : ∀ b ∈ [T], XOk X pins H b := fun b hb => by
    have e : b = T := by simpa using hb
    rw [e]
    exact xT
  have I2 : Inv X pins σ H { s with heap := s.heap.update T (Obj.mapFields (·.setIfInBounds 3 v)) } := I.xstep one (fun b o e n _ => (oth b fun z => n (by simp [z])).trans e) fun b o e n _ => ⟨o.slots, (oth b fun z => n (by simp [z])).trans e⟩
  refine wpAny_throw (ws pins σ H _ x T C d I2 x1 xT ⟨oe, vs, a0, _, _, v, (oth x (Ne.symm hTe)).trans he, hc, h0, hd, h1, hTe, Heap.get?_update_self _ hT (Obj.isFreed_of_fields (Obj.data_mapFields hdT _)), Obj.data_mapFields hdT _, by simp [i3]⟩ ?_ h)
  obtain ⟨o2, e2, d2⟩ := zd
  exact ⟨o2, (oth x (Ne.symm hTe)).trans e2, d2⟩
end
section
variable {X : Cx} {scope : Scope} {fr : List (Str × Nat)} {xs : List Str} {elt iter tg : Expr} {ifs : List Expr} {pos : Pos} {tt : TT} {tgt : TG} {wi : TI}
theorem comp_coreGX {pins : List (Addr × Obj)} {σ : St} {H : Hp} {s : Shared} {E : Value → Shared → Prop} {it : Addr} {fp : List Addr} {tn : Nat → Heap → Prop} {J : It} {RR : Value → Addr → Result → Shared → Prop} {QQ : List V → Hp → Prop} (hc : X.calm = true) (O : CompG X scope fr xs)
    (hg0 : ∀ C ex s H, PG (cxG X scope fr xs C ex s H) tg tgt) (ht : ∀ C ex s H, PTs (cxG X scope fr xs C ex s H) ifs tt) {teW : WKD → TE} {Wi : WKD} (he : ∀ C ex s H ps XE Wi, PnX ((cxG X scope fr xs C ex s H).tried ps XE) → WshTD ((cxG X scope fr xs C ex s H).tried ps XE) Wi → PE ((cxG X scope fr xs C ex s H).tried ps XE) elt (teW Wi)) (hX0 : X.ex = []) (hstX : X.stack = X.env :: X.outer) (hfrX : X.env.frame = some X.env.locals) (I : Inv X pins σ H s) (T : Turn X.prog X.w X.K tg J fp it tn) (st : tn 0 s.heap) (hf : ∀ b ∈ fp, FpOk X pins H b) (hq : tCompG tgt tt (teW Wi) xs.length (frOf fr σ) J H QQ)
    (fin : ∀ D C H4 ys s4 m, Inv X pins σ (upd H4 D (.lst ys)) s4 → H4 D = none → FpOk X pins (upd H4 D (.lst ys)) C → s4.heap.Ns C m → QQ ys H4 → RR (.ref D) C (.ok .next) s4)
    (finE : ∀ D C H4 σ4 ys s4 m x T c d, Inv X pins σ (upd H4 D (.lst ys)) s4 → H4 D = none → FpOk X pins (upd H4 D (.lst ys)) C → s4.heap.Ns C m → XOk X pins (upd H4 D (.lst ys)) x → XOk X pins (upd H4 D (.lst ys)) T → x ≠ C → T ≠ C → TrcF s4.heap x c T → Xd s4.heap x d → Wi c d σ4 H4 → RR (.ref D) C (.error (.ref x)) s4) :
    wpAny (model X.prog X.w) X.A (newList []) (fun acc s₃ => wpAny (model X.prog X.w) X.A (newFunctionEnv scope X.env.globals (clOf X.env fr) [] X.env.qual none .none (some X.env)) (fun cenv s₄ =>
      codeAny (model X.prog X.w) X.A (.compStart (.ListComp elt [⟨tg, iter, ifs, 0⟩] scope pos) 0 (.ref it) acc { cenv with scope := relabel scope X.env }) (RR acc cenv.locals) s₄) E s₃) E s := by
  obtain ⟨W, ⟨m0, w0⟩, turn⟩ := hq
  have hfs : ∀ b ∈ fp, b < s.heap.objs.size := fun b hb => by
    obtain ⟨o, e, _⟩ := T.obj 0 s.heap st b hb
    exact Heap.lt_size e
  refine wpAny_newObj_type (wpAny_newFunctionEnv O.cell (by intro y hy; simp at hy) (fun h₁ hns₁ hsb₁ => ?_) O.kind)
  dsimp only at hns₁ hsb₁ ⊢
  generalize hH2 : s.heap.push { cls := .type "list", dict := none, data := .seq ([] : List Value).toArray } = g at hns₁ hsb₁ ⊢
  have hg : g = s.heap.push (LCg.lst []) := hH2.symm
  have hsz : g.objs.size = s.heap.objs.size + 1 := by rw [hg, Heap.size_push]
  have hk : ∀ b o, g.get? b = some o → h₁.get? b = some o := fun b o e => hsb₁.extBut b o (Nat.ne_of_lt (Heap.lt_size e)) (Heap.get?_push_of_some _ e)
  have kp : ∀ b o, s.heap.get? b = some o → h₁.get? b = some o := fun b o e => hk b o (by rw [hg]; exact Heap.get?_push_of_some _ e)
  have kpg : ∀ b o, s.heap.get? b = some o → g.get? b = some o := fun b o e => by rw [hg]; exact Heap.get?_push_of_some _ e
  have J0 := inv_compG (h' := h₁) (tk := s.toks + ([] : List (Str × Value)).length) O I hf hfs hg hk hns₁
  have stat : ∀ {H' : Hp} {us : List Value}, (∀ b ∈ fp, H' b = none) → ∀ b ∈ fp, FpOk (cxG X scope fr xs g.objs.size (s.heap.objs.size :: fp) { s with heap := g } H) (X.pn ++ pins ++ [(s.heap.objs.size, LCg.lst us)]) H' b := fun {H' us} hn b hb => by
    obtain ⟨_, f1, f2, f3, f4, f5⟩ := hf b hb
    refine ⟨hn b hb, ?_, fun z => (List.mem_cons.mp (I.stkSub b z)).elim f1 f2, .inl (List.mem_cons_of_mem _ hb), fun y c e => f4 y c (O.cells I e), fun p hp => ?_⟩
    · show b ≠ g.objs.size
      rw [hsz]; exact Nat.ne_of_lt (Nat.lt_succ_of_lt (hfs b hb))
    · rcases List.mem_append.mp hp with hp | hp
      · cases hp
      · rcases List.mem_append.mp hp with hp | hp
        · exact f5 p hp
        · have ep : p = (s.heap.objs.size, LCg.lst us) := by simpa using hp
          rw [ep]
          exact Nat.ne_of_gt (hfs b hb)
  have loop : codeAny (model X.prog X.w) X.A (.compLoop (.ListComp elt [⟨tg, iter, ifs, 0⟩] scope pos) 0 (.ref it) (.ref s.heap.objs.size) (compEnvC scope (clOf X.env fr) g.objs.size X.env))
      (RR (.ref s.heap.objs.size) g.objs.size) { s with heap := h₁, toks := s.toks + ([] : List (Str × Value)).length } := by
    refine compLoopG (fun n s' => ∃ i ys us H', Inv (cxG X scope fr xs g.objs.size (s.heap.objs.size :: fp) { s with heap := g } H) (X.pn ++ pins ++ [(s.heap.objs.size, LCg.lst us)]) (nons xs ++ frOf fr σ) H' s' ∧ Vals ys us ∧ tn i s'.heap ∧ (∀ b ∈ fp, H' b = none) ∧ W i n ys H') ?_ m0
      ⟨0, [], [], H, J0, .nil, T.keep 0 s.heap h₁ st fun b _ o e => kp b o e, fun b hb => (hf b hb).1, w0⟩
    rintro n s3 ⟨i, ys, us, H3, J3, hv, st3, fr3, w3⟩
    obtain ⟨hlen, hh⟩ := turn i n ys H3 w3
    have none_err : ∀ {α : Type} {t : Sem α} {Q : α → Shared → Prop} {E' : Value → Shared → Prop} {s : Shared}, wpAny (model X.prog X.w) X.A t Q (fun _ _ => False) s → wpAny (model X.prog X.w) X.A t Q E' s := fun h => wpAny_mono h (fun _ _ q => q) fun _ _ z => z.elim
    have weakN : ∀ {σ6 : St}, σ6.length = (nons xs ++ frOf fr σ).length → σ6.drop xs.length = frOf fr σ → ∀ (i : Nat) v, (nons xs ++ frOf fr σ)[i]? = some (some v) → σ6[i]? = some (some v) := fun {σ6} hl6 e6 i v e => by
      by_cases hi : i < xs.length
      · rw [List.getElem?_append_left (by simpa using hi), List.getElem?_replicate, if_pos hi] at e
        cases e
      · rw [List.getElem?_append_right (by simp; omega), ← e6, List.getElem?_drop] at e
        have : xs.length + (i - (nons xs).length) = i := by simp; omega
        rw [this] at e
        exact e
    rcases hh with ⟨stop, qn⟩ | ⟨go, N, hN, step⟩
    · refine none_err (thn (T.done (cxG X scope fr xs g.objs.size (s.heap.objs.size :: fp) { s with heap := g } H) rfl rfl rfl hc i _ s3 _ H3 _ J3 (stat fr3) st3 stop) fun r s4 ⟨hr, J4⟩ => ?_)
      subst hr
      obtain ⟨I4, nD, fC, m, hn⟩ := inv_comp_endG I hf hg J4 hv hlen
      exact fin _ _ H3 ys s4 m I4 nD fC hn qn
    · refine none_err (thn (T.item (cxG X scope fr xs g.objs.size (s.heap.objs.size :: fp) { s with heap := g } H) rfl rfl rfl hc i _ s3 _ H3 _ J3 (stat fr3) st3 go) fun r s4 ⟨u, hr, h4⟩ => ?_)
      subst hr
      refine none_err (thn h4 fun _ s5 ⟨v, H5, J5, r5, y5, st5, fr5⟩ => ?_)
      have J5' := J5.pinned (stat fr5) (T.obj _ _ st5)
      refine none_err (thn (hg0 _ _ _ _ _ s5 _ H5 v u _ J5' r5 (step v H5 y5)) fun _ s6 ⟨σ6, H6, J6, e6, q6⟩ => ?_)
      refine none_err (thn (ht _ _ _ _ _ s6 σ6 H6 _ J6 q6) fun b s6' ⟨H6', J6', q6'⟩ => ?_)
      have hl6 : σ6.length = (nons xs ++ frOf fr σ).length := J6.len.trans J3.len.symm
      cases b with
      | false =>
        rw [if_neg Bool.false_ne_true] at q6' ⊢
        obtain ⟨m', hm, w7⟩ := hN ys H6' q6'
        have pinF : ∀ b ∈ fp, ∀ o, s5.heap.get? b = some o → s6'.heap.get? b = some o ∧ H6' b = none := fun b hb o e => by
          obtain ⟨q1, q2, _⟩ := J6'.pin (b, o) (List.mem_append_right _ (List.mem_append_right _ (mem_pinsAt hb e)))
          exact ⟨q1, q2⟩
        refine ⟨m', hm, i + 1, ys, us, H6', J6'.unpinned.weak (σ' := nons xs ++ frOf fr σ) hl6.symm (weakN hl6 e6), hv, T.keep _ _ _ st5 fun b hb o e => (pinF b hb o e).1, fun b hb => ?_, w7⟩
        obtain ⟨o, e, _⟩ := T.obj _ _ st5 b hb
        exact (pinF b hb o e).2
      | true =>
        rw [if_pos rfl] at q6' ⊢
        have hP : ∀ XE, PnX ((cxG X scope fr xs g.objs.size (s.heap.objs.size :: fp) { s with heap := g } H).tried (X.pn ++ pins ++ [(s.heap.objs.size, LCg.lst us)] ++ pinsAt fp s5.heap) XE) := fun XE b hb => by
          rcases List.mem_cons.mp hb with rfl | hb
          · exact ⟨LCg.lst us, List.mem_append_right _ (List.mem_append_left _ (List.mem_append_right _ (by simp)))⟩
          · obtain ⟨o, e, _⟩ := T.obj _ _ st5 b hb
            exact ⟨o, List.mem_append_right _ (List.mem_append_right _ (mem_pinsAt hb e))⟩
        refine wpAny_mono (he _ _ _ _ (X.pn ++ pins ++ [(s.heap.objs.size, LCg.lst us)] ++ pinsAt fp s5.heap) (notedBy (model X.prog X.w) X.A (compEnvC scope (clOf X.env fr) g.objs.size X.env) fun e s' => RR (.ref s.heap.objs.size) g.objs.size (.error e) s') Wi (hP _) ?wsh [] s6' _ H6' _ J6'.tried q6') (fun u7 s7 ⟨v7, H7, J7t, r7, q7⟩ => ?body) (fun _ _ z => z)
        case wsh =>
          intro pins' σ1 H1 s1 x T' c d I1 xx xT tr zd hw
          show notedBy (model X.prog X.w) X.A (compEnvC scope (clOf X.env fr) g.objs.size X.env) (fun e s' => RR (.ref s.heap.objs.size) g.objs.size (.error e) s') (.ref x) s1
          refine noted_in (X := (cxG X scope fr xs g.objs.size (s.heap.objs.size :: fp) { s with heap := g } H).tried (X.pn ++ pins ++ [(s.heap.objs.size, LCg.lst us)] ++ pinsAt fp s5.heap) (notedBy (model X.prog X.w) X.A (compEnvC scope (clOf X.env fr) g.objs.size X.env) fun e s' => RR (.ref s.heap.objs.size) g.objs.size (.error e) s')) (L := X.env.locals) (cenv := compEnvC scope (clOf X.env fr) g.objs.size X.env) (R := fun e s' => RR (.ref s.heap.objs.size) g.objs.size (.error e) s') (hP (notedBy (model X.prog X.w) X.A (compEnvC scope (clOf X.env fr) g.objs.size X.env) fun e s' => RR (.ref s.heap.objs.size) g.objs.size (.error e) s')) hstX hfrX rfl rfl I1 xx xT tr zd fun s4 T4 I4 xT4 tr4 zd4 => ?_
          have I5 : Inv (cxG X scope fr xs g.objs.size (s.heap.objs.size :: fp) { s with heap := g } H) (X.pn ++ pins ++ [(s.heap.objs.size, LCg.lst us)]) σ1 H1 s4 := I4.untried.pins_of fun p hp => I4.untried.pin p (List.mem_append_right _ (List.mem_append_left _ hp))
          obtain ⟨I6, nD, fC, m, hn⟩ := inv_comp_endG I hf hg I5 hv hlen
          have old : ∀ {b : Addr}, g.get? b = none → s.heap.get? b = none := fun {b} hb => by
            cases q : s.heap.get? b with
            | none => rfl
            | some o =>
              have := kpg b o q
              rw [hb] at this
              cases this
          have neD : ∀ {b : Addr}, g.get? b = none → b ≠ s.heap.objs.size := fun {b} hb z => by
            rw [z, hg, Heap.get?_push_size _ rfl] at hb
            cases hb
          refine finE _ _ H1 σ1 ys s4 m x T4 c d I6 nD fC hn (I.xok hX0 (old xx.old) ?_) (I.xok hX0 (old xT4.old) ?_) xx.nl xT4.nl tr4 zd4 hw
          · rw [upd_ne (neD xx.old)]
            exact xx.trk
          · rw [upd_ne (neD xT4.old)]
            exact xT4.trk
        case body =>
        have J7 := J7t.untried
        obtain ⟨m', hm, w7⟩ := hN _ H7 q7
        obtain ⟨eD, nD, dC, dF, dd⟩ := J7.pin (s.heap.objs.size, LCg.lst us) (List.mem_append_right _ (List.mem_append_left _ (List.mem_append_right _ (by simp))))
        have hvl := hv.length
        refine append_at (hsz := by show us.toArray.size ≤ sizeLine; rw [List.size_toArray, ← hvl]; exact hlen) eD fun h8 hs8 hD8 => ?_
        have pinD : ∀ p ∈ X.pn ++ pins, p.1 ≠ s.heap.objs.size := fun p hp z => by
          have := Heap.lt_size (I.pin p hp).1
          rw [z] at this
          exact Nat.lt_irrefl _ this
        have J7a : Inv (cxG X scope fr xs g.objs.size (s.heap.objs.size :: fp) { s with heap := g } H) (X.pn ++ pins) _ H7 s7 := J7.pins_of fun p hp => J7.pin p (List.mem_append_right _ (List.mem_append_left _ (List.mem_append_left _ hp)))
        have J8 : Inv (cxG X scope fr xs g.objs.size (s.heap.objs.size :: fp) { s with heap := g } H) (X.pn ++ pins) _ H7 { s7 with heap := h8 } := J7a.turned (t' := s7.toks) (fun b o hb e => (hs8.2 b hb).trans e) nD dC (.inl List.mem_cons_self) (fun y c e z => by
          obtain ⟨w', q⟩ := I.cell y c (O.cells I e)
          have := q.lt
          rw [z] at this
          exact Nat.lt_irrefl _ this) (fun p hp => (List.mem_append.mp hp).elim (fun z => by cases z) (pinD p))
        have J9 : Inv (cxG X scope fr xs g.objs.size (s.heap.objs.size :: fp) { s with heap := g } H) (X.pn ++ pins ++ [(s.heap.objs.size, LCg.lst (us ++ [u7]))]) _ H7 { s7 with heap := h8 } := J8.pins_of fun p hp => by
          rcases List.mem_append.mp hp with hp | hp
          · exact J8.pin p (List.mem_append_right _ hp)
          · have ep : p = (s.heap.objs.size, LCg.lst (us ++ [u7])) := by simpa using hp
            subst ep
            exact ⟨hD8.trans (congrArg some (LCg.lst_snoc us u7)), nD, dC, dF, fun v z => by cases z⟩
        have J10 := J9.weak (σ' := nons xs ++ frOf fr σ) hl6.symm (weakN hl6 e6)
        have pinF : ∀ b ∈ fp, ∀ o, s5.heap.get? b = some o → s7.heap.get? b = some o ∧ H7 b = none := fun b hb o e => by
          obtain ⟨q1, q2, _⟩ := J7.pin (b, o) (List.mem_append_right _ (List.mem_append_right _ (mem_pinsAt hb e)))
          exact ⟨q1, q2⟩
        refine ⟨m', hm, i + 1, ys ++ [v7], us ++ [u7], H7, J10, hv.append (.cons r7 .nil), T.keep _ _ _ st5 fun b hb o e => (hs8.2 b (Nat.ne_of_lt (hfs b hb))).trans (pinF b hb o e).1, fun b hb => ?_, w7⟩
        obtain ⟨o, e, _⟩ := T.obj _ _ st5 b hb
        exact (pinF b hb o e).2
  exact codeAny_compStart_list loop (T.self X.A 0 _ _ _ (T.keep 0 s.heap h₁ st fun b _ o e => kp b o e) loop)
/-- what an exception of the block comes to outside -/
abbrev wOut (W : WKD) (σ : St) : WKD := fun c d _ H1 => ∀ D ys, H1 D = none → W c d σ (upd H1 D (.lst ys))
theorem comp_err {W : WKD} {σ σ4 : St} {pins : List (Addr × Obj)} {use : Option (Value → Sem Unit)} {QV : Value → Shared → Prop} {acc : Value} {D C : Addr} {H4 : Hp} {ys : List V} {s4 : Shared} {m : Str → Option Value} {x T : Addr} {c : Value} {d : Option Addr} (ws : WshF X W) (I : Inv X pins σ (upd H4 D (.lst ys)) s4) (nD : H4 D = none) (fC : FpOk X pins (upd H4 D (.lst ys)) C) (hn : s4.heap.Ns C m)
    (x1 : XOk X pins (upd H4 D (.lst ys)) x) (xT : XOk X pins (upd H4 D (.lst ys)) T) (xC : x ≠ C) (TC : T ≠ C) (tr : TrcF s4.heap x c T) (zd : Xd s4.heap x d) (hw : wOut W σ c d σ4 H4) : compPost (model X.prog X.w) X.A X.xe use QV acc C (.error (.ref x)) s4 := by
  have go : ∃ m, s4.heap.Ns C m ∧ ∀ h', Heap.SameBut C s4.heap h' → ∀ cenv : Env, cenv.locals = C → wpAny (model X.prog X.w) X.A (PySem.passOn "comprehension.variables-let-go" (.ref x) cenv : Sem Value) (fun _ _ => False) X.xe { s4 with heap := h' } := by
    refine ⟨m, hn, fun h' hs' cenv _ => ?_⟩
    obtain ⟨g0, g1, g2, g3, g4, g5⟩ := fC
    have I5 := I.turned (t' := s4.toks) (fun b o hb e => (hs'.2 b hb).trans e) g0 g1 g3 g4 g5
    obtain ⟨oe, vs, a0, oT, ts, fl, he, hc, h0, hd, h1, hTe, hT, hdT, h3⟩ := tr
    obtain ⟨o2, e2, d2⟩ := zd
    exact passed_on ws I5 x1 xT ⟨oe, vs, a0, oT, ts, fl, (hs'.2 x xC).trans he, hc, h0, hd, h1, hTe, (hs'.2 T TC).trans hT, hdT, h3⟩ ⟨o2, (hs'.2 x xC).trans e2, d2⟩ (hw D ys nD)
  cases use <;> exact go
def tAsgCompGX (i : Nat) (W : WKD) (wi : TI) (g : TG) (tt : TT) (te : WKD → TE) (n : Nat) (fr : List (Str × Nat)) : TS := fun D σ H => wi σ H fun J H1 => tCompG g tt (te (wOut W σ)) n (frOf fr σ) J H1 fun ys H2 => ∀ a, H2 a = none → D.nx (σ.set i (some (.ref a))) (upd H2 a (.lst ys))
theorem ps_setCompGX {te : WKD → TE} {W : WKD} {i : Nat} {y : Str} {py spos : Pos} (ws : WshF X W) (hX0 : X.ex = []) (hstX : X.stack = X.env :: X.outer) (hfrX : X.env.frame = some X.env.locals) (hc : X.calm = true) (hN : X.N.Nodup) (hi' : X.N[i]? = some y) (hy : X.env.scope.names.lookup y = some .local) (O : CompG X scope fr xs) (hi : PI X tg iter wi) (hg0 : ∀ C ex s H, PG (cxG X scope fr xs C ex s H) tg tgt) (ht : ∀ C ex s H, PTs (cxG X scope fr xs C ex s H) ifs tt)
    (he : ∀ C ex s H ps XE Wi, PnX ((cxG X scope fr xs C ex s H).tried ps XE) → WshTD ((cxG X scope fr xs C ex s H).tried ps XE) Wi → PE ((cxG X scope fr xs C ex s H).tried ps XE) elt (te Wi))
    (hsw : swapsWith (.ListComp elt [⟨tg, iter, ifs, 0⟩] scope pos) (some (.Name y py)) spos.line X.env = pure true := by rfl) (hs : ∀ x, foldedSetIterable iter X.env x = pure x := by intro _; rfl) :
    PS X (.Assign [.Name y py] (.ListComp elt [⟨tg, iter, ifs, 0⟩] scope pos) spos) (tAsgCompGX i W wi tgt tt te xs.length fr) := by
  intro pins s σ H D I h
  rw [exec_Assign_Name_used _ _ _ _ hsw]
  refine wpAny_bind (wpAny_standAt (wpAny_bind ?_))
  show wpAny _ X.A (do let _ ← comprehension (.ListComp elt [⟨tg, iter, ifs, 0⟩] scope pos) scope X.env _ (newList []) false (eval iter X.env) (some (assign (.Name y py) X.env))) _ _ s
  refine wpAny_bind (thn (wpAny_comprehension_free (use := some (assign (.Name y py) X.env)) (Q := fun _ s' => SP X pins D .next s') rfl hs O.clos O.kind O.names (thn (hi pins s σ H _ I h) fun xv s1 h1 => thn h1 fun itv s2 h2 => ?_)) fun _ s' hq => wpAny_pure (wpAny_pure hq))
  obtain ⟨it, fp, tn, J, H2, e, I2, T, st2, f2, q2⟩ := h2
  subst e
  refine comp_coreGX (RR := fun acc C => compPost (model X.prog X.w) X.A X.xe (some (assign (.Name y py) X.env)) (fun _ s' => SP X pins D .next s') acc C) hc O hg0 ht he hX0 hstX hfrX I2 T st2 f2 q2 ?_ ?_
  · intro a C H4 ys s4 m I4 nD fC hn q4
    obtain ⟨g0, g1, g2, g3, g4, g5⟩ := fC
    obtain ⟨oC, eC, hoC⟩ := LCg.ns_obj hn
    have I5 : Inv X (pins ++ [(C, oC)]) σ (upd H4 a (.lst ys)) s4 := I4.pins_of fun p hp => by
      rcases List.mem_append.mp hp with hp | hp
      · exact I4.pin p (List.mem_append_right _ hp)
      · have ep : p = (C, oC) := by simpa using hp
        subst ep
        obtain ⟨es, epp, hd, _⟩ := hoC
        exact ⟨eC, g0, g1, g2, fun v z => by rw [hd] at z; cases z⟩
    show wpAny _ X.A (assign (.Name y py) X.env (.ref a)) _ _ _
    refine wpAny_assign_Name (store_ok I5 hN hi' (.inl hy) (v := .ref a) rfl (fun s6 I6 => ?_) (.inr hy))
    obtain ⟨e6, _⟩ := I6.pin (C, oC) (List.mem_append_right _ (List.mem_append_right _ (by simp)))
    refine ⟨m, hoC.ns e6, fun h' hs' => ?_⟩
    exact ⟨_, _, I6.unpinned.turned (t' := s6.toks) (fun b o hb e => (hs'.2 b hb).trans e) g0 g1 g3 g4 g5, q4 a nD⟩
  · intro D C H4 σ4 ys s4 m x T c d I4 nD fC hn x1 xT xC TC tr zd hw
    exact comp_err ws I4 nD fC hn x1 xT xC TC tr zd hw
end
end L2


namespace K1
end K1

namespace K2
/-- the worths of a list of numbers, in sum -/
def S : List Nat → Nat
  | [] => 0
  | p :: r => 2 ^ p + S r
/-- adding a power that is not there sets one bit alone -/
theorem add_bit {n p : Nat} (h : n.testBit p = false) (i : Nat) : (n + 2 ^ p).testBit i = (n.testBit i || decide (i = p)) := by
  have e : n + 2 ^ p = n ||| 2 ^ p := by
    have hz : n &&& 2 ^ p = 0 := by
      apply Nat.eq_of_testBit_eq
      intro j
      rw [Nat.testBit_and, Nat.testBit_two_pow, Nat.zero_testBit]
      by_cases hj : p = j
      · subst hj; simp [h]
      · simp [hj]
    have q : ∀ m k : Nat, (m ||| k) + (m &&& k) = m + k := by
      intro m
      induction m using Nat.strongRecOn with
      | ind m ih =>
        intro n
        by_cases h0 : m = 0
        · subst h0; simp
        · have ih' := ih (m / 2) (by omega) (n / 2)
          rw [← Nat.or_div_two, ← Nat.and_div_two] at ih'
          have o1 := @Nat.or_mod_two_eq_one m n
          have a1 := @Nat.and_mod_two_eq_one m n
          omega
    have := q n (2 ^ p)
    rw [hz] at this
    omega
  rw [e, Nat.testBit_or, Nat.testBit_two_pow]
  congr 1
  exact decide_eq_decide.mpr ⟨fun h => h.symm, fun h => h.symm⟩
theorem S_bit : ∀ {D : List Nat}, D.Nodup → ∀ i, (S D).testBit i = decide (i ∈ D)
  | [], _, i => by simp [S]
  | p :: r, nd, i => by
    have ⟨h1, h2⟩ := List.nodup_cons.mp nd
    have hp : (S r).testBit p = false := by rw [S_bit h2]; exact decide_eq_false h1
    have e : S (p :: r) = S r + 2 ^ p := Nat.add_comm _ _
    rw [e, add_bit hp, S_bit h2]
    by_cases a : i = p <;> by_cases b : i ∈ r <;> simp [a, b]
/-- bits of n, from k on -/
def bitsF (k n : Nat) : List Nat := if h : n = 0 then [] else (if n % 2 = 1 then [k] else []) ++ bitsF (k + 1) (n / 2)
termination_by n
decreasing_by omega
theorem bitsF_zero (k : Nat) : bitsF k 0 = [] := by rw [bitsF]; simp
theorem bitsF_odd {k n : Nat} (h : n % 2 = 1) : bitsF k n = k :: bitsF (k + 1) (n / 2) := by
  rw [bitsF, dif_neg (by omega), if_pos h]; rfl
theorem bitsF_even {k n : Nat} (h0 : n ≠ 0) (h : ¬ n % 2 = 1) : bitsF k n = bitsF (k + 1) (n / 2) := by
  rw [bitsF, dif_neg h0, if_neg h]; rfl
theorem bitsF_ge : ∀ (f n k : Nat), n ≤ f → ∀ p ∈ bitsF k n, k ≤ p
  | 0, n, k, h => by
    have z : n = 0 := by omega
    subst z; rw [bitsF_zero]; intro p hp; cases hp
  | f + 1, n, k, h => by
    intro p hp
    by_cases z : n = 0
    · subst z; rw [bitsF_zero] at hp; cases hp
    · by_cases o : n % 2 = 1
      · rw [bitsF_odd o] at hp
        rcases List.mem_cons.mp hp with e | hp
        · omega
        · have := bitsF_ge f (n / 2) (k + 1) (by omega) p hp; omega
      · rw [bitsF_even z o] at hp
        have := bitsF_ge f (n / 2) (k + 1) (by omega) p hp; omega
theorem bitsF_sorted : ∀ (f n k : Nat), n ≤ f → (bitsF k n).Pairwise (· < ·)
  | 0, n, k, h => by
    have z : n = 0 := by omega
    subst z; rw [bitsF_zero]; exact List.Pairwise.nil
  | f + 1, n, k, h => by
    by_cases z : n = 0
    · subst z; rw [bitsF_zero]; exact List.Pairwise.nil
    · by_cases o : n % 2 = 1
      · rw [bitsF_odd o]
        exact List.Pairwise.cons (fun p hp => bitsF_ge f (n / 2) (k + 1) (by omega) p hp) (bitsF_sorted f (n / 2) (k + 1) (by omega))
      · rw [bitsF_even z o]; exact bitsF_sorted f (n / 2) (k + 1) (by omega)
theorem bitsF_sum : ∀ (f n k : Nat), n ≤ f → S (bitsF k n) = n * 2 ^ k
  | 0, n, k, h => by
    have z : n = 0 := by omega
    subst z; rw [bitsF_zero]; simp [S]
  | f + 1, n, k, h => by
    by_cases z : n = 0
    · subst z; rw [bitsF_zero]; simp [S]
    · have ih := bitsF_sum f (n / 2) (k + 1) (by omega)
      have e : n / 2 * 2 ^ (k + 1) = (2 * (n / 2)) * 2 ^ k := by rw [Nat.pow_succ, Nat.mul_comm (2 ^ k) 2, ← Nat.mul_assoc, Nat.mul_comm (n / 2) 2]
      by_cases o : n % 2 = 1
      · rw [bitsF_odd o]
        show 2 ^ k + S (bitsF (k + 1) (n / 2)) = _
        rw [ih, e]
        have : n = 2 * (n / 2) + 1 := by omega
        have e2 : n * 2 ^ k = (2 * (n / 2) + 1) * 2 ^ k := by rw [← this]
        rw [e2, Nat.add_mul, Nat.one_mul]; omega
      · rw [bitsF_even z o, ih, e]
        have : n = 2 * (n / 2) := by omega
        have e2 : n * 2 ^ k = (2 * (n / 2)) * 2 ^ k := by rw [← this]
        rw [e2]
theorem bitsF_lt : ∀ (m n k : Nat), n < 2 ^ m → ∀ p ∈ bitsF k n, p < k + m
  | 0, n, k, h => by
    have z : n = 0 := by omega
    subst z; rw [bitsF_zero]; intro p hp; cases hp
  | m + 1, n, k, h => by
    intro p hp
    have h2 : n / 2 < 2 ^ m := by rw [Nat.pow_succ] at h; omega
    by_cases z : n = 0
    · subst z; rw [bitsF_zero] at hp; cases hp
    · by_cases o : n % 2 = 1
      · rw [bitsF_odd o] at hp
        rcases List.mem_cons.mp hp with e | hp
        · omega
        · have := bitsF_lt m (n / 2) (k + 1) h2 p hp; omega
      · rw [bitsF_even z o] at hp
        have := bitsF_lt m (n / 2) (k + 1) h2 p hp; omega
theorem bitsF_len : ∀ (m n k : Nat), n < 2 ^ m → (bitsF k n).length ≤ m
  | 0, n, k, h => by
    have z : n = 0 := by omega
    subst z; rw [bitsF_zero]; exact Nat.le_refl _
  | m + 1, n, k, h => by
    have h2 : n / 2 < 2 ^ m := by rw [Nat.pow_succ] at h; omega
    by_cases z : n = 0
    · subst z; rw [bitsF_zero]; exact Nat.zero_le _
    · by_cases o : n % 2 = 1
      · rw [bitsF_odd o]
        have := bitsF_len m (n / 2) (k + 1) h2
        show _ + 1 ≤ _
        omega
      · rw [bitsF_even z o]
        have := bitsF_len m (n / 2) (k + 1) h2
        omega
theorem nodup_of_lt {l : List Nat} (h : l.Pairwise (· < ·)) : l.Nodup := h.imp fun h => Nat.ne_of_lt h
end K2

namespace K60
open PySem L2 PyProof.Rows
local macro_rules | `(tactic| walk_at "cc") => `(tactic| first | exact ⟨by decide, by decide⟩ | (show (0 : Int) < _; decide) | (show (0 : Int) < _; omega) | (show (0 : Int) ≤ _; omega) | exact ⟨by decide, by decide, by decide⟩ | exact ⟨by omega, by omega, by decide⟩ | exact Or.inl ⟨by decide, by decide⟩ | exact Or.inl ⟨by omega, by omega⟩)
local macro_rules | `(tactic| walk_at "rd") => `(tactic| repeat (first | refine ⟨_, rfl, ?_⟩ | refine ⟨_, _, rfl, rfl, ?_⟩ | refine ⟨rfl, ?_⟩ | (refine ⟨?cc, ?_⟩; (case cc => walk_at "cc"))))

def top (i : Nat) : Stmt := PySem.Challenge.pw_spinfloor_k60_answers_read.main.body.getD i (.Pass ⟨0, 0, 0, 0⟩)
abbrev s_BadText___init : Stmt := inClass (top 2) 0
abbrev s_mask_of : Stmt := top 4
abbrev s_number_of : Stmt := top 6
abbrev s_numbers_behind : Stmt := top 7
abbrev s_right : Stmt := top 8
abbrev s_row_at : Stmt := top 9
abbrev s_set_told : Stmt := top 13
abbrev s_worth_told : Stmt := top 14
abbrev s_down_told : Stmt := top 15
abbrev s_hill_told : Stmt := top 16
abbrev s_taken : Stmt := top 17
abbrev s_law_cell : Stmt := top 19
abbrev s_law_whole : Stmt := top 20
abbrev s_law_shown : Stmt := top 21
abbrev s_law_triple : Stmt := top 22
abbrev s_law_number : Stmt := top 23
abbrev s_law_row : Stmt := top 24
abbrev s_law_set : Stmt := top 25
abbrev s_law_read : Stmt := top 26
abbrev s_law_paper : Stmt := top 27
abbrev s_law_sign_spoiled : Stmt := top 28
abbrev s_law_row_spoiled : Stmt := top 29
abbrev s_law_told : Stmt := top 30
abbrev s_law : Stmt := top 31
/-! ### texts: the mathematics -/
theorem str_ext {a b : Str} (h : a.cps.toList = b.cps.toList) : a = b := Str.ext' (Array.toList_inj.mp h)
theorem str_app (a b : Str) : (a ++ b).cps.toList = a.cps.toList ++ b.cps.toList := by rw [Str.cps_append, Array.toList_append]
theorem str_len (a : Str) : a.length = a.cps.toList.length := by rw [Array.length_toList]; rfl
def spS : Str := ⟨#[32]⟩
def nlS : Str := ⟨#[10]⟩
theorem sp_eq : ((" " : String) : Str) = spS := by decide +kernel
theorem nl_eq : (("\n" : String) : Str) = nlS := by decide +kernel
theorem em_eq : (("" : String) : Str) = Str.empty := by decide +kernel
def jn (c : Nat) : List (List Nat) → List Nat
  | [] => []
  | [a] => a
  | a :: b :: r => a ++ c :: jn c (b :: r)
theorem join_cps (c : Nat) : ∀ ws : List Str, (Str.join ⟨#[c]⟩ ws).cps.toList = jn c (ws.map (·.cps.toList))
  | [] => rfl
  | [_] => rfl
  | a :: b :: r => by
    show ((a ++ ⟨#[c]⟩ ++ Str.join ⟨#[c]⟩ (b :: r)).cps.toList) = _
    rw [str_app, str_app, join_cps c (b :: r)]
    show a.cps.toList ++ [c] ++ _ = a.cps.toList ++ c :: _
    rw [List.append_assoc]
    rfl
theorem cut_one {c : Nat} : ∀ {a b x y : List Nat}, c ∉ a → c ∉ b → a ++ c :: x = b ++ c :: y → a = b ∧ x = y
  | [], [], _, _, _, _, h => ⟨rfl, (List.cons.inj h).2⟩
  | [], d :: b, _, _, _, hb, h => absurd (List.cons.inj h).1 fun z => hb (by rw [z]; exact List.mem_cons_self ..)
  | d :: a, [], _, _, ha, _, h => absurd (List.cons.inj h).1 fun z => ha (by rw [← z]; exact List.mem_cons_self ..)
  | d :: a, e :: b, x, y, ha, hb, h => by
    have q := List.cons.inj (show d :: (a ++ c :: x) = e :: (b ++ c :: y) from h)
    have r := cut_one (fun z => ha (List.mem_cons_of_mem _ z)) (fun z => hb (List.mem_cons_of_mem _ z)) q.2
    exact ⟨by rw [q.1, r.1], r.2⟩
theorem no_cut {c : Nat} {a b y : List Nat} (ha : c ∉ a) (h : a = b ++ c :: y) : False := ha (by rw [h]; simp)
theorem jn_inj {c : Nat} : ∀ {P Q : List (List Nat)}, P ≠ [] → Q ≠ [] → (∀ p ∈ P, c ∉ p) → (∀ p ∈ Q, c ∉ p) → jn c P = jn c Q → P = Q
  | [], _, h, _, _, _, _ => absurd rfl h
  | _, [], _, h, _, _, _ => absurd rfl h
  | [a], [b], _, _, _, _, h => by rw [show a = b from h]
  | [a], b :: b2 :: r, _, _, hP, _, h => (no_cut (hP a (List.mem_cons_self ..)) (show a = b ++ c :: jn c (b2 :: r) from h)).elim
  | a :: a2 :: r, [b], _, _, _, hQ, h => (no_cut (hQ b (List.mem_cons_self ..)) (show b = a ++ c :: jn c (a2 :: r) from h.symm)).elim
  | a :: a2 :: r, b :: b2 :: t, _, _, hP, hQ, h => by
    have q := cut_one (hP a (List.mem_cons_self ..)) (hQ b (List.mem_cons_self ..)) (show a ++ c :: jn c (a2 :: r) = b ++ c :: jn c (b2 :: t) from h)
    rw [q.1, jn_inj (List.cons_ne_nil _ _) (List.cons_ne_nil _ _) (fun p z => hP p (List.mem_cons_of_mem _ z)) (fun p z => hQ p (List.mem_cons_of_mem _ z)) q.2]
theorem map_cps_inj : ∀ {a b : List Str}, a.map (·.cps.toList) = b.map (·.cps.toList) → a = b
  | [], [], _ => rfl
  | [], _ :: _, h => by cases h
  | _ :: _, [], h => by cases h
  | _ :: _, _ :: _, h => by
    have q := List.cons.inj h
    rw [str_ext q.1, map_cps_inj q.2]
theorem cnt_ge (c : Nat) : ∀ l : List Nat, 0 ≤ cnt c l
  | [] => by rw [cnt_nil]; exact Int.le_refl 0
  | n :: r => by
    have := cnt_ge c r
    rw [cnt_cons]
    split <;> omega
/-- a text that was joined is split into its parts again -/
theorem split_join {c : Nat} {ws : List Str} (h0 : ws ≠ []) (hf : ∀ w ∈ ws, c ∉ w.cps.toList) : PySem.Txt.split (Str.join ⟨#[c]⟩ ws) ⟨#[c]⟩ = ws := by
  have h1 := StrLaws.join_split (Str.join ⟨#[c]⟩ ws) ⟨#[c]⟩
  have h2 := congrArg (fun s : Str => s.cps.toList) h1
  simp only [join_cps] at h2
  have ne : PySem.Txt.split (Str.join ⟨#[c]⟩ ws) ⟨#[c]⟩ ≠ [] := fun z => by
    have e := split_len (Str.join ⟨#[c]⟩ ws) c
    rw [z] at e
    have := cnt_ge c (Str.join ⟨#[c]⟩ ws).cps.toList
    simp at e
    omega
  refine map_cps_inj (jn_inj (c := c) (by simpa using ne) (by simpa using h0) (fun p hp => ?_) (fun p hp => ?_) h2)
  · obtain ⟨q, hq, rfl⟩ := List.mem_map.mp hp
    exact StrLaws.split_free _ c q hq
  · obtain ⟨q, hq, rfl⟩ := List.mem_map.mp hp
    exact hf q hq
theorem join_snoc (sep w : Str) : ∀ {ws : List Str}, ws ≠ [] → Str.join sep (ws ++ [w]) = Str.join sep ws ++ sep ++ w
  | [], h => absurd rfl h
  | [a], _ => rfl
  | a :: b :: r, _ => by
    show a ++ sep ++ Str.join sep (b :: r ++ [w]) = a ++ sep ++ Str.join sep (b :: r) ++ sep ++ w
    rw [join_snoc sep w (List.cons_ne_nil b r)]
    simp only [Str.append_assoc]
/-! figures -/
def tx (n : Nat) : Str := Str.ofString (toString ((n : Nat) : Int))
theorem tx_cps (n : Nat) : (tx n).cps.toList = (Nat.toDigits 10 n).map Char.toNat := PySem.W.KIN.signs_num n
theorem tx_dig (n : Nat) : ∀ c ∈ (tx n).cps.toList, 48 ≤ c ∧ c ≤ 57 := fun c hc => by
  rw [tx_cps] at hc
  obtain ⟨ch, hch, e⟩ := List.mem_map.mp hc
  rw [← e]
  exact digit_range (Nat.isDigit_of_mem_toDigits (by decide) (by decide) hch)
theorem digs_rec {m : Nat} (h : 10 ≤ m) : Nat.toDigits 10 m = Nat.toDigits 10 (m / 10) ++ [Nat.digitChar (m % 10)] := by
  have hm : m % 10 < 10 := Nat.mod_lt m (by decide)
  have t := Nat.toDigits_append_toDigits (b := 10) (n := m / 10) (d := m % 10) (by decide) (by omega) hm
  rw [Nat.div_add_mod, Nat.toDigits_of_lt_base hm] at t
  exact t.symm
theorem digs_len : ∀ (k m : Nat), m < 10 ^ (k + 1) → (Nat.toDigits 10 m).length ≤ k + 1
  | 0, m, h => by rw [Nat.toDigits_of_lt_base (by omega)]; exact Nat.le_refl 1
  | k + 1, m, h => by
    by_cases z : m < 10
    · rw [Nat.toDigits_of_lt_base z]
      show 1 ≤ _
      omega
    · rw [digs_rec (by omega), List.length_append]
      have := digs_len k (m / 10) (by rw [Nat.pow_succ] at h; omega)
      show _ + 1 ≤ _
      omega
theorem tx_len {k n : Nat} (h : n < 10 ^ (k + 1)) : (tx n).length ≤ k + 1 := by
  rw [str_len, tx_cps, List.length_map]
  exact digs_len k n h
/-! words read as numbers -/
def dig (w : Str) : Bool := w.cps.toList.all fun c => decide (48 ≤ c) && decide (c ≤ 57)
def nOf (figs : Nat) (w : Str) : Option Nat := if w.cps.toList = [] ∨ figs < w.length ∨ dig w = false then none else if w.cps.toList.head? = some 48 ∧ w.length ≠ 1 then none else some (PySem.NumText.digitsVal w.cps.toList)

theorem bt_str : bootBuiltins "str" = some (.type "str") := by decide +kernel
theorem same_new {H : Hp} {p : Addr} (h : H p = none) (o : HO) : Same H (upd H p o) := fun b u q => by rw [upd_ne (ne_of_none q h)]; exact q
theorem same_upd {H H2 : Hp} {l : Addr} (h : Same H H2) (hl : H l = none) (o : HO) : Same H (upd H2 l o) := fun b u q => by rw [upd_ne (ne_of_none q hl)]; exact h b u q
def iV (p : Nat) : V := .int (p : Int)

theorem asc_ext : ∀ {a b : List Nat}, a.Pairwise (· < ·) → b.Pairwise (· < ·) → (∀ x, x ∈ a ↔ x ∈ b) → a = b
  | [], [], _, _, _ => rfl
  | [], y :: b, _, _, h => absurd ((h y).mpr (by simp)) (by simp)
  | x :: a, [], _, _, h => absurd ((h x).mp (by simp)) (by simp)
  | x :: a, y :: b, ha, hb, h => by
    obtain ⟨a1, a2⟩ := List.pairwise_cons.mp ha
    obtain ⟨b1, b2⟩ := List.pairwise_cons.mp hb
    have e : x = y := by
      have h1 := (h x).mp (by simp)
      have h2 := (h y).mpr (by simp)
      rcases List.mem_cons.mp h1 with z | z
      · exact z
      · rcases List.mem_cons.mp h2 with z2 | z2
        · exact z2.symm
        · have := b1 _ z
          have := a1 _ z2
          omega
    subst e
    rw [asc_ext a2 b2 fun z => ?_]
    constructor
    · intro hz
      rcases List.mem_cons.mp ((h z).mp (List.mem_cons_of_mem _ hz)) with q | q
      · have := a1 _ hz; omega
      · exact q
    · intro hz
      rcases List.mem_cons.mp ((h z).mpr (List.mem_cons_of_mem _ hz)) with q | q
      · have := b1 _ hz; omega
      · exact q
theorem bits_rng {M m : Nat} (h : M < 2 ^ m) : K2.bitsF 0 M = (List.range m).filter fun p => M.testBit p := by
  have s1 := K2.bitsF_sorted M M 0 (Nat.le_refl _)
  have e : K2.S (K2.bitsF 0 M) = M := by
    have := K2.bitsF_sum M M 0 (Nat.le_refl _)
    rw [this, Nat.pow_zero, Nat.mul_one]
  refine asc_ext s1 (List.pairwise_lt_range.filter _) fun x => ?_
  have b := K2.S_bit (K2.nodup_of_lt s1) x
  rw [e] at b
  rw [List.mem_filter, List.mem_range, b, decide_eq_true_iff]
  constructor
  · intro hx
    exact ⟨by have := K2.bitsF_lt m M 0 h x hx; omega, hx⟩
  · exact fun hx => hx.2

theorem andN (a b : Nat) : Builtin.bitAnd (a : Int) (b : Int) = ((a &&& b : Nat) : Int) := by
  rw [PyProof.Rows.bitAnd_pp (Int.natCast_nonneg _) (Int.natCast_nonneg _), Int.toNat_natCast, Int.toNat_natCast]
theorem orN (a b : Nat) : Builtin.bitOr (a : Int) (b : Int) = ((a ||| b : Nat) : Int) := by
  rw [PyProof.Rows.bitOr_and, andN]
  have q := PyProof.Rows.nat_or_add_and a b
  omega
theorem shlN (p : Nat) : (1 : Int) * 2 ^ ((p : Nat) : Int).toNat = ((2 ^ p : Nat) : Int) := by
  rw [Int.one_mul, Int.toNat_natCast, Int.natCast_pow]
  rfl
def maskL (ks : List Nat) : Nat := ks.foldl (fun m k => m ||| 2 ^ k) 0
def spMask (K : PySem.W.Frag) : Sp := fun vs H Q _ => ∃ (a : Addr) (ks : List Nat), vs = [.ref a] ∧ SqL K H a (ks.map iV) ∧ (∀ k ∈ ks, k < 80) ∧ Q (.int ((maskL ks : Nat) : Int)) H
section
variable {P : Program} {w : World} {K : PySem.W.Frag} {mg : Str → Option Value} {base : Heap}
theorem sc_mask_of : FnScope ["places", "mask", "place"] ["places"] (defScope s_mask_of) := ⟨rfl, rfl, rfl, by decide +kernel, rfl, by decide +kernel, by decide +kernel⟩
theorem ok_mask {f : Addr} {fd : FuncData} (F : Fun K "mask_of" "mask_of" s_mask_of f fd) : FnOk P w K mg base CX0 1 f fd ["places"] (spMask K) := by
  refine F.ok sc_mask_of (fun vs H Q E h => ?_) (fun cdv A outer s H vs Q E hr h => ?_)
  · obtain ⟨a, ks, rfl, _⟩ := h
    rfl
  obtain ⟨a, ks, rfl, hS, k80, q⟩ := h
  refine ⟨_, (pss_cons (ps_set (i := 1) sc_mask_of.nd rfl (Or.inl rfl) pe_int)
      (pss_cons (ps_for PassesOwn.never rfl (pi_list (pv 0)) (pg_name (i := 2) sc_mask_of.nd rfl (Or.inl rfl)) (pss_one (ps_set (i := 1) sc_mask_of.nd rfl (Or.inl rfl) (pe_op op_or (pv 1) (pe_op op_shl pe_int (pv 2))))))
      (pss_one (ps_ret (pv 1))))), ?_⟩
  refine ⟨_, rfl, a, rfl, ⟨_, hS⟩, for_list (K := K) (xs := ks.map iV) (fun i σ H2 => ∃ v2, σ = [some (.ref a), some (.int ((maskL (ks.take i) : Nat) : Int)), v2] ∧ H2 = H) ⟨_, rfl, rfl⟩ (fun i σ H2 _ ⟨_, _, z⟩ => by rw [z]; exact hS) ?_ ?_⟩
  · rintro i x σ H2 hx ⟨v2, rfl, rfl⟩
    rw [List.getElem?_map] at hx
    obtain ⟨k, hk, rfl⟩ := Option.map_eq_some_iff.mp hx
    have kb := k80 k (List.mem_of_getElem? hk)
    refine ⟨_, rfl, _, rfl, _, _, rfl, rfl, ⟨by show (0 : Int) ≤ (k : Int); omega, by show (k : Int) ≤ 1000000; omega, by decide⟩, _, _, rfl, rfl, ?_⟩
    have e : Builtin.bitOr ((maskL (ks.take i) : Nat) : Int) (1 * 2 ^ ((k : Nat) : Int).toNat) = ((maskL (ks.take (i + 1)) : Nat) : Int) := by
      rw [shlN, orN]
      unfold maskL
      rw [List.take_add_one, hk, List.foldl_append]
      rfl
    simp only [e]
    exact ⟨_, rfl, rfl⟩
  · rintro σ H2 ⟨v2, rfl, rfl⟩
    rw [List.length_map, List.take_length]
    exact ⟨_, rfl, q⟩
end

end K60


namespace K60
open PySem L2 PyProof.Rows
local macro_rules | `(tactic| walk_at "cc") => `(tactic| first | exact ⟨by decide, by decide⟩ | (show (0 : Int) < _; decide) | (show (0 : Int) < _; omega) | (show (0 : Int) ≤ _; omega) | exact ⟨by decide, by decide, by decide⟩ | exact ⟨by omega, by omega, by decide⟩ | exact Or.inl ⟨by decide, by decide⟩ | exact Or.inl ⟨by omega, by omega⟩)
local macro_rules | `(tactic| walk_at "rd") => `(tactic| repeat (first | refine ⟨_, rfl, ?_⟩ | refine ⟨_, _, rfl, rfl, ?_⟩ | refine ⟨rfl, ?_⟩ | (refine ⟨?cc, ?_⟩; (case cc => walk_at "cc"))))

structure Txt (mg : Str → Option Value) : Prop where
  n_len : mg "len" = none
  n_int : mg "int" = none
  n_str : mg "str" = none
  n_bool : mg "bool" = none
  n_list : mg "list" = none
  n_tuple : mg "tuple" = none
  n_range : mg "range" = none
  n_min : mg "min" = none
  n_all : mg "all" = none
  n_zip : mg "zip" = none
  n_enumerate : mg "enumerate" = none
  n_isinstance : mg "isinstance" = none
  n_max : mg "max" = none
  figs : ∃ t, mg "MOST_FIGURES" = some (.int 40 t)
  last : ∃ t, mg "LAST_NUMBER" = some (.int 79 t)
theorem at_hd {α : Type} {x : α} {xs : List α} : atI (x :: xs) 0 = some x := atI_nat (j := 0) rfl
theorem log_small {n : Nat} (h : n < 10 ^ 40) : ((n : Int)).natAbs.log2 < 1920 := by
  rw [Int.natAbs_natCast]
  by_cases z : n = 0
  · subst z; decide
  · exact (Nat.log2_lt z).mpr (Nat.lt_of_lt_of_le h (by decide +kernel))
def rowT (ws : List Str) : Str := Str.join spS ws ++ nlS
theorem sum_len : ∀ {ws : List Str} {k : Nat}, (∀ w ∈ ws, w.length ≤ k) → (ws.map (·.length)).sum ≤ ws.length * k
  | [], _, _ => by simp
  | w :: ws, k, h => by
    have := sum_len (ws := ws) fun x hx => h x (List.mem_cons_of_mem _ hx)
    have := h w (List.mem_cons_self ..)
    rw [List.map_cons, List.sum_cons, List.length_cons, Nat.succ_mul]
    omega
theorem join_len (c : Nat) : ∀ ws : List Str, (Str.join ⟨#[c]⟩ ws).length ≤ (ws.map (·.length)).sum + ws.length
  | [] => Nat.le_refl 0
  | [a] => by show a.length ≤ a.length + 0 + 1; omega
  | a :: b :: r => by
    have := join_len c (b :: r)
    show (a ++ ⟨#[c]⟩ ++ Str.join ⟨#[c]⟩ (b :: r)).length ≤ _
    rw [Str.length_append, Str.length_append, List.map_cons, List.sum_cons, List.length_cons]
    show a.length + 1 + _ ≤ _
    omega
def oV : Option Nat → V
  | none => .non
  | some n => .int (n : Int)
def Asc (w : Str) : Prop := w.cps.all (· < 128) = true
def spNum : Sp := fun vs H Q _ => ∃ (w : Str) (k : Nat), vs = [.str w, .int (k : Int)] ∧ k ≤ 600 ∧ w.length ≤ 400000 ∧ Asc w ∧ ∀ H', Same H H' → Q (oV (nOf k w)) H'
section
variable {P : Program} {w : World} {K : PySem.W.Frag} {mg : Str → Option Value} {base : Heap}
theorem sc_number_of : FnScope ["word", "figures"] ["word", "figures"] (defScope s_number_of) := ⟨rfl, rfl, rfl, by decide +kernel, rfl, by decide +kernel, by decide +kernel⟩
theorem ok_num {f : Addr} {fd : FuncData} (F : Fun K "number_of" "number_of" s_number_of f fd) (T : Txt mg) : FnOk P w K mg base CX0 1 f fd ["word", "figures"] spNum := by
  refine F.ok sc_number_of (fun vs H Q E h => ?_) (fun cdv A outer s H vs Q E hr h => ?_)
  · obtain ⟨a, ws, rfl, _⟩ := h
    rfl
  obtain ⟨w, k, rfl, hk, hl, ha, kk⟩ := h
  have s640 : (400000 : Nat) ≤ sizeLine := by decide
  refine ⟨_, (pss_cons (ps_if (PW.pt (pw_or (pt_cmpR op_eq (pv 0) pe_str (nomark _)) (pw_or (pt_cmpR op_gt (pe_callB call_len_str (by rfl) T.n_len bt_len (pa_cons (pv 0) pa_nil)) (pv 1) (nomark _)) (pw_or1 (pt_not (pt_val (pe_callB (call_allB rfl) (by rfl) T.n_all bt_all (pa_cons (pe_comp rfl (fr := []) (by exact CompOk.plain (by rfl) (by decide +kernel) (by rfl) (by decide +kernel) (by rfl) (by decide +kernel)) (pi_str (pv 0)) (fun C ex s H => (pe_cmpR op_in_str (pv 0) pe_str (by with_unfolding_all rfl)))) pa_nil)))))))) (pss_one (ps_ret pe_non)) pss_nil)
      (pss_cons (ps_if (PW.pt (pw_and (pt_cmpR op_eq (pe_ix ix_str (pv 0) pe_int (fun _ _ => rfl)) pe_str (nomark _)) (pw_and1 (pt_cmpR op_ne (pv 0) pe_str (nomark _))))) (pss_one (ps_ret pe_non)) pss_nil)
      (pss_one (ps_ret (pe_callTy call_intT (by rfl) T.n_int bt_int (pa_cons (pv 0) pa_nil)))))), ?_⟩
  have eE : decide (V.str w = V.str (("" : String) : Str)) = decide (w.cps.toList = []) := decide_eq_decide.mpr ⟨fun z => by rw [V.str.inj z, em_eq]; rfl, fun z => by rw [em_eq, str_ext (a := w) (b := Str.empty) z]⟩
  refine ⟨_, rfl, rfl, _, rfl, ?_⟩
  rw [eE]
  have kN : nOf k w = none → ∀ H', Same H H' → Q .non H' := fun z H' s => by
    have := kk H' s
    rwa [z] at this
  refine ite2 (fun c => iteT (kN (if_pos (.inl (of_decide_eq_true c))) _ fun _ _ q => q)) (fun c => ?_)
  have ne : w.cps.toList ≠ [] := fun z => c (decide_eq_true z)
  refine ⟨_, rfl, w, rfl, Nat.le_trans hl s640, _, rfl, _, _, rfl, rfl, _, rfl, ite2 (fun c2 => iteT (kN (if_pos (.inr (.inl (by have := of_decide_eq_true c2; omega)))) _ fun _ _ q => q)) (fun c2 => ?_)⟩
  have le : w.length ≤ k := by
    have : ¬ ((k : Int) < (w.length : Int)) := fun z => c2 (decide_eq_true z)
    omega
  refine ⟨_, rfl, w, rfl, ha, comp_str (x := w) (fun i ys H2 => ys = (w.cps.toList.take i).map (fun c => V.bl (decide (48 ≤ c) && decide (c ≤ 57))) ∧ H2 = H) (Nat.le_trans hl s640) ⟨rfl, rfl⟩ ?_ ?_⟩
  · rintro i d ys H2 hd ⟨rfl, rfl⟩
    refine ⟨_, rfl, _, _, rfl, rfl, ?_, rfl⟩
    have fo := StrLaws.found_one (("0123456789" : String) : Str) d
    have e10 : (("0123456789" : String) : Str).cps.toList = [48, 49, 50, 51, 52, 53, 54, 55, 56, 57] := by decide +kernel
    rw [e10] at fo
    rw [fo, List.take_add_one, Array.getElem?_toList, hd, List.map_append]
    have : decide (d ∈ [48, 49, 50, 51, 52, 53, 54, 55, 56, 57]) = (decide (48 ≤ d) && decide (d ≤ 57)) := by
      rw [Bool.eq_iff_iff, Bool.and_eq_true, decide_eq_true_iff, decide_eq_true_iff, decide_eq_true_iff]
      simp only [List.mem_cons, List.not_mem_nil, or_false]
      omega
    rw [this]
    rfl
  · rintro ys H2 _ ⟨rfl, rfl⟩ D hD
    have eT : w.cps.toList.take w.cps.size = w.cps.toList := by rw [← Array.length_toList, List.take_length]
    rw [eT]
    refine ⟨D, w.cps.toList.map (fun c => decide (48 ≤ c) && decide (c ≤ 57)), rfl, SqL.of (by rw [upd_same, List.map_map]; rfl), _, rfl, ?_⟩
    have ea : (w.cps.toList.map (fun c => decide (48 ≤ c) && decide (c ≤ 57))).all id = dig w := by unfold dig; rw [List.all_map]; rfl
    rw [ea]
    have sD : Same H2 (upd H2 D (.lst (w.cps.toList.map (fun c => V.bl (decide (48 ≤ c) && decide (c ≤ 57)))))) := same_new hD _
    cases hd : dig w with
    | false => exact iteT (kN (if_pos (.inr (.inr hd))) _ sD)
    | true =>
      refine iteF ?_
      have n1 : ¬ (w.cps.toList = [] ∨ k < w.length ∨ dig w = false) := by
        rintro (z | z | z)
        · exact ne z
        · omega
        · rw [hd] at z; cases z
      obtain ⟨h0, tl, ew⟩ := List.exists_cons_of_ne_nil ne
      have ad : PySem.NumText.AllDigits w.cps.toList := fun c hc => by
        have := List.all_eq_true.mp hd c hc
        rw [Bool.and_eq_true] at this
        exact ⟨of_decide_eq_true this.1, of_decide_eq_true this.2⟩
      have fin : ¬ (w.cps.toList.head? = some 48 ∧ w.length ≠ 1) → tRet (tCB (fun xs H Q => ∃ z n, xs = [V.str z] ∧ intText? z = some n ∧ z.length ≤ 640 ∧ Q (V.int n) H) (tCons (tVar 0) tNil)) { nx := fun x H' => Q V.non H', rt := Q } (L2.start [Str.ofString "word", Str.ofString "figures"] [V.str w, V.int (k : Int)]) (upd H2 D (.lst (w.cps.toList.map (fun c => V.bl (decide (48 ≤ c) && decide (c ≤ 57)))))) := fun n2 => by
        refine ⟨_, rfl, w, _, rfl, intText_digits ad ne (by omega), by omega, ?_⟩
        have := kk _ sD
        unfold nOf at this
        rw [if_neg n1, if_neg n2] at this
        exact this
      refine ⟨_, rfl, w, 0, h0, rfl, rfl, Nat.le_trans hl s640, by rw [ew]; exact at_hd, rfl, _, rfl, ite2 (fun c3 => ?_) (fun c3 => ?_)⟩
      · have e0 : h0 = 48 := by
          have z := V.str.inj (of_decide_eq_true c3)
          have z2 := congrArg (fun s : Str => s.cps.toList) z
          have e48 : (("0" : String) : Str).cps.toList = [48] := by decide +kernel
          rw [e48] at z2
          exact (List.cons.inj z2).1
        refine ⟨_, rfl, rfl, _, rfl, ite2 (fun c4 => ?_) (fun c4 => ?_)⟩
        · refine kN ?_ _ sD
          unfold nOf
          rw [if_neg n1, if_pos]
          refine ⟨by rw [ew, e0]; rfl, fun z => ?_⟩
          have z3 : w = (("0" : String) : Str) := str_ext (by
            have e48 : (("0" : String) : Str).cps.toList = [48] := by decide +kernel
            rw [str_len, ew] at z
            have : tl = [] := List.length_eq_zero_iff.mp (by simpa using z)
            rw [e48, ew, this, e0])
          rw [z3] at c4
          simp at c4
        · refine fin fun ⟨_, z⟩ => z ?_
          have z3 : w = (("0" : String) : Str) := by
            have : ¬ (!decide (V.str w = V.str (("0" : String) : Str))) = true := c4
            simpa using this
          rw [z3]
          decide +kernel
      · refine iteF (fin fun ⟨z, _⟩ => c3 (decide_eq_true ?_))
        rw [ew] at z
        cases z
        have : (⟨#[48]⟩ : Str) = (("0" : String) : Str) := by decide +kernel
        rw [this]
end

end K60


namespace K60
open PySem L2 PyProof.Rows
local macro_rules | `(tactic| walk_at "cc") => `(tactic| first | exact ⟨by decide, by decide⟩ | (show (0 : Int) < _; decide) | (show (0 : Int) < _; omega) | (show (0 : Int) ≤ _; omega) | exact ⟨by decide, by decide, by decide⟩ | exact ⟨by omega, by omega, by decide⟩ | exact Or.inl ⟨by decide, by decide⟩ | exact Or.inl ⟨by omega, by omega⟩)
local macro_rules | `(tactic| walk_at "rd") => `(tactic| repeat (first | refine ⟨_, rfl, ?_⟩ | refine ⟨_, _, rfl, rfl, ?_⟩ | refine ⟨rfl, ?_⟩ | (refine ⟨?cc, ?_⟩; (case cc => walk_at "cc"))))

/-- the numbers behind a row's first word -/
def behind (first row : Str) (k : Nat) : Option (List Nat) := match PySem.Txt.split row spS with
  | [] => none
  | w :: ws => if w = first ∧ (ws.map (nOf k)).all Option.isSome = true then some (ws.map fun z => (nOf k z).getD 0) else none
def lV (H : Hp) (v : V) : Option (List Nat) → Prop
  | none => v = .non
  | some ns => ∃ a, v = .ref a ∧ H a = some (.lst (ns.map iV))
def spBeh : Sp := fun vs H Q _ => ∃ (first row : Str) (k : Nat), vs = [.str first, .str row, .int (k : Int)] ∧ k ≤ 600 ∧ row.length ≤ 300000 ∧ Asc row ∧ ∀ v H', Same H H' → lV H' v (behind first row k) → Q v H'
theorem split_ne (row : Str) (c : Nat) : PySem.Txt.split row ⟨#[c]⟩ ≠ [] := fun z => by
  have e := split_len row c
  rw [z] at e
  have := cnt_ge c row.cps.toList
  simp at e
  omega
theorem jn_mem {c d : Nat} : ∀ {P : List (List Nat)} {p : List Nat}, p ∈ P → d ∈ p → d ∈ jn c P
  | [a], p, hp, hd => by
    rw [List.mem_singleton.mp hp] at hd
    exact hd
  | a :: b :: r, p, hp, hd => by
    show d ∈ a ++ c :: jn c (b :: r)
    rcases List.mem_cons.mp hp with rfl | hp
    · exact List.mem_append_left _ hd
    · exact List.mem_append_right _ (List.mem_cons_of_mem _ (jn_mem hp hd))
theorem jn_len {c : Nat} : ∀ {P : List (List Nat)} {p : List Nat}, p ∈ P → p.length ≤ (jn c P).length
  | [a], p, hp => by rw [List.mem_singleton.mp hp]; exact Nat.le_refl _
  | a :: b :: r, p, hp => by
    show _ ≤ (a ++ c :: jn c (b :: r)).length
    rw [List.length_append, List.length_cons]
    rcases List.mem_cons.mp hp with rfl | hp
    · omega
    · have := jn_len (c := c) hp
      omega
theorem split_asc {row w : Str} {c : Nat} (h : Asc row) (hw : w ∈ PySem.Txt.split row ⟨#[c]⟩) : Asc w ∧ w.length ≤ row.length := by
  have h2 := congrArg (fun s : Str => s.cps.toList) (StrLaws.join_split row ⟨#[c]⟩)
  simp only [join_cps] at h2
  have hm : w.cps.toList ∈ (PySem.Txt.split row ⟨#[c]⟩).map (·.cps.toList) := List.mem_map.mpr ⟨w, hw, rfl⟩
  constructor
  · unfold Asc at h ⊢
    rw [← Array.all_toList] at h ⊢
    rw [List.all_eq_true] at h ⊢
    intro x hx
    refine h x ?_
    rw [← h2]
    exact jn_mem hm hx
  · rw [str_len, str_len, ← h2]
    exact jn_len hm
theorem cut_tail (xs : List V) : cutV xs (some 1) none = xs.drop 1 := by
  unfold cutV
  have q := HT.sIx_nat xs.length 0 1
  rw [show ((1 : Nat) : Int) = (1 : Int) from rfl] at q
  rw [q, HT.sIx_none]
  rw [List.take_of_length_le (by rw [List.length_drop]; omega)]
  by_cases h : 1 ≤ xs.length
  · rw [Nat.min_eq_left h]
  · have e : xs = [] := List.length_eq_zero_iff.mp (by omega)
    subst e
    rfl
theorem in_non (k : Nat) : ∀ zs : List Str, inV .non (zs.map fun z => oV (nOf k z)) = !((zs.map (nOf k)).all Option.isSome)
  | [] => rfl
  | z :: zs => by
    have ih := in_non k zs
    unfold inV at ih ⊢
    rw [List.map_cons, List.any_cons, ih, List.map_cons, List.all_cons]
    cases nOf k z <;> rfl
theorem flat_oV (k : Nat) : ∀ zs : List Str, (zs.map fun z => oV (nOf k z)).all flatV = true
  | [] => rfl
  | z :: zs => by
    rw [List.map_cons, List.all_cons, flat_oV k zs]
    cases nOf k z <;> rfl
theorem oV_some {k : Nat} : ∀ {zs : List Str}, (zs.map (nOf k)).all Option.isSome = true → (zs.map fun z => oV (nOf k z)) = (zs.map fun z => (nOf k z).getD 0).map iV
  | [], _ => rfl
  | z :: zs, h => by
    rw [List.map_cons, List.all_cons, Bool.and_eq_true] at h
    obtain ⟨n, hn⟩ := Option.isSome_iff_exists.mp h.1
    rw [List.map_cons, List.map_cons, List.map_cons, oV_some h.2, hn]
    rfl
section
variable {P : Program} {w : World} {K : PySem.W.Frag} {mg : Str → Option Value} {base : Heap}
theorem sc_numbers_behind : FnScope ["first", "row", "figures", "words", "numbers"] ["first", "row", "figures"] (defScope s_numbers_behind) := ⟨rfl, rfl, rfl, by decide +kernel, rfl, by decide +kernel, by decide +kernel⟩
theorem ok_beh {f f1 : Addr} {fd fd1 : FuncData} (F : Fun K "numbers_behind" "numbers_behind" s_numbers_behind f fd) (G_number_of : Cal P w K mg base 1 "number_of" ["word", "figures"] spNum f1 fd1) : FnOk P w K mg base CX0 2 f fd ["first", "row", "figures"] spBeh := by
  refine F.ok sc_numbers_behind (fun vs H Q E h => ?_) (fun cdv A outer s H vs Q E hr h => ?_)
  · obtain ⟨v, i, k, rfl, _⟩ := h
    rfl
  obtain ⟨first, row, k, rfl, hk, hl, ha, kk⟩ := h
  refine ⟨_, (pss_cons (ps_set (i := 3) sc_numbers_behind.nd rfl (Or.inl rfl) (pe_bm PySem.F.plainAttrs_str PySem.F.slot_str_split PySem.F.type_str_split mt_split (pv 1) (pa_cons pe_str pa_nil)))
      (pss_cons (ps_setComp (i := 4) rfl sc_numbers_behind.nd rfl rfl (fr := [("figures", 2)]) (by exact CompOk.one (by rfl) (by decide +kernel) (by rfl) (by decide +kernel) (by rfl) (by decide +kernel) (by rfl) (by rfl) (by decide +kernel) (by rfl)) (pi_list (pe_slice sl_list (pv 3) (po_some pe_int) po_none)) (fun C ex s H => (pe_call G_number_of.ok (hr.mono (by decide)) rfl G_number_of.mg G_number_of.kp G_number_of.bn .nil pass0 (pa_cons (pv 0) (pa_cons (pv 1) pa_nil)))))
      (pss_cons (ps_if (PW.pt (pw_or (pt_cmpR op_ne (pe_ix ix_list (pv 3) pe_int (fun _ _ => rfl)) (pv 0) (nomark _)) (pw_or1 (pt_cmpR op_in_seq pe_non (pv 4) (by with_unfolding_all rfl))))) (pss_one (ps_ret pe_non)) pss_nil)
      (pss_one (ps_ret (pv 4)))))), ?_⟩
  rw [sp_eq]
  have sl := split_le row spS
  have s1 : (400000 : Nat) ≤ sizeLine := by decide
  refine ⟨_, rfl, rfl, row, spS, rfl, rfl, rfl, by omega, fun l hl => ?_⟩
  obtain ⟨w0, ws, ew⟩ := List.exists_cons_of_ne_nil (split_ne row 32)
  have ew' : PySem.Txt.split row spS = w0 :: ws := ew
  rw [ew']
  rw [ew', List.length_cons] at sl
  refine ⟨_, rfl, _, rfl, l, _, rfl, SqL.of upd_same, fun c hc => ?_⟩
  have ec : cutV ((w0 :: ws).map V.str) (some 1) none = ws.map V.str := cut_tail _
  rw [ec]
  refine ⟨c, rfl, ⟨_, SqL.of upd_same⟩, ?_⟩
  have sA : Same H (upd H l (.lst ((w0 :: ws).map V.str))) := same_new hl _
  have sB := same_new hc (.lst (ws.map V.str))
  generalize hH1 : upd (upd H l (.lst ((w0 :: ws).map V.str))) c (.lst (ws.map V.str)) = H1 at sB ⊢
  have cH1 : H1 c = some (.lst (ws.map V.str)) := by rw [← hH1, upd_same]
  have lH1 : H1 l = some (.lst ((w0 :: ws).map V.str)) := sB _ _ upd_same
  have aw : ∀ z ∈ w0 :: ws, Asc z ∧ z.length ≤ row.length := fun z hz => split_asc (c := 32) ha (by rw [ew]; exact hz)
  refine comp_list (K := K) (xs := ws.map V.str) (fun i ys H2 => ys = (ws.take i).map (fun z => oV (nOf k z)) ∧ Same H1 H2) (by rw [List.length_map]; omega) ⟨rfl, fun _ _ q => q⟩ (fun i ys H2 _ ⟨_, z⟩ => SqL.of (z _ _ cH1)) ?_ ?_
  · rintro i x ys H2 hx ⟨rfl, s2⟩
    rw [List.getElem?_map] at hx
    obtain ⟨z, hz, rfl⟩ := Option.map_eq_some_iff.mp hx
    have az := aw z (List.mem_cons_of_mem _ (List.mem_of_getElem? hz))
    refine ⟨_, rfl, _, rfl, z, k, rfl, hk, by omega, az.1, fun H' s' => ⟨?_, s2.trans s'⟩⟩
    rw [List.take_add_one, hz, List.map_append]
    rfl
  · rintro ys H2 _ ⟨rfl, s2⟩ D hD
    rw [List.length_map, List.take_length]
    have sD := same_new hD (.lst (ws.map fun z => oV (nOf k z)))
    have sAll : Same H (upd H2 D (.lst (ws.map fun z => oV (nOf k z)))) := sA.trans (sB.trans (s2.trans sD))
    have eb : behind first row k = if w0 = first ∧ (ws.map (nOf k)).all Option.isSome = true then some (ws.map fun z => (nOf k z).getD 0) else none := by
      unfold behind
      rw [ew']
    have ed : (!decide (V.str w0 = V.str first)) = !decide (w0 = first) := congrArg _ (decide_eq_decide.mpr ⟨V.str.inj, congrArg V.str⟩)
    refine ⟨_, rfl, l, _, 0, .str w0, rfl, rfl, SqL.of (sD _ _ (s2 _ _ lH1)), at_hd, _, rfl, rfl, _, rfl, ?_⟩
    rw [ed]
    refine ite2 (fun c1 => iteT (kk _ _ sAll ?_)) (fun c1 => ?_)
    · rw [eb, if_neg fun z => by rw [decide_eq_true z.1] at c1; cases c1]
      rfl
    refine ⟨_, rfl, D, _, rfl, .inl (SqL.of upd_same), rfl, flat_oV k ws, _, rfl, ?_⟩
    have ef : (if false = true then !inV V.non (ws.map fun z => oV (nOf k z)) else inV V.non (ws.map fun z => oV (nOf k z))) = !((ws.map (nOf k)).all Option.isSome) := in_non k ws
    rw [ef]
    cases hall : (ws.map (nOf k)).all Option.isSome with
    | false =>
      refine iteT (kk _ _ sAll ?_)
      rw [eb, if_neg fun z => by rw [hall] at z; exact Bool.noConfusion z.2]
      rfl
    | true =>
      refine iteF ⟨_, rfl, kk _ _ sAll ?_⟩
      have w1 : w0 = first := Decidable.byContradiction fun z => c1 (by rw [decide_eq_false z]; rfl)
      rw [eb, if_pos ⟨w1, hall⟩]
      exact ⟨D, rfl, by rw [upd_same, oV_some hall]⟩
end

end K60


namespace K60
open PySem L2 PyProof.Rows
local macro_rules | `(tactic| walk_at "cc") => `(tactic| first | exact ⟨by decide, by decide⟩ | (show (0 : Int) < _; decide) | (show (0 : Int) < _; omega) | (show (0 : Int) ≤ _; omega) | exact ⟨by decide, by decide, by decide⟩ | exact ⟨by omega, by omega, by decide⟩ | exact Or.inl ⟨by decide, by decide⟩ | exact Or.inl ⟨by omega, by omega⟩)
local macro_rules | `(tactic| walk_at "rd") => `(tactic| repeat (first | refine ⟨_, rfl, ?_⟩ | refine ⟨_, _, rfl, rfl, ?_⟩ | refine ⟨rfl, ?_⟩ | (refine ⟨?cc, ?_⟩; (case cc => walk_at "cc"))))

theorem pe_globI {X : Cx} {x : Str} {n : Int} {pos : Pos} (hg : Gl X x) (hm : ∃ t, X.mg x = some (.int n t)) (hd : (x == ("__debug__" : Str)) = false := by decide) : PE X (.Name x pos) (tC (.int n)) := by
  obtain ⟨t, h⟩ := hm
  exact pe_glob hg h ⟨t, rfl⟩ hd
def ascB : List Nat → Bool
  | a :: b :: r => decide (a < b) && ascB (b :: r)
  | _ => true
def lastOk (ns : List Nat) : Bool := match ns.getLast? with
  | none => true
  | some n => decide (n ≤ 79)
def setT (ns : List Nat) : Option Nat := if ascB ns = true ∧ lastOk ns = true then some (maskL ns) else none
def spSet (K : PySem.W.Frag) : Sp := fun vs H Q _ => ∃ (a : Addr) (ns : List Nat), vs = [.ref a] ∧ SqL K H a (ns.map iV) ∧ ns.length ≤ 300010 ∧ ∀ H', Same H H' → Q (oV (setT ns)) H'
def worthT (row : Str) : Option Nat := (behind (("worth" : String) : Str) row 40).bind fun ns => match ns with
  | [n] => some n
  | _ => none
def downT (row : Str) : Option Nat := (behind (("down" : String) : Str) row 40).bind setT
def hillT (row : Str) : Option (Nat × Nat) := (behind (("hill" : String) : Str) row 40).bind fun ns => match ns with
  | p :: n :: r => if p < 1 then none else (setT (n :: r)).map fun m => (m, p)
  | _ => none
def Rw (row : Str) : Prop := row.length ≤ 300000 ∧ Asc row
def spWorthT : Sp := fun vs H Q _ => ∃ row : Str, vs = [.str row] ∧ Rw row ∧ ∀ H', Same H H' → Q (oV (worthT row)) H'
def spDownT : Sp := fun vs H Q _ => ∃ row : Str, vs = [.str row] ∧ Rw row ∧ ∀ H', Same H H' → Q (oV (downT row)) H'
def pV (H : Hp) (v : V) : Option (Nat × Nat) → Prop
  | none => v = .non
  | some p => ∃ a, v = .ref a ∧ H a = some (.tup [iV p.1, iV p.2])
def spHillT : Sp := fun vs H Q _ => ∃ row : Str, vs = [.str row] ∧ Rw row ∧ ∀ v H', Same H H' → pV H' v (hillT row) → Q v H'
theorem beh_len {first row : Str} {k : Nat} {ns : List Nat} (h : behind first row k = some ns) : ns.length ≤ row.length + 1 := by
  have sl := split_le row spS
  unfold behind at h
  match hs : PySem.Txt.split row spS, h, sl with
  | w :: ws, h, sl =>
    rw [List.length_cons] at sl
    simp only at h
    split at h
    · cases h
      rw [List.length_map]
      omega
    · cases h
section
variable {P : Program} {w : World} {K : PySem.W.Frag} {mg : Str → Option Value} {base : Heap}
theorem sc_worth_told : FnScope ["row", "numbers"] ["row"] (defScope s_worth_told) := ⟨rfl, rfl, rfl, by decide +kernel, rfl, by decide +kernel, by decide +kernel⟩
theorem ok_worth {f f1 : Addr} {fd fd1 : FuncData} (F : Fun K "worth_told" "worth_told" s_worth_told f fd) (T : Txt mg) (G_numbers_behind : Cal P w K mg base 2 "numbers_behind" ["first", "row", "figures"] spBeh f1 fd1) : FnOk P w K mg base CX0 3 f fd ["row"] spWorthT := by
  refine F.ok sc_worth_told (fun vs H Q E h => ?_) (fun cdv A outer s H vs Q E hr h => ?_)
  · obtain ⟨row, rfl, _⟩ := h
    rfl
  obtain ⟨row, rfl, hR, kk⟩ := h
  refine ⟨_, (pss_cons (ps_set (i := 1) sc_worth_told.nd rfl (Or.inl rfl) (pe_call G_numbers_behind.ok (hr.mono (by decide)) rfl G_numbers_behind.mg G_numbers_behind.kp G_numbers_behind.bn .nil pass0 (pa_cons pe_str (pa_cons (pv 0) (pa_cons (pe_globI rfl T.figs) pa_nil)))))
      (pss_cons (ps_if (PW.pt (pw_or (pt_cmpR op_isN (pv 1) pe_non (nomark _)) (pw_or1 (pt_cmpR op_ne (pe_callB call_len_seq (by rfl) T.n_len bt_len (pa_cons (pv 1) pa_nil)) pe_int (nomark _))))) (pss_one (ps_ret pe_non)) pss_nil)
      (pss_one (ps_ret (pe_ix ix_list (pv 1) pe_int (fun _ _ => rfl)))))), ?_⟩
  refine ⟨_, rfl, _, row, 40, rfl, by decide, hR.1, hR.2, fun v H1 s1 hv => ?_⟩
  cases hb : behind (("worth" : String) : Str) row 40 with
  | none =>
    rw [hb] at hv
    cases (show v = .non from hv)
    have := kk _ s1
    unfold worthT at this
    rw [hb] at this
    exact ⟨_, rfl, rfl, _, rfl, ite2 (fun _ => iteT this) (fun c => absurd (decide_eq_true rfl) c)⟩
  | some ns =>
    rw [hb] at hv
    obtain ⟨a, rfl, ha⟩ := hv
    have q := kk _ s1
    unfold worthT at q
    rw [hb] at q
    refine ⟨_, rfl, rfl, _, rfl, ite2 (fun c => absurd (of_decide_eq_true c) (by intro z; cases z)) (fun _ => ?_)⟩
    refine ⟨_, rfl, a, _, rfl, .inl (SqL.of ha), rfl, _, rfl, ?_⟩
    rw [List.length_map]
    match ns, ha, q with
    | [], ha, q => exact iteT q
    | [n], ha, q => exact iteF ⟨_, rfl, a, _, 0, _, rfl, rfl, SqL.of ha, at_hd, q⟩
    | n :: m :: r, ha, q =>
      refine ite2 (fun _ => q) (fun c => absurd ?_ c)
      have : ¬ ((((n :: m :: r).length : Nat) : Int) = 1) := by rw [List.length_cons, List.length_cons]; omega
      rw [decide_eq_false fun z => this (V.int.inj z)]
      rfl
theorem sc_down_told : FnScope ["row", "numbers"] ["row"] (defScope s_down_told) := ⟨rfl, rfl, rfl, by decide +kernel, rfl, by decide +kernel, by decide +kernel⟩
theorem ok_down {f f1 f2 : Addr} {fd fd1 fd2 : FuncData} (F : Fun K "down_told" "down_told" s_down_told f fd) (T : Txt mg) (G_numbers_behind : Cal P w K mg base 2 "numbers_behind" ["first", "row", "figures"] spBeh f1 fd1) (G_set_told : Cal P w K mg base 2 "set_told" ["numbers"] (spSet K) f2 fd2) : FnOk P w K mg base CX0 3 f fd ["row"] spDownT := by
  refine F.ok sc_down_told (fun vs H Q E h => ?_) (fun cdv A outer s H vs Q E hr h => ?_)
  · obtain ⟨row, rfl, _⟩ := h
    rfl
  obtain ⟨row, rfl, hR, kk⟩ := h
  refine ⟨_, (pss_cons (ps_set (i := 1) sc_down_told.nd rfl (Or.inl rfl) (pe_call G_numbers_behind.ok (hr.mono (by decide)) rfl G_numbers_behind.mg G_numbers_behind.kp G_numbers_behind.bn .nil pass0 (pa_cons pe_str (pa_cons (pv 0) (pa_cons (pe_globI rfl T.figs) pa_nil)))))
      (pss_cons (ps_if (pt_cmpR op_isN (pv 1) pe_non (nomark _)) (pss_one (ps_ret pe_non)) pss_nil)
      (pss_one (ps_ret (pe_call G_set_told.ok (hr.mono (by decide)) rfl G_set_told.mg G_set_told.kp G_set_told.bn .nil pass0 (pa_cons (pv 1) pa_nil)))))), ?_⟩
  refine ⟨_, rfl, _, row, 40, rfl, by decide, hR.1, hR.2, fun v H1 s1 hv => ?_⟩
  have hl := hR.1
  cases hb : behind (("down" : String) : Str) row 40 with
  | none =>
    rw [hb] at hv
    cases (show v = .non from hv)
    have := kk _ s1
    unfold downT at this
    rw [hb] at this
    exact ⟨_, rfl, rfl, _, rfl, ite2 (fun _ => this) (fun c => absurd (decide_eq_true rfl) c)⟩
  | some ns =>
    rw [hb] at hv
    obtain ⟨a, rfl, ha⟩ := hv
    have bl := beh_len hb
    refine ⟨_, rfl, rfl, _, rfl, ite2 (fun c => absurd (of_decide_eq_true c) (by intro z; cases z)) (fun _ => ?_)⟩
    refine ⟨_, rfl, a, ns, rfl, SqL.of ha, by omega, fun H2 s2 => ?_⟩
    have q := kk _ (s1.trans s2)
    unfold downT at q
    rw [hb] at q
    exact q
theorem sc_hill_told : FnScope ["row", "numbers", "rounds"] ["row"] (defScope s_hill_told) := ⟨rfl, rfl, rfl, by decide +kernel, rfl, by decide +kernel, by decide +kernel⟩
theorem ok_hill {f f1 f2 : Addr} {fd fd1 fd2 : FuncData} (F : Fun K "hill_told" "hill_told" s_hill_told f fd) (T : Txt mg) (G_numbers_behind : Cal P w K mg base 2 "numbers_behind" ["first", "row", "figures"] spBeh f1 fd1) (G_set_told : Cal P w K mg base 2 "set_told" ["numbers"] (spSet K) f2 fd2) : FnOk P w K mg base CX0 3 f fd ["row"] spHillT := by
  refine F.ok sc_hill_told (fun vs H Q E h => ?_) (fun cdv A outer s H vs Q E hr h => ?_)
  · obtain ⟨row, rfl, _⟩ := h
    rfl
  obtain ⟨row, rfl, hR, kk⟩ := h
  refine ⟨_, (pss_cons (ps_set (i := 1) sc_hill_told.nd rfl (Or.inl rfl) (pe_call G_numbers_behind.ok (hr.mono (by decide)) rfl G_numbers_behind.mg G_numbers_behind.kp G_numbers_behind.bn .nil pass0 (pa_cons pe_str (pa_cons (pv 0) (pa_cons (pe_globI rfl T.figs) pa_nil)))))
      (pss_cons (ps_if (PW.pt (pw_or (pt_cmpR op_isN (pv 1) pe_non (nomark _)) (pw_or (pt_cmpR op_lt (pe_callB call_len_seq (by rfl) T.n_len bt_len (pa_cons (pv 1) pa_nil)) pe_int (nomark _)) (pw_or1 (pt_cmpR op_lt (pe_ix ix_list (pv 1) pe_int (fun _ _ => rfl)) pe_int (nomark _)))))) (pss_one (ps_ret pe_non)) pss_nil)
      (pss_cons (ps_set (i := 2) sc_hill_told.nd rfl (Or.inl rfl) (pe_call G_set_told.ok (hr.mono (by decide)) rfl G_set_told.mg G_set_told.kp G_set_told.bn .nil pass0 (pa_cons (pe_slice sl_list (pv 1) (po_some pe_int) po_none) pa_nil)))
      (pss_one (ps_ret (pe_ifExp (pt_cmpR op_isN (pv 2) pe_non (nomark _)) pe_non (pe_tup (pa_cons (pv 2) (pa_cons (pe_ix ix_list (pv 1) pe_int (fun _ _ => rfl)) pa_nil))))))))), ?_⟩
  refine ⟨_, rfl, _, row, 40, rfl, by decide, hR.1, hR.2, fun v H1 s1 hv => ?_⟩
  have hl := hR.1
  cases hb : behind (("hill" : String) : Str) row 40 with
  | none =>
    rw [hb] at hv
    cases (show v = .non from hv)
    have := kk .non _ s1
    unfold hillT at this
    rw [hb] at this
    exact ⟨_, rfl, rfl, _, rfl, ite2 (fun _ => iteT (this rfl)) (fun c => absurd (decide_eq_true rfl) c)⟩
  | some ns =>
    rw [hb] at hv
    obtain ⟨a, rfl, ha⟩ := hv
    have bl := beh_len hb
    have q := fun v H' s => kk v H' s
    unfold hillT at q
    rw [hb] at q
    refine ⟨_, rfl, rfl, _, rfl, ite2 (fun c => absurd (of_decide_eq_true c) (by intro z; cases z)) (fun _ => ?_)⟩
    refine ⟨_, rfl, a, _, rfl, .inl (SqL.of ha), _, _, rfl, rfl, _, rfl, ?_⟩
    rw [List.length_map]
    match ns, ha, q, bl with
    | [], ha, q, _ => exact iteT (iteT (q _ _ s1 rfl))
    | [n], ha, q, _ => exact iteT (iteT (q _ _ s1 rfl))
    | p :: n :: r, ha, q, bl =>
      refine ite2 (fun c => absurd (of_decide_eq_true c) (by rw [List.length_cons, List.length_cons]; omega)) (fun _ => ?_)
      refine ⟨_, rfl, a, _, 0, _, rfl, rfl, SqL.of ha, at_hd, _, _, rfl, rfl, _, rfl, ?_⟩
      by_cases hp : p < 1
      · rw [decide_eq_true (show ((p : Nat) : Int) < 1 by omega)]
        refine iteT (q _ _ s1 ?_)
        show pV _ _ (if p < 1 then none else _)
        rw [if_pos hp]
        rfl
      · rw [decide_eq_false (show ¬ ((p : Nat) : Int) < 1 by omega)]
        refine iteF ?_
        refine ⟨_, rfl, _, rfl, a, _, rfl, SqL.of ha, fun c hc => ?_⟩
        have ec : cutV ((p :: n :: r).map iV) (some 1) none = (n :: r).map iV := cut_tail _
        rw [ec]
        rw [List.length_cons, List.length_cons] at bl
        have sc := same_new hc (.lst ((n :: r).map iV))
        refine ⟨c, n :: r, rfl, SqL.of upd_same, by rw [List.length_cons]; omega, fun H2 s2 => ?_⟩
        have e1 : (if p < 1 then none else (setT (n :: r)).map fun m => (m, p)) = (setT (n :: r)).map fun m => (m, p) := if_neg hp
        cases hs : setT (n :: r) with
        | none =>
          refine ⟨_, rfl, rfl, _, rfl, ite2 (fun _ => q .non _ (s1.trans (sc.trans s2)) ?_) (fun c => absurd (decide_eq_true rfl) c)⟩
          show pV _ _ (if p < 1 then none else (setT (n :: r)).map fun m => (m, p))
          rw [e1, hs]
          rfl
        | some m =>
          refine ⟨_, rfl, rfl, _, rfl, ite2 (fun c => absurd (of_decide_eq_true c) (by intro z; cases z)) (fun _ => ?_)⟩
          refine ⟨_, rfl, _, rfl, a, _, 0, _, rfl, rfl, SqL.of (s2 _ _ (sc _ _ ha)), at_hd, (by show 2 ≤ sizeLine; decide), fun t ht => q (.ref t) _ (s1.trans (sc.trans (s2.trans (same_new ht _)))) ?_⟩
          show pV _ _ (if p < 1 then none else (setT (n :: r)).map fun m => (m, p))
          rw [e1, hs]
          exact ⟨t, rfl, upd_same⟩
end

end K60


namespace K60
open PySem L2 PyProof.Rows
local macro_rules | `(tactic| walk_at "cc") => `(tactic| first | exact ⟨by decide, by decide⟩ | (show (0 : Int) < _; decide) | (show (0 : Int) < _; omega) | (show (0 : Int) ≤ _; omega) | exact ⟨by decide, by decide, by decide⟩ | exact ⟨by omega, by omega, by decide⟩ | exact Or.inl ⟨by decide, by decide⟩ | exact Or.inl ⟨by omega, by omega⟩)
local macro_rules | `(tactic| walk_at "rd") => `(tactic| repeat (first | refine ⟨_, rfl, ?_⟩ | refine ⟨_, _, rfl, rfl, ?_⟩ | refine ⟨rfl, ?_⟩ | (refine ⟨?cc, ?_⟩; (case cc => walk_at "cc"))))

theorem nats_rd {K : PySem.W.Frag} {H : Hp} {a : Addr} {ps : List Nat} (h : SqL K H a (ps.map iV)) : RdD K H (.ref a) (.list ((ps.map fun (p : Nat) => ((p : Nat) : Int)).map PyData.int)) := by
  refine RdD.lst h (by simp) fun i x d e1 e2 => ?_
  rw [List.getElem?_map] at e1
  rw [List.getElem?_map, List.getElem?_map] at e2
  cases z : ps[i]? with
  | none => rw [z] at e1; cases e1
  | some n =>
    rw [z] at e1 e2
    cases e1
    cases e2
    exact .int _
theorem ints_shaped (l : List Int) : SeqAt.shaped (.list (l.map PyData.int)) = true := shaped_flat fun d hd => by
  obtain ⟨x, _, rfl⟩ := List.mem_map.mp hd
  exact ⟨by simp [PyData.canLay0], by simp [PyData.depth]⟩
theorem compG_zipS {K : PySem.W.Frag} {a b : Addr} {xs zs : List V} {g : TG} {tt : TT} {te : TE} {m : Nat} {fv : L2.St} {H1 : Hp} {QQ : List V → Hp → Prop} (n : Nat) (Pv : Nat → List V → Hp → Prop) (hz : n ≤ sizeLine) (h1 : n ≤ xs.length) (h3 : zs.length = n) (h0 : Pv 0 [] H1) (hl : ∀ i ys H, i ≤ n → Pv i ys H → SqL K H a xs ∧ SqL K H b zs)
    (hs : ∀ i x z ys H T, xs[i]? = some x → zs[i]? = some z → Pv i ys H → H T = none → g (.ref T) (List.replicate m none ++ fv) (upd H T (.tup [x, z])) fun σ2 H2 => σ2.drop m = fv ∧ tt σ2 H2 fun b H3 => if b = true then te σ2 H3 (fun y H4 => Pv (i + 1) (ys ++ [y]) H4) else Pv (i + 1) ys H3) (hd : ∀ ys H, Pv n ys H → QQ ys H) (hy : ∀ i ys H, Pv i ys H → ys.length ≤ i)
    : tCompG g tt te m fv (Itz K a b) H1 QQ := by
  refine ⟨fun i k ys H => k = n - i ∧ i ≤ n ∧ Pv i ys H, ⟨n, by simp, Nat.zero_le _, h0⟩, ?_⟩
  rintro i k ys H ⟨rfl, hi, p⟩
  obtain ⟨q1, q3⟩ := hl i ys H hi p
  have hyl := hy i ys H p
  refine ⟨by omega, ?_⟩
  by_cases hlt : i < n
  · have l1 : i < xs.length := by omega
    have l3 : i < zs.length := by omega
    refine .inr ⟨⟨xs, zs, xs[i], zs[i], q1, q3, by simp [l1], by simp [l3]⟩, fun zs' H2 => Pv (i + 1) zs' H2, fun zs' H2 p2 => ⟨n - (i + 1), by omega, rfl, hlt, p2⟩, fun v H' y => ?_⟩
    obtain ⟨T, x, z, hT, rfl, rfl, y1, y3⟩ := y
    exact hs i x z ys _ T (y1 xs q1) (y3 zs q3) p hT
  · have e : i = n := by omega
    subst e
    exact .inl ⟨⟨xs, zs, q1, q3, .inr (by omega)⟩, hd ys H p⟩
def ltL (ns : List Nat) : List Bool := (ns.zip (ns.drop 1)).map fun p => decide (p.1 < p.2)
theorem ltL_all : ∀ ns : List Nat, (ltL ns).all id = ascB ns
  | [] => rfl
  | [_] => rfl
  | a :: b :: r => by
    show (decide (a < b) && (ltL (b :: r)).all id) = (decide (a < b) && ascB (b :: r))
    rw [ltL_all (b :: r)]
theorem asc_pw : ∀ {ns : List Nat}, ascB ns = true → ns.Pairwise (· < ·)
  | [], _ => .nil
  | [a], _ => List.pairwise_singleton ..
  | a :: b :: r, h => by
    have h' : (decide (a < b) && ascB (b :: r)) = true := h
    rw [Bool.and_eq_true, decide_eq_true_iff] at h'
    have ih := asc_pw h'.2
    refine List.pairwise_cons.mpr ⟨fun x hx => ?_, ih⟩
    rcases List.mem_cons.mp hx with rfl | hx
    · exact h'.1
    · exact Nat.lt_trans h'.1 ((List.pairwise_cons.mp ih).1 x hx)
theorem pw_asc : ∀ {ns : List Nat}, ns.Pairwise (· < ·) → ascB ns = true
  | [], _ => rfl
  | [a], _ => rfl
  | a :: b :: r, h => by
    obtain ⟨h1, h2⟩ := List.pairwise_cons.mp h
    show (decide (a < b) && ascB (b :: r)) = true
    rw [pw_asc h2, decide_eq_true (h1 b (List.mem_cons_self ..))]
    rfl
theorem asc_all {ns : List Nat} (h : ascB ns = true) (hl : lastOk ns = true) : ∀ k ∈ ns, k < 80 := fun k hk => by
  have pw := asc_pw h
  rcases List.eq_nil_or_concat ns with rfl | ⟨l, x, rfl⟩
  · cases hk
  · rw [List.concat_eq_append] at *
    unfold lastOk at hl
    rw [List.getLast?_append] at hl
    have hx : x ≤ 79 := of_decide_eq_true hl
    rcases List.mem_append.mp hk with hk | hk
    · have := (List.pairwise_append.mp pw).2.2 k hk x (by simp)
      omega
    · rw [List.mem_singleton.mp hk]
      omega
section
variable {P : Program} {w : World} {K : PySem.W.Frag} {mg : Str → Option Value} {base : Heap}
theorem sc_set_told : FnScope ["numbers"] ["numbers"] (defScope s_set_told) := ⟨rfl, rfl, rfl, by decide +kernel, rfl, by decide +kernel, by decide +kernel⟩
theorem ok_set {f f1 : Addr} {fd fd1 : FuncData} (F : Fun K "set_told" "set_told" s_set_told f fd) (T : Txt mg) (G_mask_of : Cal P w K mg base 1 "mask_of" ["places"] (spMask K) f1 fd1) : FnOk P w K mg base CX0 2 f fd ["numbers"] (spSet K) := by
  refine F.ok sc_set_told (fun vs H Q E h => ?_) (fun cdv A outer s H vs Q E hr h => ?_)
  · obtain ⟨a, ns, rfl, _⟩ := h
    rfl
  obtain ⟨a, ns, rfl, hS, hl, kk⟩ := h
  have hu64 := hr.units
  refine ⟨_, (pss_cons (ps_if (pt_not (pt_val (pe_callB (call_allB rfl) (by rfl) T.n_all bt_all (pa_cons (pe_compG rfl (fr := []) (xs := ["one", "two"]) (CompG.of (by rfl) (by decide +kernel) (by rfl) (by decide +kernel) (fun p hp => nomatch hp) (by decide +kernel) (fun p hp => nomatch hp)) (pi_zip rfl T.n_zip (pa_cons (pv 0) (pa_cons (pe_slice sl_list (pv 0) (po_some pe_int) po_none) pa_nil))) (fun C ex s H => (pgK_tup (n := 2) (K := K) rfl rfl (pgs_cons (pg_name (i := 0) (show (["one", "two"] : List Str).Nodup from by decide +kernel) rfl (Or.inl rfl)) (pgs_cons (pg_name (i := 1) (show (["one", "two"] : List Str).Nodup from by decide +kernel) rfl (Or.inl rfl)) pgs_nil)))) (fun C ex s H => pts_nil) (fun C ex s H => (pe_cmpR op_lt (pv 0) (pv 1) (nomark _)))) pa_nil)))) (pss_one (ps_ret pe_non)) pss_nil)
      (pss_cons (ps_if (PW.pt (pw_and (pt_cmpR (op_neG hu64) (pv 0) (pe_lst pa_nil) (nomark _)) (pw_and1 (pt_cmpR op_gt (pe_ix ix_list (pv 0) (pe_un un_neg pe_int) (fun _ _ => rfl)) (pe_globI rfl T.last) (nomark _))))) (pss_one (ps_ret pe_non)) pss_nil)
      (pss_one (ps_ret (pe_call G_mask_of.ok (hr.mono (by decide)) rfl G_mask_of.mg G_mask_of.kp G_mask_of.bn .nil pass0 (pa_cons (pv 0) pa_nil)))))), ?_⟩
  have hlm : (ns.map iV).length = ns.length := List.length_map _
  have s1 : (400000 : Nat) ≤ sizeLine := by decide
  refine ⟨_, rfl, _, rfl, _, rfl, a, _, rfl, hS, fun c hc => ?_⟩
  have ec : cutV (ns.map iV) (some 1) none = (ns.drop 1).map iV := by rw [cut_tail, List.map_drop]
  rw [ec]
  have sc := same_new hc (.lst ((ns.drop 1).map iV))
  have hcc : (upd H c (.lst ((ns.drop 1).map iV))) c = some (.lst ((ns.drop 1).map iV)) := upd_same
  generalize upd H c (.lst ((ns.drop 1).map iV)) = H1 at sc hcc ⊢
  refine ⟨a, c, rfl, ⟨_, sc.seq hS⟩, ⟨_, SqL.of hcc⟩, compG_zipS (K := K) (xs := ns.map iV) (zs := (ns.drop 1).map iV) (ns.length - 1) (fun i ys H2 => Same H1 H2 ∧ ys = ((ltL ns).take i).map V.bl) (by omega) (by omega) (by rw [List.length_map, List.length_drop]) ⟨fun _ _ q => q, rfl⟩ (fun i ys H2 _ z => ⟨z.1.seq (sc.seq hS), SqL.of (z.1 _ _ hcc)⟩) ?_ ?_ (fun i ys H2 z => by rw [z.2, List.length_map, List.length_take]; omega)⟩
  · rintro i x z ys H2 T2 hx hz ⟨s2, rfl⟩ hT2
    rw [List.getElem?_map] at hx hz
    obtain ⟨n1, hn1, rfl⟩ := Option.map_eq_some_iff.mp hx
    obtain ⟨n2, hn2, rfl⟩ := Option.map_eq_some_iff.mp hz
    have sT := same_new hT2 (.tup [iV n1, iV n2])
    refine ⟨T2, _, rfl, SqT.of upd_same, rfl, _, _, rfl, _, _, rfl, rfl, rfl, yesT ?_⟩
    refine ⟨_, rfl, _, rfl, _, _, rfl, rfl, s2.trans sT, ?_⟩
    have e : (ltL ns)[i]? = some (decide (n1 < n2)) := by
      unfold ltL
      rw [List.getElem?_map, List.getElem?_zip_eq_some (z := (n1, n2)).mpr ⟨hn1, hn2⟩]
      rfl
    rw [List.take_add_one, e, List.map_append]
    show _ ++ [V.bl (decide (((n1 : Nat) : Int) < ((n2 : Nat) : Int)))] = _ ++ [V.bl (decide (n1 < n2))]
    rw [decide_eq_decide.mpr (Int.ofNat_lt (n := n1) (m := n2))]
  rintro ys H2 ⟨s2, rfl⟩ D hD
  have ll : (ltL ns).length = ns.length - 1 := by unfold ltL; rw [List.length_map, List.length_zip, List.length_drop]; omega
  rw [List.take_of_length_le (Nat.le_of_eq ll)]
  have sD := same_new hD (.lst ((ltL ns).map V.bl))
  have hDD : (upd H2 D (.lst ((ltL ns).map V.bl))) D = some (.lst ((ltL ns).map V.bl)) := upd_same
  generalize upd H2 D (.lst ((ltL ns).map V.bl)) = H3 at sD hDD ⊢
  have s3 : Same H H3 := sc.trans (s2.trans sD)
  refine ⟨D, ltL ns, rfl, SqL.of hDD, _, rfl, ?_⟩
  rw [ltL_all]
  cases hA : ascB ns with
  | false =>
    have q := kk _ s3
    unfold setT at q
    rw [if_neg fun z => by rw [hA] at z; exact Bool.noConfusion z.1] at q
    exact iteT q
  | true =>
    refine iteF ⟨_, rfl, (by show 0 ≤ sizeLine; exact Nat.zero_le _), fun l hl2 => ?_⟩
    have sl := same_new hl2 (.lst [])
    have hll : (upd H3 l (.lst [])) l = some (.lst []) := upd_same
    generalize upd H3 l (.lst []) = H4 at sl hll ⊢
    have s4 := s3.trans sl
    have fin : lastOk ns = true → tRet (tCall (spMask K) [] E0 (tCons (tVar 0) tNil)) { nx := fun x H' => Q V.non H', rt := Q } (L2.start [Str.ofString "numbers"] [V.ref a]) H4 := fun hk => by
      refine ⟨_, rfl, a, ns, rfl, s4.seq hS, asc_all hA hk, ?_⟩
      have q := kk _ s4
      unfold setT at q
      rw [if_pos ⟨hA, hk⟩] at q
      exact q
    refine ⟨_, _, nats_rd (s4.seq hS), nats_rd (ps := []) (SqL.of hll), ints_shaped _, ints_shaped _, _, rfl, ?_⟩
    rw [eqv_ints]
    rcases List.eq_nil_or_concat ns with e | ⟨l0, x, e⟩
    · refine ite2 (fun c => ?_) (fun _ => iteF (fin (by rw [e]; rfl)))
      rw [e] at c
      simp at c
    · rw [List.concat_eq_append] at e
      have hk : lastOk ns = decide (x ≤ 79) := by
        unfold lastOk
        rw [e, List.getLast?_append]
        rfl
      refine ite2 (fun _ => ?_) (fun c => absurd ?_ c)
      · refine ⟨_, rfl, _, rfl, a, ns.map iV, -1, iV x, rfl, rfl, s4.seq hS, by rw [e, List.map_append]; exact atI_last _ _, _, _, rfl, rfl, _, rfl, ite2 (fun c => ?_) (fun c => ?_)⟩
        · have cx : ((79 : Int) < (x : Int)) := of_decide_eq_true c
          have q := kk _ s4
          unfold setT at q
          rw [if_neg fun z => by rw [hk] at z; have := of_decide_eq_true z.2; omega] at q
          exact q
        · refine fin ?_
          rw [hk]
          refine decide_eq_true ?_
          have : ¬ ((79 : Int) < (x : Int)) := fun z => c (decide_eq_true z)
          omega
      · rw [e]
        simp
end

end K60


namespace K60
open PySem L2 PyProof.Rows
local macro_rules | `(tactic| walk_at "cc") => `(tactic| first | exact ⟨by decide, by decide⟩ | (show (0 : Int) < _; decide) | (show (0 : Int) < _; omega) | (show (0 : Int) ≤ _; omega) | exact ⟨by decide, by decide, by decide⟩ | exact ⟨by omega, by omega, by decide⟩ | exact Or.inl ⟨by decide, by decide⟩ | exact Or.inl ⟨by omega, by omega⟩)
local macro_rules | `(tactic| walk_at "rd") => `(tactic| repeat (first | refine ⟨_, rfl, ?_⟩ | refine ⟨_, _, rfl, rfl, ?_⟩ | refine ⟨rfl, ?_⟩ | (refine ⟨?cc, ?_⟩; (case cc => walk_at "cc"))))

abbrev Pq := Nat × Nat
def PrA (H : Hp) (v : V) (p : Pq) : Prop := ∃ t, v = .ref t ∧ H t = some (.tup [iV p.1, iV p.2])
def PsA (H : Hp) (ys : List V) (ps : List Pq) : Prop := ys.length = ps.length ∧ ∀ (i : Nat) (y : V), ys[i]? = some y → ∃ p, ps[i]? = some p ∧ PrA H y p
theorem PrA.mono {H H' : Hp} {v : V} {p : Pq} (h : PrA H v p) (s : Same H H') : PrA H' v p := let ⟨t, e, z⟩ := h; ⟨t, e, s _ _ z⟩
theorem PsA.mono {H H' : Hp} {ys : List V} {ps : List Pq} (h : PsA H ys ps) (s : Same H H') : PsA H' ys ps := ⟨h.1, fun i y e => let ⟨p, e2, q⟩ := h.2 i y e; ⟨p, e2, q.mono s⟩⟩
structure Pok (ps : List Pq) : Prop where
  few : ps.length ≤ 20
  m1 : ∀ p ∈ ps, 1 ≤ p.1 ∧ p.1 < 2 ^ 80
  p1 : ∀ p ∈ ps, 1 ≤ p.2 ∧ p.2 < 10 ^ 40
/-- the words of a set -/
def bw (m : Nat) : List Str := (K2.bitsF 0 m).map tx
def wW : Str := (("worth" : String) : Str)
def wD : Str := (("down" : String) : Str)
def wH : Str := (("hill" : String) : Str)
def hillR (p : Pq) : Str := rowT (wH :: tx p.2 :: bw p.1)
def rowsT (c l : Nat) (ps : List Pq) : List Str := rowT [wW, tx c] :: rowT (wD :: bw l) :: ps.map hillR
def shownT (c l : Nat) (ps : List Pq) : Str := Str.join Str.empty (rowsT c l ps)
theorem bits_few {m k : Nat} (h : m < 2 ^ k) : (K2.bitsF 0 m).length ≤ k := K2.bitsF_len k m 0 h
theorem bits_lt {m k x : Nat} (h : m < 2 ^ k) (hx : x ∈ K2.bitsF 0 m) : x < k := by
  have := K2.bitsF_lt k m 0 h x hx
  omega
theorem p40 {x : Nat} (h : x < 1000) : x < 10 ^ 40 := Nat.lt_of_lt_of_le h (by decide)
theorem len40 {x : Nat} (h : x < 10 ^ 40) : (tx x).length ≤ 40 := tx_len (k := 39) h
theorem rowT_len {ws : List Str} (h : ∀ w ∈ ws, w.length ≤ 100) (hl : ws.length ≤ 100) : (rowT ws).length ≤ 10101 := by
  have sl := sum_len h
  have jl := join_len 32 ws
  unfold rowT
  rw [Str.length_append]
  show (Str.join ⟨#[32]⟩ ws).length + 1 ≤ _
  omega
theorem bw_len {m k : Nat} (h : m < 2 ^ k) (hk : k ≤ 1000) : ∀ w ∈ bw m, w.length ≤ 100 := fun w hw => by
  obtain ⟨x, hx, rfl⟩ := List.mem_map.mp hw
  exact Nat.le_trans (len40 (p40 (Nat.lt_of_lt_of_le (bits_lt h hx) hk))) (by decide)
theorem bw_few {m k : Nat} (h : m < 2 ^ k) : (bw m).length ≤ k := by unfold bw; rw [List.length_map]; exact bits_few h
theorem hillR_len {p : Pq} (h1 : p.1 < 2 ^ 80) (h2 : p.2 < 10 ^ 40) : (hillR p).length ≤ 10101 := by
  have f := bw_few h1
  refine rowT_len (fun w hw => ?_) (by rw [List.length_cons, List.length_cons]; omega)
  rcases List.mem_cons.mp hw with rfl | hw
  · decide +kernel
  rcases List.mem_cons.mp hw with rfl | hw
  · exact Nat.le_trans (len40 h2) (by decide)
  · exact bw_len h1 (by decide) w hw
theorem rows_len {c l : Nat} {ps : List Pq} (ok : Pok ps) (hc : c < 10 ^ 40) (hl : l < 2 ^ 40) : (∀ r ∈ rowsT c l ps, r.length ≤ 10101) ∧ (rowsT c l ps).length ≤ 22 := by
  have few := ok.few
  constructor
  · intro r hr
    rcases List.mem_cons.mp hr with rfl | hr
    · refine rowT_len (fun w hw => ?_) (by show 2 ≤ 100; decide)
      rcases List.mem_cons.mp hw with rfl | hw
      · decide +kernel
      · rw [List.mem_singleton.mp hw]; exact Nat.le_trans (len40 hc) (by decide)
    rcases List.mem_cons.mp hr with rfl | hr
    · have f := bw_few hl
      refine rowT_len (fun w hw => ?_) (by rw [List.length_cons]; omega)
      rcases List.mem_cons.mp hw with rfl | hw
      · decide +kernel
      · exact bw_len hl (by decide) w hw
    · obtain ⟨p, hp, rfl⟩ := List.mem_map.mp hr
      exact hillR_len (ok.m1 p hp).2 (ok.p1 p hp).2
  · unfold rowsT
    rw [List.length_cons, List.length_cons, List.length_map]
    omega
theorem a30 {x y z : V} : atI [x, y, z] 0 = some x := rfl
theorem a31 {x y z : V} : atI [x, y, z] 1 = some y := rfl
theorem a32 {x y z : V} : atI [x, y, z] 2 = some z := rfl

theorem glue_nl : ∀ bs : List Str, Str.join Str.empty (bs.map fun b => b ++ nlS) = Str.join nlS (bs ++ [Str.empty])
  | [] => rfl
  | [b] => by
    show b ++ nlS = b ++ nlS ++ Str.empty
    rw [Str.append_empty]
  | b :: d :: r => by
    show b ++ nlS ++ Str.empty ++ Str.join Str.empty ((d :: r).map fun b => b ++ nlS) = b ++ nlS ++ Str.join nlS (d :: r ++ [Str.empty])
    rw [glue_nl (d :: r), Str.append_empty]
theorem PsA.nil {H : Hp} : PsA H [] [] := ⟨rfl, fun i y e => by simp at e⟩
theorem PsA.snoc {H : Hp} {ys : List V} {ps : List Pq} {y : V} {p : Pq} (h : PsA H ys ps) (hy : PrA H y p) : PsA H (ys ++ [y]) (ps ++ [p]) := by
  refine ⟨by rw [List.length_append, List.length_append, h.1]; rfl, fun i z e => ?_⟩
  by_cases c : i < ys.length
  · rw [List.getElem?_append_left c] at e
    rw [List.getElem?_append_left (h.1 ▸ c)]
    exact h.2 i z e
  · rw [List.getElem?_append_right (by omega)] at e
    rw [List.getElem?_append_right (by rw [← h.1]; omega), ← h.1]
    match hk : i - ys.length, e with
    | 0, e =>
      cases e
      exact ⟨p, rfl, hy⟩
    | k + 1, e => simp at e
def bareW (c : Nat) : Str := Str.join spS [wW, tx c]
def bareD (l : Nat) : Str := Str.join spS (wD :: bw l)
def bareH (p : Pq) : Str := Str.join spS (wH :: tx p.2 :: bw p.1)
def bares (c l : Nat) (ps : List Pq) : List Str := bareW c :: bareD l :: ps.map bareH
theorem shown_bares (c l : Nat) (ps : List Pq) : shownT c l ps = Str.join nlS (bares c l ps ++ [Str.empty]) := by
  rw [← glue_nl]
  unfold shownT rowsT bares
  rw [List.map_cons, List.map_cons, List.map_map]
  rfl
theorem jn_of {c d : Nat} : ∀ {P : List (List Nat)}, d ∈ jn c P → d = c ∨ ∃ p ∈ P, d ∈ p
  | [], h => by cases h
  | [a], h => .inr ⟨a, List.mem_singleton.mpr rfl, h⟩
  | a :: b :: r, h => by
    rcases List.mem_append.mp (show d ∈ a ++ c :: jn c (b :: r) from h) with h | h
    · exact .inr ⟨a, List.mem_cons_self .., h⟩
    · rcases List.mem_cons.mp h with h | h
      · exact .inl h
      · rcases jn_of h with h | ⟨p, hp, hd⟩
        · exact .inl h
        · exact .inr ⟨p, List.mem_cons_of_mem _ hp, hd⟩
theorem join_of {c d : Nat} {ws : List Str} (h : d ∈ (Str.join ⟨#[c]⟩ ws).cps.toList) : d = c ∨ ∃ w ∈ ws, d ∈ w.cps.toList := by
  rw [join_cps] at h
  rcases jn_of h with h | ⟨p, hp, hd⟩
  · exact .inl h
  · obtain ⟨w, hw, rfl⟩ := List.mem_map.mp hp
    exact .inr ⟨w, hw, hd⟩
/-- the signs of our words -/
def Sg (d : Nat) : Prop := 32 ≤ d ∧ d < 128
theorem sg_tx {n d : Nat} (h : d ∈ (tx n).cps.toList) : Sg d := by
  have := tx_dig n d h
  unfold Sg
  omega
theorem sg_w : ∀ w ∈ [wW, wD, wH], ∀ d ∈ w.cps.toList, 32 ≤ d ∧ d < 128 := by decide +kernel
theorem sg_bw {m d : Nat} {w : Str} (hw : w ∈ bw m) (h : d ∈ w.cps.toList) : Sg d := by
  obtain ⟨x, _, rfl⟩ := List.mem_map.mp hw
  exact sg_tx h
theorem sg_bare {c l : Nat} {ps : List Pq} {b : Str} {d : Nat} (hb : b ∈ bares c l ps) (h : d ∈ b.cps.toList) : Sg d := by
  have s32 : Sg 32 := by unfold Sg; omega
  rcases List.mem_cons.mp hb with rfl | hb
  · rcases join_of h with rfl | ⟨w, hw, hd⟩
    · exact s32
    · rcases List.mem_cons.mp hw with rfl | hw
      · exact sg_w _ (by simp) d hd
      · rw [List.mem_singleton.mp hw] at hd; exact sg_tx hd
  rcases List.mem_cons.mp hb with rfl | hb
  · rcases join_of h with rfl | ⟨w, hw, hd⟩
    · exact s32
    · rcases List.mem_cons.mp hw with rfl | hw
      · exact sg_w _ (by simp) d hd
      · exact sg_bw hw hd
  · obtain ⟨p, _, rfl⟩ := List.mem_map.mp hb
    rcases join_of h with rfl | ⟨w, hw, hd⟩
    · exact s32
    · rcases List.mem_cons.mp hw with rfl | hw
      · exact sg_w _ (by simp) d hd
      · rcases List.mem_cons.mp hw with rfl | hw
        · exact sg_tx hd
        · exact sg_bw hw hd
theorem shown_split (c l : Nat) (ps : List Pq) : PySem.Txt.split (shownT c l ps) nlS = bareW c :: bareD l :: (ps.map bareH ++ [Str.empty]) := by
  rw [shown_bares]
  refine split_join (c := 10) (by unfold bares; simp) fun w hw z => ?_
  rcases List.mem_append.mp hw with hw | hw
  · have := sg_bare hw z
    unfold Sg at this
    omega
  · rw [List.mem_singleton.mp hw] at z
    cases z
theorem shown_asc (c l : Nat) (ps : List Pq) : Asc (shownT c l ps) := by
  unfold Asc
  rw [← Array.all_toList, List.all_eq_true]
  intro d hd
  rw [shown_bares] at hd
  refine decide_eq_true ?_
  rcases join_of hd with rfl | ⟨w, hw, hd⟩
  · decide
  · rcases List.mem_append.mp hw with hw | hw
    · exact (sg_bare hw hd).2
    · rw [List.mem_singleton.mp hw] at hd
      cases hd
theorem join_em_len : ∀ ws : List Str, (Str.join Str.empty ws).length = (ws.map (·.length)).sum
  | [] => rfl
  | [a] => by show a.length = a.length + 0; omega
  | a :: b :: r => by
    show (a ++ Str.empty ++ Str.join Str.empty (b :: r)).length = a.length + _
    rw [Str.length_append, Str.append_empty, join_em_len (b :: r)]
    rfl
theorem shown_len {c l : Nat} {ps : List Pq} (ok : Pok ps) (hc : c < 10 ^ 40) (hl : l < 2 ^ 40) : (shownT c l ps).length ≤ 300000 := by
  obtain ⟨r1, r2⟩ := rows_len ok hc hl
  have sl := sum_len r1
  unfold shownT
  rw [join_em_len]
  omega

end K60


namespace K60
open PySem L2 PyProof.Rows
local macro_rules | `(tactic| walk_at "cc") => `(tactic| first | exact ⟨by decide, by decide⟩ | (show (0 : Int) < _; decide) | (show (0 : Int) < _; omega) | (show (0 : Int) ≤ _; omega) | exact ⟨by decide, by decide, by decide⟩ | exact ⟨by omega, by omega, by decide⟩ | exact Or.inl ⟨by decide, by decide⟩ | exact Or.inl ⟨by omega, by omega⟩)
local macro_rules | `(tactic| walk_at "rd") => `(tactic| repeat (first | refine ⟨_, rfl, ?_⟩ | refine ⟨_, _, rfl, rfl, ?_⟩ | refine ⟨rfl, ?_⟩ | (refine ⟨?cc, ?_⟩; (case cc => walk_at "cc"))))

def cellD (ns : List Int) (k : Nat) : Int := ns.getD k 0
def spCell (K : PySem.W.Frag) : Sp := fun vs H Q _ => ∃ (a : Addr) (k : Nat) (ns : List Int), vs = [.ref a, .int (k : Int)] ∧ SqL K H a (ns.map V.int) ∧ Q (.int (cellD ns k)) H
def spWhole : Sp := fun vs H Q _ => ∃ i : Int, vs = [.int i] ∧ Q (.bl true) H
theorem is_at {ps : List Int} {i : Nat} (h : i < ps.length) : (ps.map V.int)[i]? = some (.int ps[i]) := by rw [List.getElem?_map, List.getElem?_eq_getElem h]; rfl
theorem rsz {lo m c : Int} {j : Nat} (hc : 0 < c) (h : j < (Builtin.Range.rangeSize lo m c).toNat) : lo + (j : Int) * c < m := by
  unfold Builtin.Range.rangeSize at h
  rw [if_pos hc] at h
  split at h
  · have h2 : (j : Int) ≤ (m - lo - 1) / c := by omega
    have h3 := Int.mul_le_of_le_ediv hc h2
    omega
  · exact absurd h (Nat.not_lt_zero _)
theorem PsA.put {H : Hp} {ys : List V} {ps : List Pq} {q : Addr} {us zs : List V} (h : PsA H ys ps) (hq : H q = some (.lst us)) : PsA (upd H q (.lst zs)) ys ps := ⟨h.1, fun i y e => by
  obtain ⟨p, e2, t, e3, z⟩ := h.2 i y e
  exact ⟨p, e2, t, e3, by rw [upd_ne (fun y => by rw [y, hq] at z; cases z)]; exact z⟩⟩
section
variable {P : Program} {w : World} {K : PySem.W.Frag} {mg : Str → Option Value} {base : Heap}
theorem sc_law_cell : FnScope ["script", "k"] ["script", "k"] (defScope s_law_cell) := ⟨rfl, rfl, rfl, by decide +kernel, rfl, by decide +kernel, by decide +kernel⟩
theorem ok_cell {f : Addr} {fd : FuncData} (F : Fun K "_law_cell" "_law_cell" s_law_cell f fd) (T : Txt mg) : FnOk P w K mg base CX0 1 f fd ["script", "k"] (spCell K) := by
  refine F.ok sc_law_cell (fun vs H Q E h => ?_) (fun cdv A outer s H vs Q E hr h => ?_)
  · obtain ⟨a, k, ns, rfl, _⟩ := h
    rfl
  obtain ⟨a, k, ns, rfl, hS, q⟩ := h
  refine ⟨_, (pss_cons (ps_if (pt_cmpR op_lt (pv 1) (pe_callB call_len_seq (by rfl) T.n_len bt_len (pa_cons (pv 0) pa_nil)) (nomark _)) (pss_one (ps_ret (pe_ix ix_list (pv 0) (pv 1) (fun _ _ => rfl)))) pss_nil)
      (pss_one (ps_ret pe_int))), ?_⟩
  refine ⟨_, rfl, _, rfl, a, _, rfl, .inl hS, _, _, rfl, rfl, _, rfl, ?_⟩
  refine ite2 (fun c => ?_) (fun c => ?_)
  · have c' : (k : Int) < ((ns.map V.int).length : Int) := of_decide_eq_true c
    rw [List.length_map] at c'
    have hk : k < ns.length := by omega
    have hat : atI (ns.map V.int) (k : Int) = some (.int (cellD ns k)) := atI_nat (by rw [List.getElem?_map, List.getElem?_eq_getElem hk]; unfold cellD; rw [List.getD_eq_getElem?_getD, List.getElem?_eq_getElem hk]; rfl)
    exact ⟨_, rfl, _, rfl, a, _, _, _, rfl, rfl, hS, hat, q⟩
  · have c' : ¬ (k : Int) < ((ns.map V.int).length : Int) := fun z => c (decide_eq_true z)
    rw [List.length_map] at c'
    have e : cellD ns k = 0 := by unfold cellD; rw [List.getD_eq_getElem?_getD, List.getElem?_eq_none (by omega)]; rfl
    rw [e] at q
    exact q
theorem sc_law_whole : FnScope ["found"] ["found"] (defScope s_law_whole) := ⟨rfl, rfl, rfl, by decide +kernel, rfl, by decide +kernel, by decide +kernel⟩
theorem ok_whole {f : Addr} {fd : FuncData} (F : Fun K "_law_whole" "_law_whole" s_law_whole f fd) (T : Txt mg) : FnOk P w K mg base CX0 1 f fd ["found"] spWhole := by
  refine F.ok sc_law_whole (fun vs H Q E h => ?_) (fun cdv A outer s H vs Q E hr h => ?_)
  · obtain ⟨i, rfl, _⟩ := h
    rfl
  obtain ⟨i, rfl, k⟩ := h
  refine ⟨_, (pss_one (ps_ret (pe_and (pe_callB call_isi (by rfl) T.n_isinstance bt_isinstance (pa_cons (pv 0) (pa_cons (pe_bltn (v := .ty "int") rfl T.n_int bt_int rfl) pa_nil))) (pe_one (pe_not (pe_callB call_isi (by rfl) T.n_isinstance bt_isinstance (pa_cons (pv 0) (pa_cons (pe_bltn (v := .ty "bool") rfl T.n_bool bt_bool rfl) pa_nil)))))))), ?_⟩
  refine ⟨_, rfl, _, _, _, _, _, rfl, TyOf.int i, Or.inl ⟨_, rfl, rfl⟩, kit_ii K, _, rfl, iteT ?_⟩
  exact ⟨_, rfl, _, _, _, _, _, rfl, TyOf.int i, Or.inl ⟨_, rfl, rfl⟩, kit_ib K, _, rfl, k⟩
end

end K60


namespace K60
open PySem L2 PyProof.Rows
local macro_rules | `(tactic| walk_at "cc") => `(tactic| first | exact ⟨by decide, by decide⟩ | (show (0 : Int) < _; decide) | (show (0 : Int) < _; omega) | (show (0 : Int) ≤ _; omega) | exact ⟨by decide, by decide, by decide⟩ | exact ⟨by omega, by omega, by decide⟩ | exact Or.inl ⟨by decide, by decide⟩ | exact Or.inl ⟨by omega, by omega⟩)
local macro_rules | `(tactic| walk_at "rd") => `(tactic| repeat (first | refine ⟨_, rfl, ?_⟩ | refine ⟨_, _, rfl, rfl, ?_⟩ | refine ⟨rfl, ?_⟩ | (refine ⟨?cc, ?_⟩; (case cc => walk_at "cc"))))

theorem shr_bit (l p : Nat) : decide (V.int (Builtin.bitAnd ((l : Int) / 2 ^ ((p : Nat) : Int).toNat) 1) = V.int 1) = l.testBit p := by
  have e : (l : Int) / 2 ^ ((p : Nat) : Int).toNat = ((l / 2 ^ p : Nat) : Int) := by
    rw [Int.toNat_natCast, Int.natCast_ediv, Int.natCast_pow]
    rfl
  rw [e, show (1 : Int) = ((1 : Nat) : Int) from rfl, andN, Nat.and_one_is_mod, Nat.testBit_eq_decide_div_mod_eq]
  refine decide_eq_decide.mpr ⟨fun z => ?_, fun z => by rw [z]⟩
  have := V.int.inj z
  omega
theorem em_snoc (r : Str) : ∀ rs : List Str, Str.join Str.empty (rs ++ [r]) = Str.join Str.empty rs ++ r
  | [] => (Str.empty_append r).symm
  | [a] => by
    show a ++ Str.empty ++ r = a ++ r
    rw [Str.append_empty]
  | a :: b :: rs => by
    show a ++ Str.empty ++ Str.join Str.empty (b :: rs ++ [r]) = a ++ Str.empty ++ Str.join Str.empty (b :: rs) ++ r
    rw [em_snoc r (b :: rs)]
    simp only [Str.append_assoc]
/-- the words of a set below a number -/
def bwTo (m i : Nat) : List Str := ((List.range i).filter fun p => m.testBit p).map tx
theorem bwTo_all {m k : Nat} (h : m < 2 ^ k) : bwTo m k = bw m := by unfold bwTo bw; rw [bits_rng h]
theorem bwTo_yes {m i : Nat} (h : m.testBit i = true) : bwTo m (i + 1) = bwTo m i ++ [tx i] := by
  unfold bwTo
  rw [List.range_succ, List.filter_append, List.map_append]
  simp [h]
theorem bwTo_no {m i : Nat} (h : m.testBit i = false) : bwTo m (i + 1) = bwTo m i := by
  unfold bwTo
  rw [List.range_succ, List.filter_append, List.map_append]
  simp [h]
theorem bwTo_len (m i : Nat) (h : i ≤ 100) : (∀ w ∈ bwTo m i, w.length ≤ 100) ∧ (bwTo m i).length ≤ i := by
  constructor
  · intro w hw
    obtain ⟨x, hx, rfl⟩ := List.mem_map.mp hw
    have := List.mem_range.mp (List.mem_filter.mp hx).1
    exact Nat.le_trans (len40 (p40 (by omega))) (by decide)
  · unfold bwTo
    rw [List.length_map]
    have := List.length_filter_le (fun p => m.testBit p) (List.range i)
    rwa [List.length_range] at this
theorem joinw_len {ws : List Str} (h : ∀ w ∈ ws, w.length ≤ 100) (hl : ws.length ≤ 100) : (Str.join spS ws).length ≤ 10100 := by
  have sl := sum_len h
  have jl := join_len 32 ws
  show (Str.join ⟨#[32]⟩ ws).length ≤ _
  omega
def spLShown (K : PySem.W.Frag) : Sp := fun vs H Q _ => ∃ (c l : Nat) (pl : Addr) (ys : List V) (ps : List Pq), vs = [iV c, iV l, .ref pl] ∧ SqL K H pl ys ∧ PsA H ys ps ∧ Pok ps ∧ c < 10 ^ 40 ∧ l < 2 ^ 40 ∧ Q (.str (shownT c l ps)) H
theorem start_txt (c : Nat) : (("worth " : String) : Str) ++ tx c ++ (("\ndown" : String) : Str) = rowT [wW, tx c] ++ Str.join spS (wD :: bwTo 0 0) := by
  have e1 : (("worth " : String) : Str) = wW ++ spS := by decide +kernel
  have e2 : (("\ndown" : String) : Str) = nlS ++ wD := by decide +kernel
  rw [e1, e2]
  show wW ++ spS ++ tx c ++ (nlS ++ wD) = wW ++ spS ++ tx c ++ nlS ++ wD
  simp only [Str.append_assoc]
theorem word_step (pre : Str) (ws : List Str) (h : ws ≠ []) (i : Nat) : pre ++ Str.join spS ws ++ ((" " : String) : Str) ++ ((toString (i : Int) : String) : Str) = pre ++ Str.join spS (ws ++ [tx i]) := by
  rw [join_snoc spS (tx i) h, sp_eq]
  show pre ++ Str.join spS ws ++ spS ++ tx i = _
  simp only [Str.append_assoc]
theorem down_txt {c l : Nat} (h : l < 2 ^ 40) : rowT [wW, tx c] ++ Str.join spS (wD :: bwTo l 40) ++ (("\n" : String) : Str) = Str.join Str.empty (rowsT c l []) := by
  rw [bwTo_all h, nl_eq]
  show rowT [wW, tx c] ++ Str.join spS (wD :: bw l) ++ nlS = rowT [wW, tx c] ++ Str.empty ++ rowT (wD :: bw l)
  rw [Str.append_empty, Str.append_assoc]
  rfl
theorem hill_start (pre : Str) (x m : Nat) : pre ++ (("hill " : String) : Str) ++ ((toString (x : Int) : String) : Str) = pre ++ Str.join spS (wH :: tx x :: bwTo m 0) := by
  have e1 : (("hill " : String) : Str) = wH ++ spS := by decide +kernel
  rw [e1, Str.append_assoc]
  rfl
theorem hill_txt {c l : Nat} {ps : List Pq} {p : Pq} (h : p.1 < 2 ^ 80) : Str.join Str.empty (rowsT c l ps) ++ Str.join spS (wH :: tx p.2 :: bwTo p.1 80) ++ (("\n" : String) : Str) = Str.join Str.empty (rowsT c l (ps ++ [p])) := by
  have e : rowsT c l (ps ++ [p]) = rowsT c l ps ++ [hillR p] := by unfold rowsT; rw [List.map_append]; rfl
  rw [e, em_snoc, bwTo_all h, nl_eq, Str.append_assoc]
  rfl
theorem Pok.take {ps : List Pq} (h : Pok ps) (i : Nat) : Pok (ps.take i) := ⟨by have := h.few; rw [List.length_take]; omega, fun p hp => h.m1 p (List.mem_of_mem_take hp), fun p hp => h.p1 p (List.mem_of_mem_take hp)⟩
section
variable {P : Program} {w : World} {K : PySem.W.Frag} {mg : Str → Option Value} {base : Heap}
theorem sc_law_shown : FnScope ["cost", "laying", "paper", "text", "place", "pair", "number"] ["cost", "laying", "paper"] (defScope s_law_shown) := ⟨rfl, rfl, rfl, by decide +kernel, rfl, by decide +kernel, by decide +kernel⟩
theorem ok_lshown {f : Addr} {fd : FuncData} (F : Fun K "_law_shown" "_law_shown" s_law_shown f fd) (T : Txt mg) : FnOk P w K mg base CX0 1 f fd ["cost", "laying", "paper"] (spLShown K) := by
  refine F.ok sc_law_shown (fun vs H Q E h => ?_) (fun cdv A outer s H vs Q E hr h => ?_)
  · obtain ⟨c, l, pl, ys, ps, rfl, _⟩ := h
    rfl
  obtain ⟨c, l, pl, ys, ps, rfl, hS, hP, ok, hc, hl, q⟩ := h
  refine ⟨_, (pss_cons (ps_set (i := 3) sc_law_shown.nd rfl (Or.inl rfl) (pe_op op_add_str (pe_op op_add_str pe_str (pe_callTy call_str_int (by rfl) T.n_str bt_str (pa_cons (pv 0) pa_nil))) pe_str))
      (pss_cons (ps_for PassesOwn.never rfl (pi_range1 rfl T.n_range (pa_cons pe_int pa_nil)) (pg_name (i := 4) sc_law_shown.nd rfl (Or.inl rfl)) (pss_one (ps_if (pt_cmpR op_eq (pe_op op_and (pe_op op_shr (pv 1) (pv 4)) pe_int) pe_int (nomark _)) (pss_one (ps_set (i := 3) sc_law_shown.nd rfl (Or.inl rfl) (pe_op op_add_str (pe_op op_add_str (pv 3) pe_str) (pe_callTy call_str_int (by rfl) T.n_str bt_str (pa_cons (pv 4) pa_nil))))) pss_nil)))
      (pss_cons (ps_set (i := 3) sc_law_shown.nd rfl (Or.inl rfl) (pe_op op_add_str (pv 3) pe_str))
      (pss_cons (ps_for PassesOwn.never rfl (pi_list (pv 2)) (pg_name (i := 5) sc_law_shown.nd rfl (Or.inl rfl)) (pss_cons (ps_set (i := 3) sc_law_shown.nd rfl (Or.inl rfl) (pe_op op_add_str (pe_op op_add_str (pv 3) pe_str) (pe_callTy call_str_int (by rfl) T.n_str bt_str (pa_cons (pe_ix ix_tup (pv 5) pe_int (fun _ _ => rfl)) pa_nil))))
      (pss_cons (ps_for PassesOwn.never rfl (pi_range1 rfl T.n_range (pa_cons pe_int pa_nil)) (pg_name (i := 6) sc_law_shown.nd rfl (Or.inl rfl)) (pss_one (ps_if (pt_cmpR op_eq (pe_op op_and (pe_op op_shr (pe_ix ix_tup (pv 5) pe_int (fun _ _ => rfl)) (pv 6)) pe_int) pe_int (nomark _)) (pss_one (ps_set (i := 3) sc_law_shown.nd rfl (Or.inl rfl) (pe_op op_add_str (pe_op op_add_str (pv 3) pe_str) (pe_callTy call_str_int (by rfl) T.n_str bt_str (pa_cons (pv 6) pa_nil))))) pss_nil)))
      (pss_one (ps_set (i := 3) sc_law_shown.nd rfl (Or.inl rfl) (pe_op op_add_str (pv 3) pe_str))))))
      (pss_one (ps_ret (pv 3))))))), ?_⟩
  have s64 : (1000000 : Nat) ≤ sizeLine := by decide
  have lc := len40 hc
  have few := ok.few
  have l6 : (("worth " : String) : Str).length = 6 := by decide +kernel
  have l5 : (("\ndown" : String) : Str).length = 5 := by decide +kernel
  have l1 : ((" " : String) : Str).length = 1 := by decide +kernel
  have l1' : (("\n" : String) : Str).length = 1 := by decide +kernel
  have l5h : (("hill " : String) : Str).length = 5 := by decide +kernel
  have wD1 : wD.length ≤ 100 := by decide +kernel
  have wH1 : wH.length ≤ 100 := by decide +kernel
  have r1l : (rowT [wW, tx c]).length ≤ 10101 := rowT_len (fun z hz => by
    rcases List.mem_cons.mp hz with rfl | hz
    · decide +kernel
    · rw [List.mem_singleton.mp hz]; omega) (by show 2 ≤ 100; decide)
  refine ⟨_, rfl, _, rfl, log_small hc, _, _, rfl, rfl, ?_, ?_⟩
  · show _ + (tx c).length ≤ _
    rw [l6]
    omega
  refine ⟨_, _, rfl, rfl, ?_, ?_⟩
  · rw [Str.length_append, l6, l5]
    show 6 + (tx c).length + 5 ≤ _
    omega
  rw [show (("worth " : String) : Str) ++ ((toString (c : Int) : String) : Str) ++ (("\ndown" : String) : Str) = rowT [wW, tx c] ++ Str.join spS (wD :: bwTo 0 0) from start_txt c]
  have e00 : bwTo 0 0 = bwTo l 0 := rfl
  rw [e00]
  refine ⟨40, rfl, by decide, by decide, for_range (n := 40) (fun i σ H2 => ∃ (v4 v5 v6 : Option V), σ = [some (iV c), some (iV l), some (.ref pl), some (.str (rowT [wW, tx c] ++ Str.join spS (wD :: bwTo l i))), v4, v5, v6] ∧ H2 = H) ⟨_, _, _, rfl, rfl⟩ ?_ ?_⟩
  · rintro i σ H2 hi ⟨v4, v5, v6, rfl, rfl⟩
    rw [Int.zero_add]
    refine ⟨_, rfl, _, rfl, _, _, rfl, rfl, (by show (0 : Int) ≤ (i : Int); omega), _, _, rfl, rfl, rfl, _, rfl, ?_⟩
    rw [shr_bit]
    obtain ⟨b1, b2⟩ := bwTo_len l i (by omega)
    have jl : (Str.join spS (wD :: bwTo l i)).length ≤ 10100 := joinw_len (fun z hz => by
      rcases List.mem_cons.mp hz with rfl | hz
      · exact wD1
      · exact b1 z hz) (by rw [List.length_cons]; omega)
    refine ite2 (fun z => ?_) (fun z => ?_)
    · have i40 : i < 10 ^ 40 := p40 (by omega)
      have li := len40 i40
      refine ⟨_, rfl, _, _, rfl, rfl, by rw [Str.length_append, l1]; omega, _, rfl, _, rfl, log_small i40, _, _, rfl, rfl, ?_, some (.int (i : Int)), v5, v6, ?_, rfl⟩
      · rw [Str.length_append, Str.length_append, l1]
        show _ + (tx i).length ≤ _
        omega
      · rw [bwTo_yes z]
        show [some (iV c), some (iV l), some (V.ref pl), some (V.str _), _, _, _] = _
        rw [word_step _ _ (List.cons_ne_nil _ _) i]
        rfl
    · exact ⟨some (.int (i : Int)), v5, v6, by rw [bwTo_no (by simpa using z)]; rfl, rfl⟩
  rintro σ H2 ⟨v4, v5, v6, rfl, rfl⟩
  have jl : (Str.join spS (wD :: bwTo l 40)).length ≤ 10100 := by
    obtain ⟨b1, b2⟩ := bwTo_len l 40 (by omega)
    exact joinw_len (fun z hz => by
      rcases List.mem_cons.mp hz with rfl | hz
      · exact wD1
      · exact b1 z hz) (by rw [List.length_cons]; omega)
  refine ⟨_, rfl, _, _, rfl, rfl, by rw [Str.length_append, l1']; omega, ?_⟩
  rw [down_txt hl]
  refine ⟨_, rfl, pl, rfl, ⟨_, hS⟩, for_list (K := K) (xs := ys) (fun i σ H3 => ∃ (v4 v5 v6 : Option V), σ = [some (iV c), some (iV l), some (.ref pl), some (.str (Str.join Str.empty (rowsT c l (ps.take i)))), v4, v5, v6] ∧ H3 = H2) ⟨_, _, _, rfl, rfl⟩ (fun i σ H3 _ ⟨_, _, _, _, z⟩ => by rw [z]; exact hS) ?_ ?_⟩
  · rintro i x σ H3 hx ⟨v4, v5, v6, rfl, rfl⟩
    obtain ⟨p, hp, t2, rfl, ht2⟩ := hP.2 i x hx
    have pm := List.mem_of_getElem? hp
    obtain ⟨p1, p2⟩ := ok.m1 p pm
    obtain ⟨p3, p4⟩ := ok.p1 p pm
    have lp := len40 p4
    have sl := shown_len (ok.take i) hc hl
    unfold shownT at sl
    refine ⟨_, rfl, _, _, rfl, rfl, by rw [l5h]; omega, _, rfl, t2, _, 1, _, rfl, rfl, SqT.of ht2, rfl, _, rfl, log_small p4, _, _, rfl, rfl, ?_, ?_⟩
    · rw [Str.length_append, l5h]
      show _ + (tx p.2).length ≤ _
      omega
    have e0 := hill_start (Str.join Str.empty (rowsT c l (ps.take i))) p.2 p.1
    rw [e0]
    refine ⟨80, rfl, by decide, by decide, for_range (n := 80) (fun j σ H2 => ∃ (v4 v6 : Option V), σ = [some (iV c), some (iV l), some (.ref pl), some (.str (Str.join Str.empty (rowsT c l (ps.take i)) ++ Str.join spS (wH :: tx p.2 :: bwTo p.1 j))), v4, some (.ref t2), v6] ∧ H2 = H3) ⟨_, _, rfl, rfl⟩ ?_ ?_⟩
    · rintro j σ H2 hj ⟨v4, v6, rfl, rfl⟩
      rw [Int.zero_add]
      refine ⟨_, rfl, t2, _, 0, _, rfl, rfl, SqT.of ht2, rfl, _, rfl, _, _, rfl, rfl, (by show (0 : Int) ≤ (j : Int); omega), _, _, rfl, rfl, rfl, _, rfl, ?_⟩
      rw [shr_bit]
      obtain ⟨b1, b2⟩ := bwTo_len p.1 j (by omega)
      have jl : (Str.join spS (wH :: tx p.2 :: bwTo p.1 j)).length ≤ 10100 := joinw_len (fun z hz => by
        rcases List.mem_cons.mp hz with rfl | hz
        · exact wH1
        · rcases List.mem_cons.mp hz with rfl | hz
          · omega
          · exact b1 z hz) (by rw [List.length_cons, List.length_cons]; omega)
      refine ite2 (fun z => ?_) (fun z => ?_)
      · have i40 : j < 10 ^ 40 := p40 (by omega)
        have li := len40 i40
        refine ⟨_, rfl, _, _, rfl, rfl, by rw [Str.length_append, l1]; omega, _, rfl, _, rfl, log_small i40, _, _, rfl, rfl, ?_, v4, some (.int (j : Int)), ?_, rfl⟩
        · rw [Str.length_append, Str.length_append, l1]
          show _ + (tx j).length ≤ _
          omega
        · rw [bwTo_yes z]
          show [some (iV c), some (iV l), some (V.ref pl), some (V.str _), _, _, _] = _
          rw [word_step _ _ (List.cons_ne_nil _ _) j]
          rfl
      · exact ⟨v4, some (.int (j : Int)), by rw [bwTo_no (by simpa using z)]; rfl, rfl⟩
    rintro σ H2 ⟨v4, v6, rfl, rfl⟩
    have jl : (Str.join spS (wH :: tx p.2 :: bwTo p.1 80)).length ≤ 10100 := by
      obtain ⟨b1, b2⟩ := bwTo_len p.1 80 (by omega)
      exact joinw_len (fun z hz => by
        rcases List.mem_cons.mp hz with rfl | hz
        · exact wH1
        · rcases List.mem_cons.mp hz with rfl | hz
          · omega
          · exact b1 z hz) (by rw [List.length_cons, List.length_cons]; omega)
    refine ⟨_, rfl, _, _, rfl, rfl, by rw [Str.length_append, l1']; omega, v4, some (.ref t2), v6, ?_, rfl⟩
    rw [List.take_add_one, hp]
    show [some (iV c), some (iV l), some (V.ref pl), some (V.str _), _, _, _] = _
    rw [hill_txt p2]
    rfl
  rintro σ H3 ⟨v4, v5, v6, rfl, rfl⟩
  rw [hP.1, List.take_length]
  exact ⟨_, rfl, q⟩
end

end K60


namespace K60
open PySem L2 PyProof.Rows
local macro_rules | `(tactic| walk_at "cc") => `(tactic| first | exact ⟨by decide, by decide⟩ | (show (0 : Int) < _; decide) | (show (0 : Int) < _; omega) | (show (0 : Int) ≤ _; omega) | exact ⟨by decide, by decide, by decide⟩ | exact ⟨by omega, by omega, by decide⟩ | exact Or.inl ⟨by decide, by decide⟩ | exact Or.inl ⟨by omega, by omega⟩)
local macro_rules | `(tactic| walk_at "rd") => `(tactic| repeat (first | refine ⟨_, rfl, ?_⟩ | refine ⟨_, _, rfl, rfl, ?_⟩ | refine ⟨rfl, ?_⟩ | (refine ⟨?cc, ?_⟩; (case cc => walk_at "cc"))))

def dP (ps : List Pq) : PyData := .list (ps.map fun p => PyData.tuple [.int (p.1 : Int), .int (p.2 : Int)])
def d3 (c l : Nat) (ps : List Pq) : PyData := .tuple [.int (c : Int), .int (l : Int), dP ps]
theorem dP_rd {K : PySem.W.Frag} {H : Hp} {a : Addr} {ys : List V} {ps : List Pq} (h : SqL K H a ys) (hP : PsA H ys ps) : RdD K H (.ref a) (dP ps) := by
  refine RdD.lst h (by rw [List.length_map]; exact hP.1) fun i x d e1 e2 => ?_
  obtain ⟨p, hp, t, rfl, ht⟩ := hP.2 i x e1
  rw [List.getElem?_map, hp] at e2
  cases e2
  refine RdD.tup (SqT.of ht) rfl fun j x d' q1 q2 => ?_
  match j with
  | 0 => cases q1; cases q2; exact .int _
  | 1 => cases q1; cases q2; exact .int _
  | j + 2 => cases q1
structure Tri (H : Hp) (v : V) (c l : Nat) (ps : List Pq) : Prop where
  is : ∃ (t pl : Addr) (ys : List V), v = .ref t ∧ H t = some (.tup [iV c, iV l, .ref pl]) ∧ H pl = some (.lst ys) ∧ PsA H ys ps
theorem d3_rd {K : PySem.W.Frag} {H : Hp} {v : V} {c l : Nat} {ps : List Pq} (h : Tri H v c l ps) : RdD K H v (d3 c l ps) := by
  obtain ⟨t, pl, ys, rfl, ht, hpl, hP⟩ := h.is
  refine RdD.tup (SqT.of ht) rfl fun j x d' q1 q2 => ?_
  match j with
  | 0 => cases q1; cases q2; exact .int _
  | 1 => cases q1; cases q2; exact .int _
  | 2 => cases q1; cases q2; exact dP_rd (SqL.of hpl) hP
  | j + 3 => cases q1
theorem dP_lay (ps : List Pq) : (dP ps).canLay0 = true ∧ (dP ps).depth ≤ 11 := by
  have h : ∀ d ∈ (ps.map fun p => PyData.tuple [.int (p.1 : Int), .int (p.2 : Int)]), d.canLay0 = true ∧ d.depth ≤ 10 := fun d hd => by
    obtain ⟨p, _, rfl⟩ := List.mem_map.mp hd
    exact flat2 _ _
  unfold dP
  refine ⟨by simp only [PyData.canLay0]; exact canLayAll_of fun d hd => (h d hd).1, ?_⟩
  have h2 := depthAll_of fun d hd => (h d hd).2
  simp only [PyData.depth]
  omega
theorem d3_shaped (c l : Nat) (ps : List Pq) : SeqAt.shaped (d3 c l ps) = true := by
  obtain ⟨a, b⟩ := dP_lay ps
  show ((d3 c l ps).canLay0 && decide ((d3 c l ps).depth ≤ 64)) = true
  unfold d3
  rw [Bool.and_eq_true]
  refine ⟨by simp [PyData.canLay0, PyData.canLayAll0, a], decide_eq_true ?_⟩
  simp only [PyData.depth, PyData.depthAll]
  omega
def spTriple : Sp := fun vs H Q _ => ∃ (v u : V) (c l : Nat) (ps : List Pq), vs = [v, u] ∧ Tri H v c l ps ∧ Tri H u c l ps ∧ Q (.bl true) H
def spLaw (K : PySem.W.Frag) : Sp := fun vs H Q _ => ∃ (a : Addr) (ns : List Int), vs = [.ref a] ∧ SqL K H a (ns.map V.int) ∧ ns.length ≤ 63 ∧ ∀ H', Q (.bl true) H'
section
variable {P : Program} {w : World} {K : PySem.W.Frag} {mg : Str → Option Value} {base : Heap}
theorem sc_law_triple : FnScope ["found", "due", "pair"] ["found", "due"] (defScope s_law_triple) := ⟨rfl, rfl, rfl, by decide +kernel, rfl, by decide +kernel, by decide +kernel⟩
theorem ok_triple {f f1 : Addr} {fd fd1 : FuncData} (F : Fun K "_law_triple" "_law_triple" s_law_triple f fd) (T : Txt mg) (G_law_whole : Cal P w K mg base 1 "_law_whole" ["found"] spWhole f1 fd1) : FnOk P w K mg base CX0 2 f fd ["found", "due"] spTriple := by
  refine F.ok sc_law_triple (fun vs H Q E h => ?_) (fun cdv A outer s H vs Q E hr h => ?_)
  · obtain ⟨v, u, c, l, ps, rfl, _⟩ := h
    rfl
  obtain ⟨v, u, c, l, ps, rfl, t1, t2, q⟩ := h
  have hu64 := hr.units
  refine ⟨_, (pss_cons (ps_if (PW.pt (pw_or (pt_not (pt_val (pe_callB call_isi (by rfl) T.n_isinstance bt_isinstance (pa_cons (pv 0) (pa_cons (pe_bltn (v := .ty "tuple") rfl T.n_tuple bt_tuple rfl) pa_nil))))) (pw_or (pt_cmpR op_ne (pe_callB call_len_seq (by rfl) T.n_len bt_len (pa_cons (pv 0) pa_nil)) pe_int (nomark _)) (pw_or1 (pt_not (pt_val (pe_callB call_isi (by rfl) T.n_isinstance bt_isinstance (pa_cons (pe_ix ix_tup (pv 0) pe_int (fun _ _ => rfl)) (pa_cons (pe_bltn (v := .ty "list") rfl T.n_list bt_list rfl) pa_nil))))))))) (pss_one (ps_ret pe_bl)) pss_nil)
      (pss_cons (ps_if (PW.pt (pw_or (pt_not (pt_val (pe_call G_law_whole.ok (hr.mono (by decide)) rfl G_law_whole.mg G_law_whole.kp G_law_whole.bn .nil pass0 (pa_cons (pe_ix ix_tup (pv 0) pe_int (fun _ _ => rfl)) pa_nil)))) (pw_or1 (pt_not (pt_val (pe_call G_law_whole.ok (hr.mono (by decide)) rfl G_law_whole.mg G_law_whole.kp G_law_whole.bn .nil pass0 (pa_cons (pe_ix ix_tup (pv 0) pe_int (fun _ _ => rfl)) pa_nil))))))) (pss_one (ps_ret pe_bl)) pss_nil)
      (pss_cons (ps_for PassesOwn.never rfl (pi_list (pe_ix ix_tup (pv 0) pe_int (fun _ _ => rfl))) (pg_name (i := 2) sc_law_triple.nd rfl (Or.inl rfl)) (pss_one (ps_if (PW.pt (pw_or (pt_not (pt_val (pe_callB call_isi (by rfl) T.n_isinstance bt_isinstance (pa_cons (pv 2) (pa_cons (pe_bltn (v := .ty "tuple") rfl T.n_tuple bt_tuple rfl) pa_nil))))) (pw_or (pt_cmpR op_ne (pe_callB call_len_seq (by rfl) T.n_len bt_len (pa_cons (pv 2) pa_nil)) pe_int (nomark _)) (pw_or (pt_not (pt_val (pe_call G_law_whole.ok (hr.mono (by decide)) rfl G_law_whole.mg G_law_whole.kp G_law_whole.bn .nil pass0 (pa_cons (pe_ix ix_tup (pv 2) pe_int (fun _ _ => rfl)) pa_nil)))) (pw_or1 (pt_not (pt_val (pe_call G_law_whole.ok (hr.mono (by decide)) rfl G_law_whole.mg G_law_whole.kp G_law_whole.bn .nil pass0 (pa_cons (pe_ix ix_tup (pv 2) pe_int (fun _ _ => rfl)) pa_nil))))))))) (pss_one (ps_ret pe_bl)) pss_nil)))
      (pss_one (ps_ret (pe_cmpR (op_eqD hu64) (pv 0) (pv 1) (nomark _))))))), ?_⟩
  obtain ⟨t, pl, ys, rfl, ht, hpl, hP⟩ := t1.is
  refine ⟨_, rfl, _, _, _, _, _, rfl, TyOf.tup ht, Or.inl ⟨_, rfl, rfl⟩, kit_tt K, _, rfl, iteF ?_⟩
  refine ⟨_, rfl, t, _, rfl, .inr (SqT.of ht), rfl, _, rfl, iteF ?_⟩
  refine ⟨_, rfl, t, _, 2, _, rfl, rfl, SqT.of ht, a32, _, _, _, _, _, rfl, TyOf.lst hpl, Or.inl ⟨_, rfl, rfl⟩, kit_ll K, _, rfl, iteF ?_⟩
  refine ⟨_, rfl, t, _, 0, _, rfl, rfl, SqT.of ht, a30, _, rfl, _, rfl, iteF ?_⟩
  refine ⟨_, rfl, t, _, 1, _, rfl, rfl, SqT.of ht, a31, _, rfl, _, rfl, iteF ?_⟩
  refine ⟨_, rfl, t, _, 2, _, rfl, rfl, SqT.of ht, a32, pl, rfl, ⟨_, SqL.of hpl⟩, for_list (K := K) (xs := ys) (fun i σ H2 => ∃ v2, σ = [some (.ref t), some u, v2] ∧ H2 = H) ⟨_, rfl, rfl⟩ (fun i σ H2 _ ⟨_, _, z⟩ => by rw [z]; exact SqL.of hpl) ?_ ?_⟩
  · rintro i x σ H2 hx ⟨v2, rfl, rfl⟩
    obtain ⟨p, hp, tp, rfl, htp⟩ := hP.2 i x hx
    refine ⟨_, rfl, _, _, _, _, _, rfl, TyOf.tup htp, Or.inl ⟨_, rfl, rfl⟩, kit_tt K, _, rfl, iteF ?_⟩
    refine ⟨_, rfl, tp, _, rfl, .inr (SqT.of htp), rfl, _, rfl, iteF ?_⟩
    refine ⟨_, rfl, tp, _, 0, _, rfl, rfl, SqT.of htp, rfl, _, rfl, _, rfl, iteF ?_⟩
    exact ⟨_, rfl, tp, _, 1, _, rfl, rfl, SqT.of htp, rfl, _, rfl, _, rfl, iteF ⟨_, rfl, rfl⟩⟩
  · rintro σ H2 ⟨v2, rfl, rfl⟩
    exact ⟨_, rfl, _, rfl, _, d3_rd t1, d3_rd t2, d3_shaped c l ps, q⟩
end

end K60


namespace K60
open PySem L2 PyProof.Rows
local macro_rules | `(tactic| walk_at "cc") => `(tactic| first | exact ⟨by decide, by decide⟩ | (show (0 : Int) < _; decide) | (show (0 : Int) < _; omega) | (show (0 : Int) ≤ _; omega) | exact ⟨by decide, by decide, by decide⟩ | exact ⟨by omega, by omega, by decide⟩ | exact Or.inl ⟨by decide, by decide⟩ | exact Or.inl ⟨by omega, by omega⟩)
local macro_rules | `(tactic| walk_at "rd") => `(tactic| repeat (first | refine ⟨_, rfl, ?_⟩ | refine ⟨_, _, rfl, rfl, ?_⟩ | refine ⟨rfl, ?_⟩ | (refine ⟨?cc, ?_⟩; (case cc => walk_at "cc"))))

def nI : Option Nat → Int
  | none => -1
  | some n => (n : Int)
def spLNum : Sp := fun vs H Q _ => ∃ w : Str, vs = [.str w] ∧ w.length ≤ 400000 ∧ Asc w ∧ Q (.int (nI (nOf 40 w))) H
def numT (w : Str) : TS := fun D σ H => ∃ v1 : Option V, σ = [some (.str w), v1] ∧ w.length ≤ 40 ∧ Asc w ∧ w.cps.toList ≠ [] ∧ ¬ (w.cps.toList.head? = some 48 ∧ w.length ≠ 1) ∧ D.rt (.int (nI (nOf 40 w))) H
theorem in_digs (d : Nat) : (!(Builtin.Str.occurrences (("0123456789" : String) : Str) ⟨#[d]⟩ 0 (("0123456789" : String) : Str).length 1).isEmpty) = (decide (48 ≤ d) && decide (d ≤ 57)) := by
  have fo := StrLaws.found_one (("0123456789" : String) : Str) d
  have e10 : (("0123456789" : String) : Str).cps.toList = [48, 49, 50, 51, 52, 53, 54, 55, 56, 57] := by decide +kernel
  rw [e10] at fo
  rw [fo, Bool.eq_iff_iff, Bool.and_eq_true, decide_eq_true_iff, decide_eq_true_iff, decide_eq_true_iff]
  simp only [List.mem_cons, List.not_mem_nil, or_false]
  omega
theorem nOf_no {k : Nat} {w : Str} (h : w.cps.toList.head? = some 48 ∧ w.length ≠ 1) : nOf k w = none := by
  unfold nOf
  rw [if_pos h]
  split <;> rfl
section
variable {P : Program} {w : World} {K : PySem.W.Frag} {mg : Str → Option Value} {base : Heap}
theorem sc_law_number : FnScope ["word", "sign"] ["word"] (defScope s_law_number) := ⟨rfl, rfl, rfl, by decide +kernel, rfl, by decide +kernel, by decide +kernel⟩
theorem ok_lnum {f : Addr} {fd : FuncData} (F : Fun K "_law_number" "_law_number" s_law_number f fd) (T : Txt mg) : FnOk P w K mg base CX0 1 f fd ["word"] spLNum := by
  refine F.ok sc_law_number (fun vs H Q E h => ?_) (fun cdv A outer s H vs Q E hr h => ?_)
  · obtain ⟨w, rfl, _⟩ := h
    rfl
  obtain ⟨w, rfl, hl, ha, q⟩ := h
  have s64 : (400000 : Nat) ≤ sizeLine := by decide
  have eE : decide (V.str w = V.str (("" : String) : Str)) = decide (w.cps.toList = []) := decide_eq_decide.mpr ⟨fun z => by rw [V.str.inj z, em_eq]; rfl, fun z => by rw [em_eq, str_ext (a := w) (b := Str.empty) z]⟩
  have kN : nOf 40 w = none → Q (.int (-1)) H := fun z => by
    rw [z] at q
    exact q
  refine ⟨_, (pss_cons (ps_if (PW.pt (pw_or (pt_cmpR op_eq (pv 0) pe_str (nomark _)) (pw_or (pt_cmpR op_gt (pe_callB call_len_str (by rfl) T.n_len bt_len (pa_cons (pv 0) pa_nil)) pe_int (nomark _)) (pw_or1 (PW.pt (pw_and (pt_cmpR op_eq (pe_ix ix_str (pv 0) pe_int (fun _ _ => rfl)) pe_str (nomark _)) (pw_and1 (pt_cmpR op_gt (pe_callB call_len_str (by rfl) T.n_len bt_len (pa_cons (pv 0) pa_nil)) pe_int (nomark _))))))))) (pss_one (ps_ret (pe_un un_neg pe_int))) pss_nil)
      (pss_imp (t2 := (numT w)) (pss_cons (ps_for PassesOwn.never rfl (pi_str (pv 0)) (pg_name (i := 1) sc_law_number.nd rfl (Or.inl rfl)) (pss_one (ps_if (pt_cmpR op_notin_str (pv 1) pe_str (by with_unfolding_all rfl)) (pss_one (ps_ret (pe_un un_neg pe_int))) pss_nil)))
      (pss_one (ps_ret (pe_callTy call_intT (by rfl) T.n_int bt_int (pa_cons (pv 0) pa_nil))))) (fun D0 S0 H0 h0 => ?lp))), ?_⟩
  case lp =>
    obtain ⟨v1, rfl, le, ha, ne, nz, q⟩ := h0
    refine ⟨_, rfl, w, rfl, ha, for_str (x := w) (fun i σ H2 => ∃ v1 : Option V, σ = [some (.str w), v1] ∧ H2 = H0 ∧ (w.cps.toList.take i).all (fun c => decide (48 ≤ c) && decide (c ≤ 57)) = true) ⟨_, rfl, rfl, rfl⟩ ?_ ?_⟩
    · rintro i d σ H2 hd ⟨v1, rfl, rfl, al⟩
      refine ⟨_, rfl, _, _, rfl, rfl, _, rfl, ?_⟩
      rw [in_digs]
      have hd' : w.cps.toList[i]? = some d := by rw [Array.getElem?_toList]; exact hd
      cases hb : (decide (48 ≤ d) && decide (d ≤ 57)) with
      | false =>
        have dn : dig w = false := by
          cases z : dig w with
          | false => rfl
          | true =>
            have := List.all_eq_true.mp z d (List.mem_of_getElem? hd')
            rw [hb] at this
            cases this
        have nn : nOf 40 w = none := if_pos (.inr (.inr dn))
        rw [nn] at q
        exact iteT ⟨_, rfl, q⟩
      | true =>
        refine iteF ⟨_, rfl, rfl, ?_⟩
        rw [List.take_add_one, hd', List.all_append, al]
        show (true && ([d].all fun c => decide (48 ≤ c) && decide (c ≤ 57))) = true
        rw [List.all_cons, hb]
        rfl
    · rintro σ H2 ⟨v1, rfl, rfl, al⟩
      have eT : w.cps.toList.take w.cps.size = w.cps.toList := by rw [← Array.length_toList, List.take_length]
      rw [eT] at al
      have hd : dig w = true := al
      have ad : PySem.NumText.AllDigits w.cps.toList := fun c hc => by
        have := List.all_eq_true.mp hd c hc
        rw [Bool.and_eq_true] at this
        exact ⟨of_decide_eq_true this.1, of_decide_eq_true this.2⟩
      refine ⟨_, rfl, w, _, rfl, intText_digits ad ne (by omega), by omega, ?_⟩
      have e : nOf 40 w = some (PySem.NumText.digitsVal w.cps.toList) := by
        unfold nOf
        rw [if_neg, if_neg nz]
        rintro (z | z | z)
        · exact ne z
        · omega
        · rw [hd] at z; cases z
      rw [e] at q
      exact q
  refine ⟨_, rfl, rfl, _, rfl, ?_⟩
  rw [eE]
  refine ite2 (fun c => iteT ⟨_, rfl, kN (if_pos (.inl (of_decide_eq_true c)))⟩) (fun c => ?_)
  have ne : w.cps.toList ≠ [] := fun z => c (decide_eq_true z)
  refine ⟨_, rfl, w, rfl, Nat.le_trans hl s64, _, _, rfl, rfl, _, rfl, ite2 (fun c2 => iteT ⟨_, rfl, kN (if_pos (.inr (.inl (by have := of_decide_eq_true c2; omega))))⟩) (fun c2 => ?_)⟩
  have le : w.length ≤ 40 := by
    have : ¬ ((40 : Int) < (w.length : Int)) := fun z => c2 (decide_eq_true z)
    omega
  obtain ⟨h0, tl, ew⟩ := List.exists_cons_of_ne_nil ne
  have e48 : (("0" : String) : Str).cps.toList = [48] := by decide +kernel
  refine ⟨_, rfl, w, 0, h0, rfl, rfl, Nat.le_trans hl s64, by rw [ew]; exact at_hd, rfl, _, rfl, ite2 (fun c3 => ?_) (fun c3 => ?_)⟩
  · have e0 : h0 = 48 := by
      have z2 := congrArg (fun s : Str => s.cps.toList) (V.str.inj (of_decide_eq_true c3))
      rw [e48] at z2
      exact (List.cons.inj z2).1
    refine ⟨_, rfl, w, rfl, Nat.le_trans hl s64, _, _, rfl, rfl, _, rfl, ite2 (fun c4 => ⟨_, rfl, kN (nOf_no ⟨by rw [ew, e0]; rfl, by have : (1 : Int) < (w.length : Int) := of_decide_eq_true c4; omega⟩)⟩) (fun c4 => ?_)⟩
    refine ⟨_, rfl, le, ha, ne, fun z => ?_, q⟩
    have : ¬ ((1 : Int) < (w.length : Int)) := fun z => c4 (decide_eq_true z)
    have l0 : w.length ≠ 0 := by rw [str_len, ew]; simp
    omega
  · refine iteF ⟨_, rfl, le, ha, ne, fun z => c3 (decide_eq_true ?_), q⟩
    have z1 := z.1
    rw [ew] at z1
    cases z1
    have : (⟨#[48]⟩ : Str) = (("0" : String) : Str) := by decide +kernel
    rw [this]
end

end K60


namespace K60
open PySem L2 PyProof.Rows
local macro_rules | `(tactic| walk_at "cc") => `(tactic| first | exact ⟨by decide, by decide⟩ | (show (0 : Int) < _; decide) | (show (0 : Int) < _; omega) | (show (0 : Int) ≤ _; omega) | exact ⟨by decide, by decide, by decide⟩ | exact ⟨by omega, by omega, by decide⟩ | exact Or.inl ⟨by decide, by decide⟩ | exact Or.inl ⟨by omega, by omega⟩)
local macro_rules | `(tactic| walk_at "rd") => `(tactic| repeat (first | refine ⟨_, rfl, ?_⟩ | refine ⟨_, _, rfl, rfl, ?_⟩ | refine ⟨rfl, ?_⟩ | (refine ⟨?cc, ?_⟩; (case cc => walk_at "cc"))))

def spLRow : Sp := fun vs H Q _ => ∃ (row first : Str), vs = [.str row, .str first] ∧ row.length ≤ 300000 ∧ Asc row ∧ ∀ v H', Same H H' → lV H' v (behind first row 40) → Q v H'
def spLSet (K : PySem.W.Frag) : Sp := fun vs H Q _ => ∃ (a : Addr) (ns : List Nat), vs = [.ref a] ∧ SqL K H a (ns.map iV) ∧ Q (.int (nI (setT ns))) H
theorem in_neg (k : Nat) : ∀ zs : List Str, inV (.int (-1)) (zs.map fun z => V.int (nI (nOf k z))) = !((zs.map (nOf k)).all Option.isSome)
  | [] => rfl
  | z :: zs => by
    have ih := in_neg k zs
    unfold inV at ih ⊢
    rw [List.map_cons, List.any_cons, ih, List.map_cons, List.all_cons]
    cases nOf k z with
    | none => rfl
    | some n =>
      have : eqV (V.int (nI (some n))) (V.int (-1)) = false := by
        show ((n : Int) == -1) = false
        simp
      rw [this]
      rfl
theorem flat_nI (k : Nat) : ∀ zs : List Str, (zs.map fun z => V.int (nI (nOf k z))).all flatV = true
  | [] => rfl
  | z :: zs => by rw [List.map_cons, List.all_cons, flat_nI k zs]; rfl
theorem nI_some {k : Nat} : ∀ {zs : List Str}, (zs.map (nOf k)).all Option.isSome = true → (zs.map fun z => V.int (nI (nOf k z))) = (zs.map fun z => (nOf k z).getD 0).map iV
  | [], _ => rfl
  | z :: zs, h => by
    rw [List.map_cons, List.all_cons, Bool.and_eq_true] at h
    obtain ⟨n, hn⟩ := Option.isSome_iff_exists.mp h.1
    rw [List.map_cons, List.map_cons, List.map_cons, nI_some h.2, hn]
    rfl
/-- the last number of a list, or -1 -/
def lastI (ns : List Nat) : Int := match ns.getLast? with
  | none => -1
  | some n => (n : Int)
theorem lastI_snoc (ns : List Nat) (n : Nat) : lastI (ns ++ [n]) = (n : Int) := by unfold lastI; rw [List.getLast?_append]; rfl
theorem pw_last {ns : List Nat} (h : ns.Pairwise (· < ·)) : ∀ x ∈ ns, (x : Int) ≤ lastI ns := fun x hx => by
  rcases List.eq_nil_or_concat ns with rfl | ⟨l, y, rfl⟩
  · cases hx
  · rw [List.concat_eq_append] at *
    rw [lastI_snoc]
    rcases List.mem_append.mp hx with hx | hx
    · have := (List.pairwise_append.mp h).2.2 x hx y (by simp)
      omega
    · rw [List.mem_singleton.mp hx]
      exact Int.le_refl _
theorem set_no {ns : List Nat} {i n : Nat} (hi : ns[i]? = some n) (h : (n : Int) ≤ lastI (ns.take i) ∨ 79 < n) : setT ns = none := by
  unfold setT
  rw [if_neg]
  rintro ⟨ha, hl⟩
  have pw := asc_pw ha
  have il : i < ns.length := (List.getElem?_eq_some_iff.mp hi).1
  rcases h with h | h
  · rcases List.eq_nil_or_concat (ns.take i) with e | ⟨l, y, e⟩
    · rw [e] at h
      have : ¬ ((n : Int) ≤ -1) := by omega
      exact this h
    · rw [List.concat_eq_append] at e
      rw [e, lastI_snoc] at h
      have e2 : ns = ns.take i ++ ns.drop i := (List.take_append_drop i ns).symm
      rw [e2] at pw
      have hn : n ∈ ns.drop i := by
        rw [List.drop_eq_getElem_cons il]
        rw [List.getElem?_eq_getElem il] at hi
        cases hi
        exact List.mem_cons_self ..
      have := (List.pairwise_append.mp pw).2.2 y (by rw [e]; simp) n hn
      omega
  · have := asc_all ha hl n (List.mem_of_getElem? hi)
    omega
section
variable {P : Program} {w : World} {K : PySem.W.Frag} {mg : Str → Option Value} {base : Heap}
theorem sc_law_row : FnScope ["row", "first", "words", "numbers"] ["row", "first"] (defScope s_law_row) := ⟨rfl, rfl, rfl, by decide +kernel, rfl, by decide +kernel, by decide +kernel⟩
theorem ok_lrow {f f1 : Addr} {fd fd1 : FuncData} (F : Fun K "_law_row" "_law_row" s_law_row f fd) (G_law_number : Cal P w K mg base 1 "_law_number" ["word"] spLNum f1 fd1) : FnOk P w K mg base CX0 2 f fd ["row", "first"] spLRow := by
  refine F.ok sc_law_row (fun vs H Q E h => ?_) (fun cdv A outer s H vs Q E hr h => ?_)
  · obtain ⟨v, i, rfl, _⟩ := h
    rfl
  obtain ⟨row, first, rfl, hl, ha, kk⟩ := h
  refine ⟨_, (pss_cons (ps_set (i := 2) sc_law_row.nd rfl (Or.inl rfl) (pe_bm PySem.F.plainAttrs_str PySem.F.slot_str_split PySem.F.type_str_split mt_split (pv 0) (pa_cons pe_str pa_nil)))
      (pss_cons (ps_setComp (i := 3) rfl sc_law_row.nd rfl rfl (fr := []) (by exact CompOk.plain (by rfl) (by decide +kernel) (by rfl) (by decide +kernel) (by rfl) (by decide +kernel)) (pi_list (pe_slice sl_list (pv 2) (po_some pe_int) po_none)) (fun C ex s H => (pe_call G_law_number.ok (hr.mono (by decide)) rfl G_law_number.mg G_law_number.kp G_law_number.bn .nil pass0 (pa_cons (pv 0) pa_nil))))
      (pss_cons (ps_if (PW.pt (pw_or (pt_cmpR op_ne (pe_ix ix_list (pv 2) pe_int (fun _ _ => rfl)) (pv 1) (nomark _)) (pw_or1 (pt_cmpR op_in_seq (pe_un un_neg pe_int) (pv 3) (by with_unfolding_all rfl))))) (pss_one (ps_ret pe_non)) pss_nil)
      (pss_one (ps_ret (pv 3)))))), ?_⟩
  rw [sp_eq]
  have sl := split_le row spS
  have s1 : (400000 : Nat) ≤ sizeLine := by decide
  refine ⟨_, rfl, rfl, row, spS, rfl, rfl, rfl, by omega, fun l hl => ?_⟩
  obtain ⟨w0, ws, ew⟩ := List.exists_cons_of_ne_nil (split_ne row 32)
  have ew' : PySem.Txt.split row spS = w0 :: ws := ew
  rw [ew']
  rw [ew', List.length_cons] at sl
  refine ⟨_, rfl, _, rfl, l, _, rfl, SqL.of upd_same, fun c hc => ?_⟩
  have ec : cutV ((w0 :: ws).map V.str) (some 1) none = ws.map V.str := cut_tail _
  rw [ec]
  refine ⟨c, rfl, ⟨_, SqL.of upd_same⟩, ?_⟩
  have sA : Same H (upd H l (.lst ((w0 :: ws).map V.str))) := same_new hl _
  have sB := same_new hc (.lst (ws.map V.str))
  generalize hH1 : upd (upd H l (.lst ((w0 :: ws).map V.str))) c (.lst (ws.map V.str)) = H1 at sB ⊢
  have cH1 : H1 c = some (.lst (ws.map V.str)) := by rw [← hH1, upd_same]
  have lH1 : H1 l = some (.lst ((w0 :: ws).map V.str)) := sB _ _ upd_same
  have aw : ∀ z ∈ w0 :: ws, Asc z ∧ z.length ≤ row.length := fun z hz => split_asc (c := 32) ha (by rw [ew]; exact hz)
  refine comp_list (K := K) (xs := ws.map V.str) (fun i ys H2 => ys = (ws.take i).map (fun z => V.int (nI (nOf 40 z))) ∧ H2 = H1) (by rw [List.length_map]; omega) ⟨rfl, rfl⟩ (fun i ys H2 _ ⟨_, z⟩ => by rw [z]; exact SqL.of cH1) ?_ ?_
  · rintro i x ys H2 hx ⟨rfl, rfl⟩
    rw [List.getElem?_map] at hx
    obtain ⟨z, hz, rfl⟩ := Option.map_eq_some_iff.mp hx
    have az := aw z (List.mem_cons_of_mem _ (List.mem_of_getElem? hz))
    refine ⟨_, rfl, z, rfl, by omega, az.1, ?_, rfl⟩
    rw [List.take_add_one, hz, List.map_append]
    rfl
  · rintro ys H2 _ ⟨rfl, rfl⟩ D hD
    rw [List.length_map, List.take_length]
    have sD := same_new hD (.lst (ws.map fun z => V.int (nI (nOf 40 z))))
    have sAll : Same H (upd H2 D (.lst (ws.map fun z => V.int (nI (nOf 40 z))))) := sA.trans (sB.trans sD)
    have eb : behind first row 40 = if w0 = first ∧ (ws.map (nOf 40)).all Option.isSome = true then some (ws.map fun z => (nOf 40 z).getD 0) else none := by
      unfold behind
      rw [ew']
    have ed : (!decide (V.str w0 = V.str first)) = !decide (w0 = first) := congrArg _ (decide_eq_decide.mpr ⟨V.str.inj, congrArg V.str⟩)
    refine ⟨_, rfl, l, _, 0, .str w0, rfl, rfl, SqL.of (sD _ _ lH1), at_hd, _, rfl, rfl, _, rfl, ?_⟩
    rw [ed]
    refine ite2 (fun c1 => iteT (kk _ _ sAll ?_)) (fun c1 => ?_)
    · rw [eb, if_neg fun z => by rw [decide_eq_true z.1] at c1; cases c1]
      rfl
    refine ⟨_, rfl, _, rfl, D, _, rfl, .inl (SqL.of upd_same), rfl, flat_nI 40 ws, _, rfl, ?_⟩
    have ef : (if false = true then !inV (V.int (-1)) (ws.map fun z => V.int (nI (nOf 40 z))) else inV (V.int (-1)) (ws.map fun z => V.int (nI (nOf 40 z)))) = !((ws.map (nOf 40)).all Option.isSome) := in_neg 40 ws
    rw [ef]
    cases hall : (ws.map (nOf 40)).all Option.isSome with
    | false =>
      refine iteT (kk _ _ sAll ?_)
      rw [eb, if_neg fun z => by rw [hall] at z; exact Bool.noConfusion z.2]
      rfl
    | true =>
      refine iteF ⟨_, rfl, kk _ _ sAll ?_⟩
      have w1 : w0 = first := Decidable.byContradiction fun z => c1 (by rw [decide_eq_false z]; rfl)
      rw [eb, if_pos ⟨w1, hall⟩]
      exact ⟨D, rfl, by rw [upd_same, nI_some hall]⟩
theorem sc_law_set : FnScope ["numbers", "found", "last", "number"] ["numbers"] (defScope s_law_set) := ⟨rfl, rfl, rfl, by decide +kernel, rfl, by decide +kernel, by decide +kernel⟩
theorem ok_lset {f : Addr} {fd : FuncData} (F : Fun K "_law_set" "_law_set" s_law_set f fd) (T : Txt mg) : FnOk P w K mg base CX0 1 f fd ["numbers"] (spLSet K) := by
  refine F.ok sc_law_set (fun vs H Q E h => ?_) (fun cdv A outer s H vs Q E hr h => ?_)
  · obtain ⟨a, ns, rfl, _⟩ := h
    rfl
  obtain ⟨a, ns, rfl, hS, q⟩ := h
  refine ⟨_, (pss_cons (ps_set (i := 1) sc_law_set.nd rfl (Or.inl rfl) pe_int)
      (pss_cons (ps_set (i := 2) sc_law_set.nd rfl (Or.inl rfl) (pe_un un_neg pe_int))
      (pss_cons (ps_for PassesOwn.never rfl (pi_list (pv 0)) (pg_name (i := 3) sc_law_set.nd rfl (Or.inl rfl)) (pss_cons (ps_if (PW.pt (pw_or (pt_cmpR op_le (pv 3) (pv 2) (nomark _)) (pw_or1 (pt_cmpR op_gt (pv 3) pe_int (nomark _))))) (pss_one (ps_ret (pe_un un_neg pe_int))) pss_nil)
      (pss_cons (ps_set (i := 2) sc_law_set.nd rfl (Or.inl rfl) (pv 3))
      (pss_one (ps_set (i := 1) sc_law_set.nd rfl (Or.inl rfl) (pe_op op_or (pv 1) (pe_op op_shl pe_int (pv 3))))))))
      (pss_one (ps_ret (pv 1)))))), ?_⟩
  refine ⟨_, rfl, _, rfl, a, rfl, ⟨_, hS⟩, for_list (K := K) (xs := ns.map iV) (fun i σ H2 => ∃ v3, σ = [some (.ref a), some (.int ((maskL (ns.take i) : Nat) : Int)), some (.int (lastI (ns.take i))), v3] ∧ H2 = H ∧ (ns.take i).Pairwise (· < ·) ∧ ∀ k ∈ ns.take i, k ≤ 79) ⟨_, rfl, rfl, .nil, fun k hk => nomatch hk⟩ (fun i σ H2 _ ⟨_, _, z, _⟩ => by rw [z]; exact hS) ?_ ?_⟩
  · rintro i x σ H2 hx ⟨v3, rfl, rfl, pw, al⟩
    rw [List.getElem?_map] at hx
    obtain ⟨n, hn, rfl⟩ := Option.map_eq_some_iff.mp hx
    have bad : ((n : Int) ≤ lastI (ns.take i) ∨ 79 < n) → Q (.int (-1)) H2 := fun z => by
      rw [set_no hn z] at q
      exact q
    refine ⟨_, rfl, _, rfl, _, _, rfl, rfl, _, rfl, ite2 (fun c => iteT ⟨_, rfl, bad (.inl (of_decide_eq_true c))⟩) (fun c => ?_)⟩
    have c' : ¬ ((n : Int) ≤ lastI (ns.take i)) := fun z => c (decide_eq_true z)
    refine ⟨_, rfl, _, _, rfl, rfl, _, rfl, ite2 (fun c2 => ⟨_, rfl, bad (.inr (by have : (79 : Int) < (n : Int) := of_decide_eq_true c2; omega))⟩) (fun c2 => ?_)⟩
    have c2' : ¬ ((79 : Int) < (n : Int)) := fun z => c2 (decide_eq_true z)
    have et : ns.take (i + 1) = ns.take i ++ [n] := by rw [List.take_add_one, hn]; rfl
    refine ⟨_, rfl, _, rfl, _, rfl, _, _, rfl, rfl, ⟨by show (0 : Int) ≤ (n : Int); omega, by show (n : Int) ≤ 1000000; omega, by decide⟩, _, _, rfl, rfl, some (iV n), ?_, rfl, ?_, ?_⟩
    · have em : Builtin.bitOr ((maskL (ns.take i) : Nat) : Int) (1 * 2 ^ ((n : Nat) : Int).toNat) = ((maskL (ns.take (i + 1)) : Nat) : Int) := by
        rw [shlN, orN, et]
        unfold maskL
        rw [List.foldl_append]
        rfl
      show [some (V.ref a), some (V.int (Builtin.bitOr ((maskL (ns.take i) : Nat) : Int) (1 * 2 ^ ((n : Nat) : Int).toNat))), some (V.int (n : Int)), some (iV n)] = _
      rw [em, et, lastI_snoc]
    · rw [et]
      refine List.pairwise_append.mpr ⟨pw, List.pairwise_singleton .., fun x hx y hy => ?_⟩
      rw [List.mem_singleton.mp hy]
      have := pw_last pw x hx
      omega
    · intro k hk
      rw [et] at hk
      rcases List.mem_append.mp hk with hk | hk
      · exact al k hk
      · rw [List.mem_singleton.mp hk]; omega
  · rintro σ H2 ⟨v3, rfl, rfl, pw, al⟩
    rw [List.length_map, List.take_length] at *
    have e : setT ns = some (maskL ns) := by
      unfold setT
      rw [if_pos]
      refine ⟨pw_asc pw, ?_⟩
      unfold lastOk
      cases e : ns.getLast? with
      | none => rfl
      | some n => exact decide_eq_true (al n (List.mem_of_getLast? e))
    rw [e] at q
    exact ⟨_, rfl, q⟩
end

end K60


namespace K60
open PySem L2 PyProof.Rows
local macro_rules | `(tactic| walk_at "cc") => `(tactic| first | exact ⟨by decide, by decide⟩ | (show (0 : Int) < _; decide) | (show (0 : Int) < _; omega) | (show (0 : Int) ≤ _; omega) | exact ⟨by decide, by decide, by decide⟩ | exact ⟨by omega, by omega, by decide⟩ | exact Or.inl ⟨by decide, by decide⟩ | exact Or.inl ⟨by omega, by omega⟩)
local macro_rules | `(tactic| walk_at "rd") => `(tactic| repeat (first | refine ⟨_, rfl, ?_⟩ | refine ⟨_, _, rfl, rfl, ?_⟩ | refine ⟨rfl, ?_⟩ | (refine ⟨?cc, ?_⟩; (case cc => walk_at "cc"))))

/-! what a text tells, row by row -/
def wF (o : Option (List Nat)) : Option Nat := o.bind fun ns => match ns with
  | [n] => some n
  | _ => none
def hF (o : Option (List Nat)) : Option Pq := o.bind fun ns => match ns with
  | p :: n :: r => if p < 1 then none else (setT (n :: r)).map fun m => (m, p)
  | _ => none
def rowN (R : List Str) (j : Nat) : Str := R.getD j Str.empty
def nmAt (j : Nat) : Str := if j = 0 then wW else if j = 1 then wD else wH
def oAt (R : List Str) (j : Nat) : Option (List Nat) := if j + 1 < R.length then behind (nmAt j) (rowN R j) 40 else none
def okAt (R : List Str) (j : Nat) : Bool := if j = 0 then (wF (oAt R 0)).isSome else if j = 1 then ((oAt R 1).bind setT).isSome else (hF (oAt R j)).isSome
def stC (R : List Str) (i : Nat) : Nat := if 1 ≤ i then (wF (oAt R 0)).getD 0 else 0
def stL (R : List Str) (i : Nat) : Nat := if 2 ≤ i then ((oAt R 1).bind setT).getD 0 else 0
def stP (R : List Str) : Nat → List Pq
  | 0 => []
  | i + 1 => if i < 2 then stP R i else stP R i ++ [(hF (oAt R i)).getD (0, 0)]
def manyR (R : List Str) : Nat := max 2 (R.length - if R.getLast? = some Str.empty then 1 else 0)
def spRead : Sp := fun vs H Q _ => ∃ (text : Str) (R : List Str), vs = [.str text] ∧ text.length ≤ 300000 ∧ Asc text ∧ R = PySem.Txt.split text nlS ∧
  (∀ j H', j < manyR R → (∀ i, i < j → okAt R i = true) → okAt R j = false → Same H H' → Q (.int ((j + 1 : Nat) : Int)) H') ∧
  ((∀ j, j < manyR R → okAt R j = true) → ∀ v H', Same H H' → Tri H' v (stC R (manyR R)) (stL R (manyR R)) (stP R (manyR R)) → Q v H')
/-- what stands when a row's numbers are told -/
def rdT (K : PySem.W.Frag) (text : Str) (R : List Str) : TS := fun D σ H => ∃ (r pl : Addr) (c l : Nat) (zs : List V) (ps : List Pq) (k : Nat) (nv : V), σ = [some (.str text), some (.ref r), some (iV c), some (iV l), some (.ref pl), some (iV k), some nv] ∧ lV H nv (oAt R k) ∧ (∀ ns, oAt R k = some ns → ns.length ≤ 300010) ∧ H pl = some (.lst zs) ∧ PsA H zs ps ∧ zs.length ≤ 300010 ∧
  (okAt R k = false → ∀ H', Same H H' → D.rt (iV (k + 1)) H') ∧
  (k = 0 → ∀ n nv' H', wF (oAt R 0) = some n → Same H H' → D.nx [some (.str text), some (.ref r), some (iV n), some (iV l), some (.ref pl), some (iV k), nv'] H') ∧
  (k = 1 → ∀ m nv' H', (oAt R 1).bind setT = some m → Same H H' → D.nx [some (.str text), some (.ref r), some (iV c), some (iV m), some (.ref pl), some (iV k), nv'] H') ∧
  (2 ≤ k → ∀ p nv' t H', hF (oAt R k) = some p → Same H H' → H' t = some (.tup [iV p.1, iV p.2]) → D.nx [some (.str text), some (.ref r), some (iV c), some (iV l), some (.ref pl), some (iV k), nv'] (upd H' pl (.lst (zs ++ [.ref t]))))
theorem ok_none {R : List Str} {k : Nat} (h : oAt R k = none) : okAt R k = false := by
  unfold okAt
  by_cases z0 : k = 0
  · subst z0; rw [if_pos rfl, h]; rfl
  · rw [if_neg z0]
    by_cases z1 : k = 1
    · subst z1; rw [if_pos rfl, h]; rfl
    · rw [if_neg z1, h]; rfl
theorem ok_two {R : List Str} {k : Nat} : okAt R (k + 2) = (hF (oAt R (k + 2))).isSome := by
  unfold okAt
  rw [if_neg (by omega), if_neg (by omega)]
theorem nI_neg {o : Option Nat} : decide (nI o < 0) = !o.isSome := by
  cases o with
  | none => rfl
  | some n => exact decide_eq_false (by show ¬ ((n : Int) < 0); omega)
theorem stP_len (R : List Str) : ∀ i, (stP R i).length ≤ i
  | 0 => Nat.le_refl 0
  | i + 1 => by
    have := stP_len R i
    unfold stP
    split
    · omega
    · rw [List.length_append, List.length_singleton]; omega
theorem many_is {l0 : List Str} {y : Str} : (if ((((l0 ++ [y]).map V.str).length : Nat) : Int) - (if decide (V.str y = V.str Str.empty) = true then 1 else 0) > 2 then ((((l0 ++ [y]).map V.str).length : Nat) : Int) - (if decide (V.str y = V.str Str.empty) = true then 1 else 0) else 2) = ((manyR (l0 ++ [y]) : Nat) : Int) := by
  unfold manyR
  rw [List.length_map, List.length_append, List.length_singleton, List.getLast?_append]
  show _ = ((max 2 (l0.length + 1 - if some y = some Str.empty then 1 else 0) : Nat) : Int)
  by_cases z : y = Str.empty
  · rw [z, decide_eq_true rfl, if_pos rfl, if_pos rfl]
    split <;> omega
  · rw [decide_eq_false fun q => z (V.str.inj q), if_neg (fun q => z (Option.some.inj q))]
    simp only [Bool.false_eq_true, if_false, Int.sub_zero]
    split <;> omega
theorem nm_at (i : Nat) : atI [V.str wW, V.str wD, V.str wH] (if (2 : Int) < (i : Int) then 2 else (i : Int)) = some (V.str (nmAt i)) := by
  match i with
  | 0 => rfl
  | 1 => rfl
  | 2 => rfl
  | i + 3 =>
    rw [if_pos (by omega)]
    unfold nmAt
    rw [if_neg (by omega), if_neg (by omega)]
    rfl
section
variable {P : Program} {w : World} {K : PySem.W.Frag} {mg : Str → Option Value} {base : Heap}
theorem sc_law_read : FnScope ["text", "rows", "cost", "laying", "paper", "k", "numbers"] ["text"] (defScope s_law_read) := ⟨rfl, rfl, rfl, by decide +kernel, rfl, by decide +kernel, by decide +kernel⟩
theorem ok_read {f f1 f2 : Addr} {fd fd1 fd2 : FuncData} (F : Fun K "_law_read" "_law_read" s_law_read f fd) (T : Txt mg) (G_law_row : Cal P w K mg base 2 "_law_row" ["row", "first"] spLRow f1 fd1) (G_law_set : Cal P w K mg base 1 "_law_set" ["numbers"] (spLSet K) f2 fd2) : FnOk P w K mg base CX0 3 f fd ["text"] spRead := by
  refine F.ok sc_law_read (fun vs H Q E h => ?_) (fun cdv A outer s H vs Q E hr h => ?_)
  · obtain ⟨text, R, rfl, _⟩ := h
    rfl
  obtain ⟨text, R, rfl, hl, ha, hR, kbad, kok⟩ := h
  refine ⟨_, (pss_cons (ps_set (i := 1) sc_law_read.nd rfl (Or.inl rfl) (pe_bm PySem.F.plainAttrs_str PySem.F.slot_str_split PySem.F.type_str_split mt_split (pv 0) (pa_cons pe_str pa_nil)))
      (pss_cons (ps_set (i := 2) sc_law_read.nd rfl (Or.inl rfl) pe_int)
      (pss_cons (ps_set (i := 3) sc_law_read.nd rfl (Or.inl rfl) pe_int)
      (pss_cons (ps_set (i := 4) sc_law_read.nd rfl (Or.inl rfl) (pe_lst pa_nil))
      (pss_cons (ps_for PassesOwn.never rfl (pi_range1 rfl T.n_range (pa_cons (pe_callB (call_max2 rfl) (by rfl) T.n_max bt_max (pa_cons pe_int (pa_cons (pe_op op_sub (pe_callB call_len_seq (by rfl) T.n_len bt_len (pa_cons (pv 1) pa_nil)) (pe_callTy call_int1 (by rfl) T.n_int bt_int (pa_cons (pe_cmpR op_eq (pe_ix ix_list (pv 1) (pe_un un_neg pe_int) (fun _ _ => rfl)) pe_str (nomark _)) pa_nil))) pa_nil))) pa_nil)) (pg_name (i := 5) sc_law_read.nd rfl (Or.inl rfl)) (pss_cons (ps_set (i := 6) sc_law_read.nd rfl (Or.inl rfl) pe_non)
      (pss_cons (ps_if (pt_cmpR op_lt (pv 5) (pe_op op_sub (pe_callB call_len_seq (by rfl) T.n_len bt_len (pa_cons (pv 1) pa_nil)) pe_int) (nomark _)) (pss_one (ps_set (i := 6) sc_law_read.nd rfl (Or.inl rfl) (pe_call G_law_row.ok (hr.mono (by decide)) rfl G_law_row.mg G_law_row.kp G_law_row.bn .nil pass0 (pa_cons (pe_ix ix_list (pv 1) (pv 5) (fun _ _ => rfl)) (pa_cons (pe_ix ix_list (pe_lst (pa_cons pe_str (pa_cons pe_str (pa_cons pe_str pa_nil)))) (pe_callB (call_min2 rfl) (by rfl) T.n_min bt_min (pa_cons (pv 5) (pa_cons pe_int pa_nil))) (fun _ _ => rfl)) pa_nil))))) pss_nil)
      (pss_imp (t2 := (rdT K text R)) (pss_cons (ps_if (PW.pt (pw_or (pt_cmpR op_isN (pv 6) pe_non (nomark _)) (pw_or1 (PW.pt (pw_and (pt_cmpR op_eq (pv 5) pe_int (nomark _)) (pw_and1 (pt_cmpR op_ne (pe_callB call_len_seq (by rfl) T.n_len bt_len (pa_cons (pv 6) pa_nil)) pe_int (nomark _)))))))) (pss_one (ps_ret (pe_op op_add (pv 5) pe_int))) pss_nil)
      (pss_one (ps_if (pt_cmpR op_eq (pv 5) pe_int (nomark _)) (pss_one (ps_set (i := 2) sc_law_read.nd rfl (Or.inl rfl) (pe_ix ix_list (pv 6) pe_int (fun _ _ => rfl)))) (pss_one (ps_if (pt_cmpR op_eq (pv 5) pe_int (nomark _)) (pss_cons (ps_set (i := 3) sc_law_read.nd rfl (Or.inl rfl) (pe_call G_law_set.ok (hr.mono (by decide)) rfl G_law_set.mg G_law_set.kp G_law_set.bn .nil pass0 (pa_cons (pv 6) pa_nil)))
      (pss_one (ps_if (pt_cmpR op_lt (pv 3) pe_int (nomark _)) (pss_one (ps_ret pe_int)) pss_nil))) (pss_one (ps_if (PW.pt (pw_or (pt_cmpR op_lt (pe_callB call_len_seq (by rfl) T.n_len bt_len (pa_cons (pv 6) pa_nil)) pe_int (nomark _)) (pw_or (pt_cmpR op_lt (pe_ix ix_list (pv 6) pe_int (fun _ _ => rfl)) pe_int (nomark _)) (pw_or1 (pt_cmpR op_lt (pe_call G_law_set.ok (hr.mono (by decide)) rfl G_law_set.mg G_law_set.kp G_law_set.bn .nil pass0 (pa_cons (pe_slice sl_list (pv 6) (po_some pe_int) po_none) pa_nil)) pe_int (nomark _)))))) (pss_one (ps_ret (pe_op op_add (pv 5) pe_int))) (pss_one (ps_expr (pe_bm PySem.F.plainAttrs_list PySem.F.slot_list_append PySem.F.type_list_append mt_append (pv 4) (pa_cons (pe_tup (pa_cons (pe_call G_law_set.ok (hr.mono (by decide)) rfl G_law_set.mg G_law_set.kp G_law_set.bn .nil pass0 (pa_cons (pe_slice sl_list (pv 6) (po_some pe_int) po_none) pa_nil)) (pa_cons (pe_ix ix_list (pv 6) pe_int (fun _ _ => rfl)) pa_nil))) pa_nil))))))))))) (fun D0 S0 H0 h0 => ?rp)))))
      (pss_one (ps_ret (pe_tup (pa_cons (pv 2) (pa_cons (pv 3) (pa_cons (pv 4) pa_nil))))))))))), ?_⟩
  case rp =>
    obtain ⟨r, pl, c, l, zs, ps, k, nv, rfl, hv, ol, hpl, hP, zl, kb, k0, k1, k2⟩ := h0
    cases ho : oAt R k with
    | none =>
      rw [ho] at hv
      cases (show nv = .non from hv)
      exact ⟨_, rfl, rfl, _, rfl, ite2 (fun _ => iteT ⟨_, rfl, _, _, rfl, rfl, kb (ok_none ho) _ fun _ _ q => q⟩) (fun z => absurd (decide_eq_true rfl) z)⟩
    | some ns =>
      rw [ho] at hv
      obtain ⟨a, rfl, ha⟩ := hv
      have nl := ol ns ho
      refine ⟨_, rfl, rfl, _, rfl, ite2 (fun z => absurd (of_decide_eq_true z) (by intro y; cases y)) (fun _ => ?_)⟩
      match k, ho, kb, k0, k1, k2 with
      | 0, ho, kb, k0, k1, k2 =>
        refine ⟨_, rfl, rfl, _, rfl, ite2 (fun _ => ?_) (fun z => absurd (decide_eq_true rfl) z)⟩
        refine ⟨_, rfl, a, _, rfl, .inl (SqL.of ha), rfl, _, rfl, ?_⟩
        rw [List.length_map]
        match ns, ho, ha with
        | [], ho, ha => exact iteT ⟨_, rfl, _, _, rfl, rfl, kb (by unfold okAt; rw [if_pos rfl, ho]; rfl) _ fun _ _ q => q⟩
        | [n], ho, ha => exact iteF ⟨_, rfl, rfl, _, rfl, ite2 (fun _ => ⟨_, rfl, a, _, 0, _, rfl, rfl, SqL.of ha, at_hd, k0 rfl n _ _ (by rw [ho]; rfl) fun _ _ q => q⟩) (fun z => absurd (decide_eq_true rfl) z)⟩
        | n :: m :: r', ho, ha =>
          refine ite2 (fun _ => ⟨_, rfl, _, _, rfl, rfl, kb (by unfold okAt; rw [if_pos rfl, ho]; rfl) _ fun _ _ q => q⟩) (fun z => absurd ?_ z)
          have : ¬ ((((n :: m :: r').length : Nat) : Int) = 1) := by rw [List.length_cons, List.length_cons]; omega
          rw [decide_eq_false fun z => this (V.int.inj z)]
          rfl
      | 1, ho, kb, k0, k1, k2 =>
        refine ⟨_, rfl, rfl, _, rfl, ite2 (fun z => absurd (V.int.inj (of_decide_eq_true z)) (by decide)) (fun _ => iteF ?_)⟩
        refine ⟨_, rfl, rfl, _, rfl, ite2 (fun z => absurd (V.int.inj (of_decide_eq_true z)) (by decide)) (fun _ => ?_)⟩
        refine ⟨_, rfl, rfl, _, rfl, ite2 (fun _ => ?_) (fun z => absurd (decide_eq_true rfl) z)⟩
        refine ⟨_, rfl, a, ns, rfl, SqL.of ha, ?_⟩
        refine ⟨_, rfl, _, _, rfl, rfl, _, rfl, ?_⟩
        rw [nI_neg]
        cases hs : setT ns with
        | none => exact iteT (kb (by unfold okAt; rw [if_neg (by decide), if_pos rfl, ho]; show (setT ns).isSome = false; rw [hs]; rfl) _ fun _ _ q => q)
        | some m => exact iteF (k1 rfl m _ _ (by rw [ho]; exact hs) fun _ _ q => q)
      | k + 2, ho, kb, k0, k1, k2 =>
        have n0 : ¬ (((k + 2 : Nat) : Int) = 0) := by omega
        have n1 : ¬ (((k + 2 : Nat) : Int) = 1) := by omega
        refine ⟨_, rfl, rfl, _, rfl, ite2 (fun z => absurd (V.int.inj (of_decide_eq_true z)) n0) (fun _ => iteF ?_)⟩
        refine ⟨_, rfl, rfl, _, rfl, ite2 (fun z => absurd (V.int.inj (of_decide_eq_true z)) n0) (fun _ => ?_)⟩
        refine ⟨_, rfl, rfl, _, rfl, ite2 (fun z => absurd (V.int.inj (of_decide_eq_true z)) n1) (fun _ => ?_)⟩
        refine ⟨_, rfl, a, _, rfl, .inl (SqL.of ha), _, _, rfl, rfl, _, rfl, ?_⟩
        rw [List.length_map]
        match ns, ho, ha, nl with
        | [], ho, ha, _ => exact iteT (iteT ⟨_, rfl, _, _, rfl, rfl, kb (by rw [ok_two, ho]; rfl) _ fun _ _ q => q⟩)
        | [n], ho, ha, _ => exact iteT (iteT ⟨_, rfl, _, _, rfl, rfl, kb (by rw [ok_two, ho]; rfl) _ fun _ _ q => q⟩)
        | p :: n :: r', ho, ha, nl =>
          refine ite2 (fun z => absurd (of_decide_eq_true z) (by rw [List.length_cons, List.length_cons]; omega)) (fun _ => ?_)
          refine ⟨_, rfl, a, _, 0, _, rfl, rfl, SqL.of ha, at_hd, _, _, rfl, rfl, _, rfl, ?_⟩
          have eh : hF (oAt R (k + 2)) = if p < 1 then none else (setT (n :: r')).map fun m => (m, p) := by rw [ho]; rfl
          by_cases hp : p < 1
          · rw [decide_eq_true (show ((p : Nat) : Int) < 1 by omega)]
            exact iteT (iteT ⟨_, rfl, _, _, rfl, rfl, kb (by rw [ok_two, eh, if_pos hp]; rfl) _ fun _ _ q => q⟩)
          · rw [decide_eq_false (show ¬ ((p : Nat) : Int) < 1 by omega)]
            refine iteF ?_
            refine ⟨_, rfl, _, rfl, a, _, rfl, SqL.of ha, fun e he => ?_⟩
            have ec : cutV ((p :: n :: r').map iV) (some 1) none = (n :: r').map iV := cut_tail _
            rw [ec]
            have se := same_new he (.lst ((n :: r').map iV))
            refine ⟨e, n :: r', rfl, SqL.of upd_same, _, _, rfl, rfl, _, rfl, ?_⟩
            rw [nI_neg]
            rw [if_neg hp] at eh
            cases hs : setT (n :: r') with
            | none =>
              rw [hs] at eh
              exact iteT ⟨_, rfl, _, _, rfl, rfl, kb (by rw [ok_two, eh]; rfl) _ se⟩
            | some m =>
              rw [hs] at eh
              refine iteF ?_
              generalize hG : upd H0 e (.lst ((n :: r').map iV)) = H1 at se
              refine ⟨_, rfl, .inl ⟨rfl, _, SqL.of (se _ _ hpl)⟩, _, rfl, _, rfl, a, _, rfl, SqL.of (se _ _ ha), fun e2 he2 => ?_⟩
              rw [ec]
              have se2 := same_new he2 (.lst ((n :: r').map iV))
              refine ⟨e2, n :: r', rfl, SqL.of upd_same, ?_⟩
              rw [hs]
              have gA := se2 _ _ (se _ _ ha)
              have gP := se2 _ _ (se _ _ hpl)
              generalize upd H1 e2 (.lst ((n :: r').map iV)) = H2 at se2 gA gP
              refine ⟨_, rfl, a, _, 0, _, rfl, rfl, SqL.of gA, at_hd, (by show 2 ≤ sizeLine; decide), fun t ht => ?_⟩
              have st := same_new ht (.tup [iV m, iV p])
              refine ⟨pl, zs, _, rfl, rfl, st _ _ gP, ?_, k2 (by omega) (m, p) _ t _ eh (se.trans (se2.trans st)) upd_same⟩
              have : (400000 : Nat) ≤ sizeLine := by decide
              omega
  rw [nl_eq, em_eq]
  have s64 : (400000 : Nat) ≤ sizeLine := by decide
  have sl := split_le text nlS
  have ne : R ≠ [] := by rw [hR]; exact split_ne text 10
  rw [← hR] at sl
  refine ⟨_, rfl, rfl, text, nlS, rfl, rfl, rfl, by omega, fun r hr' => ?_⟩
  rw [← hR]
  have sr := same_new hr' (.lst (R.map V.str))
  have gr : (upd H r (.lst (R.map V.str))) r = some (.lst (R.map V.str)) := upd_same
  generalize upd H r (.lst (R.map V.str)) = H1 at sr gr
  refine ⟨(by show 0 ≤ sizeLine; decide), fun pl hpl => ?_⟩
  have hpl0 : H pl = none := by
    cases e : H pl with
    | none => rfl
    | some o => rw [sr _ _ e] at hpl; cases hpl
  have rpl : r ≠ pl := fun z => by rw [z, hpl] at gr; cases gr
  have sp := same_new hpl (.lst [])
  have aw : ∀ b ∈ R, Asc b ∧ b.length ≤ text.length := fun b hb => split_asc (c := 10) ha (by rw [show (⟨#[10]⟩ : Str) = nlS from rfl, ← hR]; exact hb)
  rcases List.eq_nil_or_concat R with e | ⟨l0, y, e⟩
  · exact absurd e ne
  rw [List.concat_eq_append] at e
  refine ⟨_, rfl, r, _, rfl, .inl (SqL.of (sp _ _ gr)), _, rfl, _, rfl, r, _, -1, V.str y, rfl, rfl, SqL.of (sp _ _ gr), by rw [e, List.map_append]; exact atI_last _ _, rfl, .inr ⟨_, rfl, _, _, rfl, rfl, _, _, rfl, ?_⟩⟩
  have em := many_is (l0 := l0) (y := y)
  rw [← e] at em
  have mb : manyR R ≤ 300010 := by unfold manyR; split <;> omega
  refine ⟨((manyR R : Nat) : Int), congrArg (fun z => [V.int z]) em, by omega, by omega, for_range (n := manyR R) (fun i σ H2 => (∀ j, j < i → okAt R j = true) ∧ i ≤ manyR R ∧ ∃ (v5 v6 : Option V) (zs : List V), σ = [some (.str text), some (.ref r), some (iV (stC R i)), some (iV (stL R i)), some (.ref pl), v5, v6] ∧ Same H H2 ∧ H2 r = some (.lst (R.map V.str)) ∧ H2 pl = some (.lst zs) ∧ PsA H2 zs (stP R i)) ⟨fun j z => absurd z (Nat.not_lt_zero _), Nat.zero_le _, _, _, [], rfl, sr.trans sp, sp _ _ gr, upd_same, .nil⟩ ?_ ?_⟩
  · rintro i σ H2 hi ⟨okb, _, v5, v6, zs, rfl, s2, g2, p2, hP⟩
    rw [Int.zero_add]
    have zl : zs.length ≤ 300010 := by
      have := stP_len R i
      rw [hP.1]
      omega
    have fin : ∀ (nv : V) (H3 : Hp), Same H2 H3 → lV H3 nv (oAt R i) → rdT K text R { nx := fun σ H2 => (∀ j, j < i + 1 → okAt R j = true) ∧ i + 1 ≤ manyR R ∧ ∃ (v5 v6 : Option V) (zs : List V), σ = [some (.str text), some (.ref r), some (iV (stC R (i + 1))), some (iV (stL R (i + 1))), some (.ref pl), v5, v6] ∧ Same H H2 ∧ H2 r = some (.lst (R.map V.str)) ∧ H2 pl = some (.lst zs) ∧ PsA H2 zs (stP R (i + 1)), rt := Q } [some (.str text), some (.ref r), some (iV (stC R i)), some (iV (stL R i)), some (.ref pl), some (iV i), some nv] H3 := fun nv H3 s3 hv => by
      have okn : okAt R i = true → ∀ j, j < i + 1 → okAt R j = true := fun z j hj => by
        rcases Nat.lt_or_eq_of_le (Nat.le_of_lt_succ hj) with y | y
        · exact okb j y
        · rw [y]; exact z
      refine ⟨r, pl, stC R i, stL R i, zs, stP R i, i, nv, rfl, hv, fun ns hns => ?_, s3 _ _ p2, hP.mono s3, zl, fun z H' s' => kbad i H' hi okb z (s2.trans (s3.trans s')), ?_, ?_, ?_⟩
      · unfold oAt at hns
        split at hns
        · rename_i hlt
          have hb := beh_len hns
          have : rowN R i ∈ R := by
            unfold rowN
            rw [List.getD_eq_getElem?_getD, List.getElem?_eq_getElem (by omega)]
            exact List.getElem_mem _
          have := (aw _ this).2
          omega
        · cases hns
      · rintro rfl n nv' H' hn s'
        refine ⟨okn (by unfold okAt; rw [if_pos rfl, hn]; rfl), hi, some (iV 0), nv', zs, ?_, s2.trans (s3.trans s'), s' _ _ (s3 _ _ g2), s' _ _ (s3 _ _ p2), hP.mono (s3.trans s')⟩
        have : stC R 1 = n := by unfold stC; rw [if_pos (by decide), hn]; rfl
        rw [this]
        rfl
      · rintro rfl m nv' H' hn s'
        refine ⟨okn (by unfold okAt; rw [if_neg (by decide), if_pos rfl, hn]; rfl), hi, some (iV 1), nv', zs, ?_, s2.trans (s3.trans s'), s' _ _ (s3 _ _ g2), s' _ _ (s3 _ _ p2), hP.mono (s3.trans s')⟩
        have : stL R 2 = m := by unfold stL; rw [if_pos (by decide), hn]; rfl
        rw [this]
        rfl
      · intro h2 p nv' t H' hn s' ht
        obtain ⟨k, rfl⟩ : ∃ k, i = k + 2 := ⟨i - 2, by omega⟩
        have p3 := s' _ _ (s3 _ _ p2)
        refine ⟨okn (by rw [ok_two, hn]; rfl), hi, some (iV (k + 2)), nv', zs ++ [.ref t], ?_, same_upd (s2.trans (s3.trans s')) hpl0 _, ?_, upd_same, ?_⟩
        · have e1 : stC R (k + 2 + 1) = stC R (k + 2) := by unfold stC; rw [if_pos (by omega), if_pos (by omega)]
          have e2 : stL R (k + 2 + 1) = stL R (k + 2) := by unfold stL; rw [if_pos (by omega), if_pos (by omega)]
          rw [e1, e2]
        · rw [upd_ne rpl]
          exact s' _ _ (s3 _ _ g2)
        · have e3 : stP R (k + 2 + 1) = stP R (k + 2) ++ [p] := by
            rw [stP, if_neg (by omega), hn]
            rfl
          rw [e3]
          exact PsA.put ((hP.mono (s3.trans s')).snoc ⟨t, rfl, ht⟩) p3
    refine ⟨_, rfl, _, rfl, r, _, rfl, .inl (SqL.of g2), _, _, rfl, rfl, _, _, rfl, rfl, _, rfl, ?_⟩
    rw [List.length_map]
    by_cases hlt : i + 1 < R.length
    · rw [decide_eq_true (show (i : Int) < (R.length : Int) - 1 by omega)]
      have hg : R[i]? = some (rowN R i) := by
        unfold rowN
        rw [List.getD_eq_getElem?_getD, List.getElem?_eq_getElem (by omega)]
        rfl
      have hb := aw _ (List.mem_of_getElem? hg)
      refine iteT ⟨_, rfl, _, rfl, r, _, _, V.str (rowN R i), rfl, rfl, SqL.of g2, atI_nat (by rw [List.getElem?_map, hg]; rfl), (by show 3 ≤ sizeLine; decide), fun q hq => ?_⟩
      have sq := same_new hq (.lst [V.str wW, V.str wD, V.str wH])
      refine ⟨_, rfl, _, _, rfl, q, _, _, V.str (nmAt i), rfl, rfl, SqL.of upd_same, nm_at i, rowN R i, nmAt i, rfl, by omega, hb.1, fun v H3 s3 hv => ?_⟩
      refine fin v H3 (sq.trans s3) ?_
      unfold oAt
      rw [if_pos hlt]
      exact hv
    · rw [decide_eq_false (show ¬ (i : Int) < (R.length : Int) - 1 by omega)]
      refine iteF (fin .non H2 (fun _ _ q => q) ?_)
      unfold oAt
      rw [if_neg hlt]
      rfl
  · rintro σ H2 ⟨okb, _, v5, v6, zs, rfl, s2, g2, p2, hP⟩
    refine ⟨_, rfl, _, rfl, _, rfl, (by show 3 ≤ sizeLine; decide), fun t ht => ?_⟩
    have st := same_new ht (.tup [iV (stC R (manyR R)), iV (stL R (manyR R)), .ref pl])
    exact kok okb (.ref t) _ (s2.trans st) ⟨t, pl, zs, rfl, upd_same, st _ _ p2, hP.mono st⟩
end

end K60


namespace K60
open PySem L2 PyProof.Rows
local macro_rules | `(tactic| walk_at "cc") => `(tactic| first | exact ⟨by decide, by decide⟩ | (show (0 : Int) < _; decide) | (show (0 : Int) < _; omega) | (show (0 : Int) ≤ _; omega) | exact ⟨by decide, by decide, by decide⟩ | exact ⟨by omega, by omega, by decide⟩ | exact Or.inl ⟨by decide, by decide⟩ | exact Or.inl ⟨by omega, by omega⟩)
local macro_rules | `(tactic| walk_at "rd") => `(tactic| repeat (first | refine ⟨_, rfl, ?_⟩ | refine ⟨_, _, rfl, rfl, ?_⟩ | refine ⟨rfl, ?_⟩ | (refine ⟨?cc, ?_⟩; (case cc => walk_at "cc"))))

def spPaper (K : PySem.W.Frag) : Sp := fun vs H Q _ => ∃ (a : Addr) (ns : List Int), vs = [.ref a] ∧ SqL K H a (ns.map V.int) ∧ ns.length ≤ 63 ∧
  ∀ (r : Addr) (ys : List V) (ps : List Pq) (H' : Hp), Same H H' → H' r = some (.lst ys) → PsA H' ys ps → Pok ps → ps.length ≤ 10 → Q (.ref r) H'
def papU (K : PySem.W.Frag) (ns : List Int) (a : Addr) : TS := fun D σ H => ∃ (l : Addr) (k : Nat) (ys : List V) (m : Nat) (_v3 : Option V), σ = [some (.ref a), some (.ref l), some (.int (k : Int)), some (.int (m : Int))] ∧ SqL K H a (ns.map V.int) ∧ k + 1 < ns.length ∧ H l = some (.lst ys) ∧ ys.length ≤ 100 ∧
  ∀ (t : Addr) (p : Nat) (v4 : Option V), H t = none → 1 ≤ p → p < 10 ^ 40 → D.nx [some (.ref a), some (.ref l), some (.int (k : Int)), v4] (upd (upd H t (.tup [iV m, iV p])) l (.lst (ys ++ [.ref t])))
def papT (K : PySem.W.Frag) (ns : List Int) (a : Addr) : TS := fun D σ H => ∃ (l : Addr) (k : Nat) (ys : List V) (mx : Int) (_v3 : Option V), σ = [some (.ref a), some (.ref l), some (.int (k : Int)), some (.int mx)] ∧ SqL K H a (ns.map V.int) ∧ k + 1 < ns.length ∧ H l = some (.lst ys) ∧ ys.length ≤ 100 ∧ 0 ≤ mx ∧ mx < 1 * 2 ^ (80 : Int).toNat ∧
  ∀ (t : Addr) (m p : Nat) (v4 : Option V), H t = none → 1 ≤ m → m < 2 ^ 80 → 1 ≤ p → p < 10 ^ 40 → D.nx [some (.ref a), some (.ref l), some (.int (k : Int)), v4] (upd (upd H t (.tup [iV m, iV p])) l (.lst (ys ++ [.ref t])))
section
variable {P : Program} {w : World} {K : PySem.W.Frag} {mg : Str → Option Value} {base : Heap}
theorem sc_law_paper : FnScope ["script", "paper", "k", "mask"] ["script"] (defScope s_law_paper) := ⟨rfl, rfl, rfl, by decide +kernel, rfl, by decide +kernel, by decide +kernel⟩
theorem ok_paper {f : Addr} {fd : FuncData} (F : Fun K "_law_paper" "_law_paper" s_law_paper f fd) (T : Txt mg) : FnOk P w K mg base CX0 1 f fd ["script"] (spPaper K) := by
  refine F.ok sc_law_paper (fun vs H Q E h => ?_) (fun cdv A outer s H vs Q E hr h => ?_)
  · obtain ⟨a, ns, rfl, _⟩ := h
    rfl
  obtain ⟨a, ns, rfl, hS, h63, kk⟩ := h
  have nl : (ns.map V.int).length = ns.length := List.length_map ..
  refine ⟨_, (pss_cons (ps_set (i := 1) sc_law_paper.nd rfl (Or.inl rfl) (pe_lst pa_nil))
      (pss_cons (ps_for PassesOwn.never rfl (pi_rangeL rfl T.n_range (pa_cons pe_int (pa_cons (pe_callB (call_min2 rfl) (by rfl) T.n_min bt_min (pa_cons (pe_op op_sub (pe_callB call_len_seq (by rfl) T.n_len bt_len (pa_cons (pv 0) pa_nil)) pe_int) (pa_cons pe_int pa_nil))) (pa_cons pe_int pa_nil)))) (pg_name (i := 2) sc_law_paper.nd rfl (Or.inl rfl)) (pss_cons (ps_set (i := 3) sc_law_paper.nd rfl (Or.inl rfl) (pe_op op_mod (pe_op op_mul (pe_op op_mod (pe_ix ix_list (pv 0) (pv 2) (fun _ _ => rfl)) (pe_op op_pow pe_int pe_int)) pe_int) (pe_op op_shl pe_int pe_int)))
      (pss_imp (t2 := (papT K ns a)) (pss_cons (ps_if (pt_cmpR op_eq (pv 3) pe_int (nomark _)) (pss_one (ps_set (i := 3) sc_law_paper.nd rfl (Or.inl rfl) (pe_op op_shl pe_int (pe_op op_mod (pe_ix ix_list (pv 0) (pe_op op_add (pv 2) pe_int) (fun _ _ => rfl)) pe_int)))) pss_nil)
      (pss_imp (t2 := (papU K ns a)) (pss_one (ps_expr (pe_bm PySem.F.plainAttrs_list PySem.F.slot_list_append PySem.F.type_list_append mt_append (pv 1) (pa_cons (pe_tup (pa_cons (pv 3) (pa_cons (pe_op op_add pe_int (pe_op op_mod (pe_op op_fdiv (pe_ix ix_list (pv 0) (pe_op op_add (pv 2) pe_int) (fun _ _ => rfl)) pe_int) (pe_op op_pow pe_int pe_int))) pa_nil))) pa_nil)))) (fun D0 S0 H0 h0 => ?pbp))) (fun D0 S0 H0 h0 => ?pap))))
      (pss_one (ps_ret (pv 1))))), ?_⟩
  case pap =>
    obtain ⟨l, k, ys, mx, v3, rfl, hS0, kx2, hl0, yl, m0, m1, kk0⟩ := h0
    have at1' : atI (ns.map V.int) ((k : Int) + 1) = some (.int ns[k + 1]) := by rw [show (k : Int) + 1 = ((k + 1 : Nat) : Int) from rfl]; exact atI_nat (is_at (by omega))
    have e80 : (1 : Int) * 2 ^ (80 : Int).toNat = ((2 ^ 80 : Nat) : Int) := by decide
    rw [e80] at m1
    refine ⟨_, rfl, rfl, _, rfl, ite2 (fun c => ?_) (fun c => ?_)⟩
    · refine ⟨_, rfl, _, rfl, _, _, rfl, rfl, a, _, _, _, rfl, rfl, hS0, at1', _, _, rfl, rfl, (by show (0 : Int) < 80; decide), ?_⟩
      have w0 := Int.emod_nonneg ns[k + 1] (show (80 : Int) ≠ 0 by decide)
      have w1 := Int.emod_lt_of_pos ns[k + 1] (show (0 : Int) < 80 by decide)
      obtain ⟨e, ee⟩ : ∃ e : Nat, ns[k + 1] % 80 = (e : Int) := ⟨(ns[k + 1] % 80).toNat, by omega⟩
      refine ⟨_, _, rfl, rfl, ⟨by show 0 ≤ ns[k + 1] % 80; omega, by show ns[k + 1] % 80 ≤ 1000000; omega, by decide⟩, ?_⟩
      have hv : V.int (1 * 2 ^ (ns[k + 1] % 80).toNat) = V.int ((2 ^ e : Nat) : Int) := by rw [ee, shlN]
      refine ⟨l, k, ys, 2 ^ e, v3, ?_, hS0, kx2, hl0, yl, fun t p v4 ht p1 p2 => kk0 t (2 ^ e) p v4 ht (Nat.two_pow_pos e) (Nat.pow_lt_pow_right (by decide) (by omega)) p1 p2⟩
      show [some (V.ref a), some (V.ref l), some (V.int (k : Int)), some (V.int (1 * 2 ^ (ns[k + 1] % 80).toNat))] = _
      rw [hv]
    · obtain ⟨m, em⟩ : ∃ m : Nat, mx = (m : Int) := ⟨mx.toNat, by omega⟩
      subst em
      have nz : ¬ (m : Int) = 0 := fun z => c (decide_eq_true (congrArg V.int z))
      exact ⟨l, k, ys, m, v3, rfl, hS0, kx2, hl0, yl, fun t p v4 ht p1 p2 => kk0 t m p v4 ht (by omega) (by omega) p1 p2⟩
  case pbp =>
    obtain ⟨l, k, ys, m, v3, rfl, hS0, kx2, hl0, yl, kk0⟩ := h0
    have at1' : atI (ns.map V.int) ((k : Int) + 1) = some (.int ns[k + 1]) := by rw [show (k : Int) + 1 = ((k + 1 : Nat) : Int) from rfl]; exact atI_nat (is_at (by omega))
    have e30 : (10 : Int) ^ (30 : Int).toNat = ((10 ^ 30 : Nat) : Int) := by decide
    have w0 := Int.emod_nonneg (ns[k + 1] / 80) (show (10 : Int) ^ (30 : Int).toNat ≠ 0 by decide)
    have w1 := Int.emod_lt_of_pos (ns[k + 1] / 80) (show (0 : Int) < (10 : Int) ^ (30 : Int).toNat by decide)
    generalize hR : ns[k + 1] / 80 % (10 : Int) ^ (30 : Int).toNat = R at w0 w1
    rw [e30] at w1
    obtain ⟨p, ep⟩ : ∃ p : Nat, 1 + R = (p : Int) := ⟨(1 + R).toNat, by omega⟩
    have p40' : p < 10 ^ 40 := by
      have : (10 : Nat) ^ 30 < 10 ^ 40 := by decide
      omega
    have hv : V.int (1 + ns[k + 1] / 80 % (10 : Int) ^ (30 : Int).toNat) = iV p := by rw [hR, ep]; rfl
    refine ⟨_, rfl, .inl ⟨rfl, _, SqL.of hl0⟩, _, rfl, _, rfl, _, rfl, _, _, rfl, rfl, a, _, _, _, rfl, rfl, hS0, at1', _, _, rfl, rfl, ⟨by decide, by decide⟩, _, _, rfl, rfl, ⟨by decide, by decide, by decide⟩, _, _, rfl, rfl, (by show (0 : Int) < 10 ^ (30 : Int).toNat; decide), _, _, rfl, rfl, (by show 2 ≤ sizeLine; decide), fun t ht => ?_⟩
    have s4 := same_new ht (.tup [iV m, V.int (1 + ns[k + 1] / 80 % (10 : Int) ^ (30 : Int).toNat)])
    refine ⟨l, ys, _, rfl, rfl, s4 _ _ hl0, small1000 (by omega), ?_⟩
    show D0.nx _ (upd (upd H0 t (.tup [iV m, V.int (1 + ns[k + 1] / 80 % (10 : Int) ^ (30 : Int).toNat)])) l (.lst (ys ++ [.ref t])))
    rw [hv]
    exact kk0 t p _ ht (by omega) p40'
  refine ⟨(by show 0 ≤ sizeLine; decide), fun l hl => ?_⟩
  have s1 := same_new hl (.lst [])
  refine ⟨_, rfl, a, _, rfl, .inl (s1.seq hS), _, _, rfl, rfl, _, _, rfl, ?_⟩
  obtain ⟨M, eM⟩ : ∃ M : Int, (if (24 : Int) < (((ns.map V.int).length : Nat) : Int) - 1 then (24 : Int) else (((ns.map V.int).length : Nat) : Int) - 1) = M := ⟨_, rfl⟩
  have hM : M ≤ 24 ∧ M ≤ (ns.length : Int) - 1 ∧ -2 ≤ M := by
    rw [nl] at eM
    split at eM <;> omega
  rw [eM]
  have cb : (Builtin.Range.rangeSize 4 M 2).toNat ≤ 10 := by
    by_cases z : (Builtin.Range.rangeSize 4 M 2).toNat ≤ 10
    · exact z
    · have := rsz (lo := 4) (m := M) (c := 2) (j := 10) (by decide) (by omega)
      omega
  refine ⟨4, M, 2, (Builtin.Range.rangeSize 4 M 2).toNat, rfl, by omega, by omega, by omega, by omega, ⟨by omega, by omega⟩, PyProof.Rows.rangeSize_toNat _ _ _, for_range3 (lo := 4) (c := 2) (n := (Builtin.Range.rangeSize 4 M 2).toNat) (fun i σ H3 => ∃ (v2 v4 : Option V) (ys : List V) (ps : List Pq), σ = [some (.ref a), some (.ref l), v2, v4] ∧ Same H H3 ∧ H3 l = some (.lst ys) ∧ PsA H3 ys ps ∧ ps.length = i ∧ (∀ p ∈ ps, 1 ≤ p.1 ∧ p.1 < 2 ^ 80) ∧ ∀ p ∈ ps, 1 ≤ p.2 ∧ p.2 < 10 ^ 40) ⟨_, _, [], [], rfl, s1, upd_same, .nil, rfl, (fun p hp => nomatch hp), fun p hp => nomatch hp⟩ ?_ ?_⟩
  · rintro i σ H3 hi ⟨v2, v4, ys, ps, rfl, s3, hl3, hY, hi3, ok1, ok2⟩
    have hb := rsz (lo := 4) (m := M) (c := 2) (j := i) (by decide) hi
    have ei : (4 : Int) + (i : Int) * 2 = ((4 + 2 * i : Nat) : Int) := by push_cast; omega
    rw [ei] at hb ⊢
    have kx : 4 + 2 * i < ns.length := by omega
    have hS3 := s3.seq hS
    have yl : ys.length = i := by rw [hY.1]; exact hi3
    refine ⟨_, rfl, _, rfl, a, _, _, _, rfl, rfl, hS3, atI_nat (is_at kx), ?_⟩
    walk_at "rd"
    refine ⟨.inr ⟨by decide, by decide⟩, ?_⟩
    have pos : (0 : Int) < 1 * 2 ^ (80 : Int).toNat := by decide
    have nz : ((1 : Int) * 2 ^ (80 : Int).toNat) ≠ 0 := by decide
    refine ⟨_, _, rfl, rfl, ⟨by decide, by decide, by decide⟩, _, _, rfl, rfl, pos, ?_⟩
    refine ⟨l, _, ys, _, none, rfl, hS3, by omega, hl3, by omega, Int.emod_nonneg _ nz, Int.emod_lt_of_pos _ pos, fun t m p v4 ht m1 m2 p1 p2 => ?_⟩
    have s4 := same_new ht (.tup [iV m, iV p])
    refine ⟨_, _, ys ++ [.ref t], ps ++ [(m, p)], rfl, same_upd (s3.trans s4) hl _, upd_same, ?_, by rw [List.length_append, hi3]; rfl, fun x hx => ?_, fun x hx => ?_⟩
    · exact PsA.put ((hY.mono s4).snoc (p := (m, p)) ⟨t, rfl, upd_same⟩) (s4 _ _ hl3)
    · rcases List.mem_append.mp hx with hx | hx
      · exact ok1 x hx
      · rw [List.mem_singleton.mp hx]; exact ⟨m1, m2⟩
    · rcases List.mem_append.mp hx with hx | hx
      · exact ok2 x hx
      · rw [List.mem_singleton.mp hx]; exact ⟨p1, p2⟩
  · rintro σ H3 ⟨v2, v4, ys, ps, rfl, s3, hl3, hY, hi3, ok1, ok2⟩
    exact ⟨_, rfl, kk l ys ps H3 s3 hl3 hY ⟨by omega, ok1, ok2⟩ (by omega)⟩
end

end K60


namespace K60
open PySem L2 PyProof.Rows
local macro_rules | `(tactic| walk_at "cc") => `(tactic| first | exact ⟨by decide, by decide⟩ | (show (0 : Int) < _; decide) | (show (0 : Int) < _; omega) | (show (0 : Int) ≤ _; omega) | exact ⟨by decide, by decide, by decide⟩ | exact ⟨by omega, by omega, by decide⟩ | exact Or.inl ⟨by decide, by decide⟩ | exact Or.inl ⟨by omega, by omega⟩)
local macro_rules | `(tactic| walk_at "rd") => `(tactic| repeat (first | refine ⟨_, rfl, ?_⟩ | refine ⟨_, _, rfl, rfl, ?_⟩ | refine ⟨rfl, ?_⟩ | (refine ⟨?cc, ?_⟩; (case cc => walk_at "cc"))))

/-! texts spoiled: they stay of the signs below 128, and short -/
theorem asc_iff {z : Str} : Asc z ↔ ∀ c ∈ z.cps.toList, c < 128 := by
  unfold Asc
  rw [← Array.all_toList, List.all_eq_true]
  exact ⟨fun h c hc => of_decide_eq_true (h c hc), fun h c hc => decide_eq_true (h c hc)⟩
theorem asc_app {a b : Str} (h1 : Asc a) (h2 : Asc b) : Asc (a ++ b) := asc_iff.mpr fun c hc => by
  rw [str_app] at hc
  rcases List.mem_append.mp hc with hc | hc
  · exact asc_iff.mp h1 c hc
  · exact asc_iff.mp h2 c hc
theorem sl_ok {z : Str} (lo hi : Option Int) (h : Asc z) : Asc (PySem.Txt.slice z lo hi) ∧ (PySem.Txt.slice z lo hi).length ≤ z.length := by
  refine ⟨?_, PySem.Txt.slice_le z lo hi⟩
  unfold PySem.Txt.slice
  split
  · exact h
  · refine asc_iff.mpr fun c hc => ?_
    obtain ⟨i, _, hi⟩ := List.mem_filterMap.mp (by simpa using hc)
    refine asc_iff.mp h c ?_
    have : z.cps.toList[i]? = some c := by rw [Array.getElem?_toList]; exact hi
    exact List.mem_of_getElem? this
def menuS : Str := (("0123456789 -_wdhopl+\n" : String) : Str)
theorem menu_len : menuS.length = 21 := by decide +kernel
theorem menu_asc : ∀ c ∈ menuS.cps.toList, c < 128 := by decide +kernel
def spSign : Sp := fun vs H Q _ => ∃ (text : Str) (way at' cell : Int), vs = [.str text, .int way, .int at', .int cell] ∧ text.length ≤ 130000 ∧ text.length ≠ 0 ∧ Asc text ∧ ∀ z : Str, z.length ≤ 300000 → Asc z → Q (.str z) H
section
variable {P : Program} {w : World} {K : PySem.W.Frag} {mg : Str → Option Value} {base : Heap}
theorem sc_law_sign_spoiled : FnScope ["text", "way", "at", "cell", "menu", "sign", "place"] ["text", "way", "at", "cell"] (defScope s_law_sign_spoiled) := ⟨rfl, rfl, rfl, by decide +kernel, rfl, by decide +kernel, by decide +kernel⟩
theorem ok_sign {f : Addr} {fd : FuncData} (F : Fun K "_law_sign_spoiled" "_law_sign_spoiled" s_law_sign_spoiled f fd) (T : Txt mg) : FnOk P w K mg base CX0 1 f fd ["text", "way", "at", "cell"] spSign := by
  refine F.ok sc_law_sign_spoiled (fun vs H Q E h => ?_) (fun cdv A outer s H vs Q E hr h => ?_)
  · obtain ⟨text, way, at', cell, rfl, _⟩ := h
    rfl
  obtain ⟨text, way, at', cell, rfl, hl, h0, ha, kk⟩ := h
  refine ⟨_, (pss_cons (ps_set (i := 4) sc_law_sign_spoiled.nd rfl (Or.inl rfl) pe_str)
      (pss_cons (ps_set (i := 5) sc_law_sign_spoiled.nd rfl (Or.inl rfl) (pe_ix ix_str (pv 4) (pe_op op_mod (pv 3) (pe_callB call_len_str (by rfl) T.n_len bt_len (pa_cons (pv 4) pa_nil))) (fun _ _ => rfl)))
      (pss_cons (ps_set (i := 6) sc_law_sign_spoiled.nd rfl (Or.inl rfl) (pe_op op_mod (pv 2) (pe_callB call_len_str (by rfl) T.n_len bt_len (pa_cons (pv 0) pa_nil))))
      (pss_cons (ps_if (pt_cmpR op_eq (pv 1) pe_int (nomark _)) (pss_one (ps_ret (pe_op op_add_str (pe_slice sl_str (pv 0) po_none (po_some (pv 6))) (pe_slice sl_str (pv 0) (po_some (pe_op op_add (pv 6) pe_int)) po_none)))) pss_nil)
      (pss_cons (ps_if (pt_cmpR op_eq (pv 1) pe_int (nomark _)) (pss_one (ps_ret (pe_op op_add_str (pe_op op_add_str (pe_slice sl_str (pv 0) po_none (po_some (pv 6))) (pv 5)) (pe_slice sl_str (pv 0) (po_some (pv 6)) po_none)))) pss_nil)
      (pss_cons (ps_if (pt_cmpR op_eq (pv 1) pe_int (nomark _)) (pss_one (ps_ret (pe_op op_add_str (pe_op op_add_str (pe_slice sl_str (pv 0) po_none (po_some (pv 6))) (pv 5)) (pe_slice sl_str (pv 0) (po_some (pe_op op_add (pv 6) pe_int)) po_none)))) pss_nil)
      (pss_one (ps_ret (pe_slice sl_str (pv 0) po_none (po_some (pv 6))))))))))), ?_⟩
  have s64 : (400000 : Nat) ≤ sizeLine := by decide
  have ml := menu_len
  have c0 := Int.emod_nonneg cell (show (21 : Int) ≠ 0 by decide)
  have c1 := Int.emod_lt_of_pos cell (show (0 : Int) < 21 by decide)
  obtain ⟨j, ej⟩ : ∃ j : Nat, cell % 21 = (j : Int) := ⟨(cell % 21).toNat, by omega⟩
  have jl : j < menuS.cps.toList.length := by rw [← str_len, ml]; omega
  have hj : menuS.cps.toList[j]? = some menuS.cps.toList[j] := List.getElem?_eq_getElem jl
  have hc := menu_asc _ (List.mem_of_getElem? hj)
  generalize menuS.cps.toList[j] = d at hj hc
  have sa : Asc ⟨#[d]⟩ := asc_iff.mpr fun c hc' => by
    have : c = d := by simpa using hc'
    omega
  have hat : atI menuS.cps.toList (cell % ((menuS.length : Nat) : Int)) = some d := by
    rw [ml]
    show atI menuS.cps.toList (cell % 21) = some d
    rw [ej]
    exact atI_nat hj
  refine ⟨_, rfl, _, rfl, _, rfl, menuS, rfl, by omega, _, _, rfl, rfl, (by show (0 : Int) < ((menuS.length : Nat) : Int); rw [ml]; decide), menuS, _, d, rfl, rfl, by omega, hat, ?_⟩
  refine ⟨_, rfl, _, rfl, text, rfl, by omega, _, _, rfl, rfl, (by show (0 : Int) < ((text.length : Nat) : Int); omega), ?_⟩
  have l1 : (⟨#[d]⟩ : Str).length = 1 := rfl
  refine ⟨_, rfl, rfl, _, rfl, ite2 (fun _ => ?_) (fun _ => ?_)⟩
  · refine ⟨_, rfl, _, rfl, _, rfl, text, rfl, by omega, _, rfl, _, rfl, _, _, rfl, rfl, _, rfl, text, rfl, by omega, _, _, rfl, rfl, ?_, ?_⟩
    · have := (sl_ok none (some (at' % ((text.length : Nat) : Int))) ha).2
      have := (sl_ok (some (at' % ((text.length : Nat) : Int) + 1)) none ha).2
      omega
    · refine kk _ ?_ (asc_app (sl_ok _ _ ha).1 (sl_ok _ _ ha).1)
      have := (sl_ok none (some (at' % ((text.length : Nat) : Int))) ha).2
      have := (sl_ok (some (at' % ((text.length : Nat) : Int) + 1)) none ha).2
      rw [Str.length_append]
      omega
  refine ⟨_, rfl, rfl, _, rfl, ite2 (fun _ => ?_) (fun _ => ?_)⟩
  · have q1 := (sl_ok none (some (at' % ((text.length : Nat) : Int))) ha).2
    have q2 := (sl_ok (some (at' % ((text.length : Nat) : Int))) none ha).2
    refine ⟨_, rfl, _, rfl, _, rfl, text, rfl, by omega, _, rfl, _, _, rfl, rfl, by rw [l1]; omega, _, rfl, _, rfl, _, rfl, text, rfl, by omega, _, _, rfl, rfl, by rw [Str.length_append, l1]; omega, ?_⟩
    refine kk _ ?_ (asc_app (asc_app (sl_ok _ _ ha).1 sa) (sl_ok _ _ ha).1)
    rw [Str.length_append, Str.length_append, l1]
    omega
  refine ⟨_, rfl, rfl, _, rfl, ite2 (fun _ => ?_) (fun _ => ?_)⟩
  · have q1 := (sl_ok none (some (at' % ((text.length : Nat) : Int))) ha).2
    have q2 := (sl_ok (some (at' % ((text.length : Nat) : Int) + 1)) none ha).2
    refine ⟨_, rfl, _, rfl, _, rfl, text, rfl, by omega, _, rfl, _, _, rfl, rfl, by rw [l1]; omega, _, rfl, _, rfl, _, _, rfl, rfl, _, rfl, text, rfl, by omega, _, _, rfl, rfl, by rw [Str.length_append, l1]; omega, ?_⟩
    refine kk _ ?_ (asc_app (asc_app (sl_ok _ _ ha).1 sa) (sl_ok _ _ ha).1)
    rw [Str.length_append, Str.length_append, l1]
    omega
  · have q1 := (sl_ok none (some (at' % ((text.length : Nat) : Int))) ha).2
    exact ⟨_, rfl, _, rfl, _, rfl, text, rfl, by omega, kk _ (by omega) (sl_ok _ _ ha).1⟩
end

end K60


namespace K60
open PySem L2 PyProof.Rows
local macro_rules | `(tactic| walk_at "cc") => `(tactic| first | exact ⟨by decide, by decide⟩ | (show (0 : Int) < _; decide) | (show (0 : Int) < _; omega) | (show (0 : Int) ≤ _; omega) | exact ⟨by decide, by decide, by decide⟩ | exact ⟨by omega, by omega, by decide⟩ | exact Or.inl ⟨by decide, by decide⟩ | exact Or.inl ⟨by omega, by omega⟩)
local macro_rules | `(tactic| walk_at "rd") => `(tactic| repeat (first | refine ⟨_, rfl, ?_⟩ | refine ⟨_, _, rfl, rfl, ?_⟩ | refine ⟨rfl, ?_⟩ | (refine ⟨?cc, ?_⟩; (case cc => walk_at "cc"))))

def sumL (ws : List Str) : Nat := (ws.map (·.length)).sum
theorem sumL_app (a b : List Str) : sumL (a ++ b) = sumL a + sumL b := by unfold sumL; rw [List.map_append, List.sum_append]
theorem sumL_mem {ws : List Str} {w : Str} (h : w ∈ ws) : w.length ≤ sumL ws := by
  obtain ⟨a, b, rfl⟩ := List.append_of_mem h
  rw [sumL_app]
  unfold sumL
  rw [List.map_cons, List.sum_cons]
  omega
theorem jl_eq (c : Nat) : ∀ {ws : List Str}, ws ≠ [] → (Str.join ⟨#[c]⟩ ws).length + 1 = sumL ws + ws.length
  | [], h => absurd rfl h
  | [a], _ => by show a.length + 1 = a.length + 0 + 1; omega
  | a :: b :: r, _ => by
    have := jl_eq c (List.cons_ne_nil b r)
    show (a ++ ⟨#[c]⟩ ++ Str.join ⟨#[c]⟩ (b :: r)).length + 1 = (a.length + sumL (b :: r)) + (r.length + 1 + 1)
    rw [Str.length_append, Str.length_append]
    show a.length + 1 + _ + 1 = _
    rw [List.length_cons] at this
    omega
theorem asc_join {c : Nat} {ws : List Str} (hc : c < 128) (h : ∀ w ∈ ws, Asc w) : Asc (Str.join ⟨#[c]⟩ ws) := asc_iff.mpr fun d hd => by
  rcases join_of hd with rfl | ⟨w, hw, hd⟩
  · exact hc
  · exact asc_iff.mp (h w hw) d hd
def spRowSp : Sp := fun vs H Q _ => ∃ (text : Str) (way at' : Int), vs = [.str text, .int way, .int at'] ∧ text.length ≤ 130000 ∧ 2 ≤ (PySem.Txt.split text nlS).length ∧ Asc text ∧ ∀ (z : Str) (H' : Hp), Same H H' → z.length ≤ 300000 → Asc z → Q (.str z) H'
section
variable {P : Program} {w : World} {K : PySem.W.Frag} {mg : Str → Option Value} {base : Heap}
theorem sc_law_row_spoiled : FnScope ["text", "way", "at", "rows", "place"] ["text", "way", "at"] (defScope s_law_row_spoiled) := ⟨rfl, rfl, rfl, by decide +kernel, rfl, by decide +kernel, by decide +kernel⟩
theorem ok_rowsp {f : Addr} {fd : FuncData} (F : Fun K "_law_row_spoiled" "_law_row_spoiled" s_law_row_spoiled f fd) (T : Txt mg) : FnOk P w K mg base CX0 1 f fd ["text", "way", "at"] spRowSp := by
  refine F.ok sc_law_row_spoiled (fun vs H Q E h => ?_) (fun cdv A outer s H vs Q E hr h => ?_)
  · obtain ⟨text, way, at', rfl, _⟩ := h
    rfl
  obtain ⟨text, way, at', rfl, hl, h2, ha, kk⟩ := h
  refine ⟨_, (pss_cons (ps_set (i := 3) sc_law_row_spoiled.nd rfl (Or.inl rfl) (pe_bm PySem.F.plainAttrs_str PySem.F.slot_str_split PySem.F.type_str_split mt_split (pv 0) (pa_cons pe_str pa_nil)))
      (pss_cons (ps_set (i := 4) sc_law_row_spoiled.nd rfl (Or.inl rfl) (pe_op op_mod (pv 2) (pe_op op_sub (pe_callB call_len_seq (by rfl) T.n_len bt_len (pa_cons (pv 3) pa_nil)) pe_int)))
      (pss_cons (ps_if (pt_cmpR op_eq (pv 1) pe_int (nomark _)) (pss_one (ps_expr (pe_bm PySem.F.plainAttrs_list PySem.F.slot_list_pop PySem.F.type_list_pop mt_popAt (pv 3) (pa_cons (pv 4) pa_nil)))) pss_nil)
      (pss_cons (ps_if (pt_cmpR op_eq (pv 1) pe_int (nomark _)) (pss_one (ps_expr (pe_bm PySem.F.plainAttrs_list PySem.F.slot_list_insert PySem.F.type_list_insert mt_insert (pv 3) (pa_cons (pv 4) (pa_cons (pe_ix ix_list (pv 3) (pv 4) (fun _ _ => rfl)) pa_nil))))) pss_nil)
      (pss_cons (ps_if (pt_cmpR op_eq (pv 1) pe_int (nomark _)) (pss_one (ps_expr (pe_bm PySem.F.plainAttrs_list PySem.F.slot_list_insert PySem.F.type_list_insert mt_insert (pv 3) (pa_cons (pe_op op_add (pv 4) pe_int) (pa_cons (pe_bm PySem.F.plainAttrs_list PySem.F.slot_list_pop PySem.F.type_list_pop mt_popAt (pv 3) (pa_cons (pv 4) pa_nil)) pa_nil))))) pss_nil)
      (pss_one (ps_ret (pe_bm PySem.F.plainAttrs_str PySem.F.slot_str_join PySem.F.type_str_join mt_join pe_str (pa_cons (pv 3) pa_nil))))))))), ?_⟩
  rw [nl_eq]
  have s64 : (400000 : Nat) ≤ sizeLine := by decide
  obtain ⟨R, hR⟩ : ∃ R, PySem.Txt.split text nlS = R := ⟨_, rfl⟩
  rw [hR] at h2
  have ne : R ≠ [] := fun z => by rw [z] at h2; exact absurd h2 (by decide)
  have ej : Str.join nlS R = text := by rw [← hR]; exact StrLaws.join_split text nlS
  have jl := jl_eq 10 ne
  rw [show (⟨#[10]⟩ : Str) = nlS from rfl, ej] at jl
  have aw : ∀ b ∈ R, Asc b := fun b hb => (split_asc (c := 10) ha (by rw [show (⟨#[10]⟩ : Str) = nlS from rfl, hR]; exact hb)).1
  refine ⟨_, rfl, rfl, text, nlS, rfl, rfl, rfl, by omega, fun r hr' => ?_⟩
  rw [hR]
  have sr := same_new hr' (.lst (R.map V.str))
  refine ⟨_, rfl, _, rfl, r, _, rfl, .inl (SqL.of upd_same), _, _, rfl, rfl, _, _, rfl, rfl, (by show (0 : Int) < (((R.map V.str).length : Nat) : Int) - 1; rw [List.length_map]; omega), ?_⟩
  have lm : (R.map V.str).length = R.length := List.length_map _
  have p0 := Int.emod_nonneg at' (show (((R.map V.str).length : Nat) : Int) - 1 ≠ 0 by rw [lm]; omega)
  have p1 := Int.emod_lt_of_pos at' (show (0 : Int) < (((R.map V.str).length : Nat) : Int) - 1 by rw [lm]; omega)
  obtain ⟨p, ep⟩ : ∃ p : Nat, at' % ((((R.map V.str).length : Nat) : Int) - 1) = (p : Int) := ⟨(at' % ((((R.map V.str).length : Nat) : Int) - 1)).toNat, by omega⟩
  simp only [ep]
  rw [ep, lm] at p1
  have pl : p + 1 < R.length := by omega
  have plt : p < R.length := by omega
  obtain ⟨x, hx⟩ : ∃ x, R[p]? = some x := ⟨R[p], List.getElem?_eq_getElem plt⟩
  have eR : R = R.take p ++ x :: R.drop (p + 1) := by
    rw [List.getElem?_eq_getElem plt] at hx
    cases hx
    rw [← List.drop_eq_getElem_cons plt, List.take_append_drop]
  have xm := List.mem_of_getElem? hx
  have xl := sumL_mem xm
  have sR : sumL R = sumL (R.take p) + (x.length + sumL (R.drop (p + 1))) := by
    conv => lhs; rw [eR]
    rw [sumL_app]
    rfl
  have hxV : (R.map V.str)[p]? = some (V.str x) := by rw [List.getElem?_map, hx]; rfl
  have six : seqIndex? (p : Int) (R.map V.str).length = some p := by
    rw [lm]
    unfold seqIndex?
    simp
    omega
  have er : (R.map V.str).eraseIdx p = (R.take p ++ R.drop (p + 1)).map V.str := by rw [List.eraseIdx_eq_take_drop_succ, List.map_append, List.map_take, List.map_drop]
  have gr : (upd H r (.lst (R.map V.str))) r = some (.lst (R.map V.str)) := upd_same
  generalize upd H r (.lst (R.map V.str)) = H1 at sr gr
  have fin : ∀ (W : List Str) (H' : Hp), Same H H' → H' r = some (.lst (W.map V.str)) → (∀ z ∈ W, z ∈ R) → W ≠ [] → sumL W + W.length ≤ 290000 → rJoin K (.str nlS) [.ref r] H' Q := fun W H' s' g' hm hne hb => by
    have jw := jl_eq 10 hne
    refine ⟨nlS, r, W, rfl, rfl, SqL.of g', ?_, kk _ H' s' ?_ (asc_join (c := 10) (by decide) fun z hz => aw z (hm z hz))⟩
    · show sumL W + W.length * 1 ≤ 1000000
      omega
    · show (Str.join ⟨#[10]⟩ W).length ≤ 300000
      omega
  have no5 : way ≠ 5 → ¬ (decide (V.int way = V.int 5) = true) := fun z c => z (V.int.inj (of_decide_eq_true c))
  have no6 : way ≠ 6 → ¬ (decide (V.int way = V.int 6) = true) := fun z c => z (V.int.inj (of_decide_eq_true c))
  have no7 : way ≠ 7 → ¬ (decide (V.int way = V.int 7) = true) := fun z c => z (V.int.inj (of_decide_eq_true c))
  have tl : (R.take p).length = p := by rw [List.length_take]; omega
  have dl : (R.drop (p + 1)).length = R.length - (p + 1) := List.length_drop
  have mt : ∀ z ∈ R.take p, z ∈ R := fun z hz => List.mem_of_mem_take hz
  have md : ∀ z ∈ R.drop (p + 1), z ∈ R := fun z hz => List.mem_of_mem_drop hz
  refine ⟨_, rfl, rfl, _, rfl, ite2 (fun c5 => ?_) (fun c5 => ?_)⟩
  · have w5 : way = 5 := V.int.inj (of_decide_eq_true c5)
    refine ⟨_, rfl, .inl ⟨rfl, _, SqL.of gr⟩, _, rfl, r, _, _, p, _, rfl, rfl, gr, by omega, by omega, six, hxV, ?_⟩
    rw [er]
    refine ⟨_, rfl, rfl, _, rfl, ite2 (fun c => absurd c (no6 (by omega))) (fun _ => ?_)⟩
    refine ⟨_, rfl, rfl, _, rfl, ite2 (fun c => absurd c (no7 (by omega))) (fun _ => ?_)⟩
    refine ⟨rfl, _, rfl, fin (R.take p ++ R.drop (p + 1)) _ (same_upd sr hr' _) upd_same (fun z hz => (List.mem_append.mp hz).elim (mt z) (md z)) (fun z => ?_) ?_⟩
    · have := congrArg List.length z
      rw [List.length_append, tl, dl] at this
      simp at this
      omega
    · rw [sumL_app, List.length_append, tl, dl]
      omega
  refine ⟨_, rfl, rfl, _, rfl, ite2 (fun c6 => ?_) (fun c6 => ?_)⟩
  · have w6 : way = 6 := V.int.inj (of_decide_eq_true c6)
    refine ⟨_, rfl, .inl ⟨rfl, _, SqL.of gr⟩, _, rfl, _, rfl, _, rfl, r, _, _, _, rfl, rfl, SqL.of gr, atI_nat hxV, r, _, _, _, rfl, rfl, gr, by omega, by rw [lm]; omega, by rw [lm]; omega, ?_⟩
    rw [Int.toNat_natCast]
    have ei : (R.map V.str).take p ++ V.str x :: (R.map V.str).drop p = (R.take p ++ x :: R.drop p).map V.str := by rw [List.map_append, List.map_cons, List.map_take, List.map_drop]
    rw [ei]
    refine ⟨_, rfl, rfl, _, rfl, ite2 (fun c => absurd c (no7 (by omega))) (fun _ => ?_)⟩
    have ed : R.drop p = x :: R.drop (p + 1) := by
      rw [List.getElem?_eq_getElem plt] at hx
      cases hx
      exact List.drop_eq_getElem_cons plt
    refine ⟨rfl, _, rfl, fin (R.take p ++ x :: R.drop p) _ (same_upd sr hr' _) upd_same (fun z hz => ?_) (by simp) ?_⟩
    · rcases List.mem_append.mp hz with hz | hz
      · exact mt z hz
      · rcases List.mem_cons.mp hz with rfl | hz
        · exact xm
        · exact List.mem_of_mem_drop hz
    · rw [ed, sumL_app, List.length_append, tl, List.length_cons, List.length_cons, dl]
      show sumL (R.take p) + (x.length + (x.length + sumL (R.drop (p + 1)))) + _ ≤ _
      omega
  refine ⟨_, rfl, rfl, _, rfl, ite2 (fun c7 => ?_) (fun c7 => ?_)⟩
  · refine ⟨_, rfl, .inl ⟨rfl, _, SqL.of gr⟩, _, rfl, _, _, rfl, rfl, _, rfl, .inl ⟨rfl, _, SqL.of gr⟩, _, rfl, r, _, _, p, _, rfl, rfl, gr, by omega, by omega, six, hxV, ?_⟩
    rw [er]
    have wl : ((R.take p ++ R.drop (p + 1)).map V.str).length = R.length - 1 := by rw [List.length_map, List.length_append, tl, dl]; omega
    refine ⟨r, _, _, _, rfl, rfl, upd_same, by omega, by rw [wl]; omega, by rw [wl]; omega, ?_⟩
    rw [show ((p : Int) + 1).toNat = p + 1 from rfl]
    have ei : ((R.take p ++ R.drop (p + 1)).map V.str).take (p + 1) ++ V.str x :: ((R.take p ++ R.drop (p + 1)).map V.str).drop (p + 1) = ((R.take p ++ R.drop (p + 1)).take (p + 1) ++ x :: (R.take p ++ R.drop (p + 1)).drop (p + 1)).map V.str := by
      generalize R.take p ++ R.drop (p + 1) = W
      rw [List.map_append, List.map_cons, List.map_take, List.map_drop]
    rw [ei]
    have mW : ∀ z ∈ R.take p ++ R.drop (p + 1), z ∈ R := fun z hz => (List.mem_append.mp hz).elim (mt z) (md z)
    have sW : sumL ((R.take p ++ R.drop (p + 1)).take (p + 1)) + sumL ((R.take p ++ R.drop (p + 1)).drop (p + 1)) = sumL (R.take p ++ R.drop (p + 1)) := by rw [← sumL_app, List.take_append_drop]
    refine ⟨rfl, _, rfl, fin ((R.take p ++ R.drop (p + 1)).take (p + 1) ++ x :: (R.take p ++ R.drop (p + 1)).drop (p + 1)) _ (same_upd (same_upd sr hr' _) hr' _) upd_same (fun z hz => ?_) (by simp) ?_⟩
    · rcases List.mem_append.mp hz with hz | hz
      · exact mW z (List.mem_of_mem_take hz)
      · rcases List.mem_cons.mp hz with rfl | hz
        · exact xm
        · exact mW z (List.mem_of_mem_drop hz)
    · rw [sumL_app] at sW
      have l1 : ((R.take p ++ R.drop (p + 1)).take (p + 1)).length ≤ R.length := by rw [List.length_take, List.length_append, tl, dl]; omega
      have l2 : ((R.take p ++ R.drop (p + 1)).drop (p + 1)).length ≤ R.length := by rw [List.length_drop, List.length_append, tl, dl]; omega
      rw [sumL_app, List.length_append, List.length_cons]
      show sumL ((R.take p ++ R.drop (p + 1)).take (p + 1)) + (x.length + sumL ((R.take p ++ R.drop (p + 1)).drop (p + 1))) + _ ≤ _
      omega
  · exact ⟨rfl, _, rfl, fin R _ sr gr (fun z hz => hz) ne (by omega)⟩
end

end K60


namespace K60
open PySem L2 PyProof.Rows
local macro_rules | `(tactic| walk_at "cc") => `(tactic| first | exact ⟨by decide, by decide⟩ | (show (0 : Int) < _; decide) | (show (0 : Int) < _; omega) | (show (0 : Int) ≤ _; omega) | exact ⟨by decide, by decide, by decide⟩ | exact ⟨by omega, by omega, by decide⟩ | exact Or.inl ⟨by decide, by decide⟩ | exact Or.inl ⟨by omega, by omega⟩)
local macro_rules | `(tactic| walk_at "rd") => `(tactic| repeat (first | refine ⟨_, rfl, ?_⟩ | refine ⟨_, _, rfl, rfl, ?_⟩ | refine ⟨rfl, ?_⟩ | (refine ⟨?cc, ?_⟩; (case cc => walk_at "cc"))))

def spEI (K : PySem.W.Frag) (fI : Addr) : Sp := fun vs H Q _ => ∃ (x C : Addr) (v : V), vs = [.ref x, v] ∧ H x = some (excN x C none) ∧ ErS K C fI "at" ∧ ∀ d, H d = none → d ≠ x → Q .non (upd (upd H x (excN x C (some d))) d (.xd [("at", v)]))
structure OwnI (P : Program) (w : World) (K : PySem.W.Frag) (mg : Str → Option Value) (base : Heap) (n : Str) (C fI : Addr) (fd : FuncData) : Prop where
  er : ErS K C fI "at"
  fn : PySem.W.isFn K (.ref fI) = true
  ok : FnOk P w K mg base CX0 1 fI fd ["self", "at"] (spEI K fI)
  bn : Binds K fd ["self", "at"] []
  mg : mg n = some (.ref C)
theorem own_at {K : PySem.W.Frag} {C fI : Addr} (er : ErS K C fI "at") {n : Int} {H : Hp} {W : Option Addr → Hp → Prop} (hW : ∀ d H', Same H H' → H' d = some (.xd [("at", .int n)]) → W (some d) H') (x : Addr) (hx : H x = none) : spEI K fI [.ref x, .int n] (upd H x (excN x C none)) (fun v H2 => v = .non ∧ ∃ d, H2 x = some (excN x C d) ∧ W d (del H2 x)) E0 := by
  refine ⟨x, C, .int n, rfl, upd_same, er, fun d hd ne => ⟨rfl, some d, ?_, hW d _ (fun b u q => ?_) ?_⟩⟩
  · rw [upd_ne (Ne.symm ne), upd_same]
  · have bx : b ≠ x := ne_of_none q hx
    have bd : b ≠ d := fun z => by
      rw [upd_ne ne] at hd
      rw [z, hd] at q
      cases q
    rw [del_ne bx, upd_ne bd, upd_ne bx, upd_ne bx]
    exact q
  · rw [del_ne ne, upd_same]
/-- a refusal of row n -/
def Bad (BT : Addr) (E : Value → Option Addr → Hp → Prop) (H : Hp) (n : Int) : Prop := ∀ d H', Same H H' → H' d = some (.xd [("at", .int n)]) → E (.ref BT) (some d) H'
def spRightX (BT : Addr) : Sp := fun vs H Q E => ∃ (v : V) (i : Int), vs = [v, .int i] ∧ (v ≠ .non → Q v H) ∧ (v = .non → Bad BT E H i)
def spRowAtX (K : PySem.W.Frag) (BT : Addr) : Sp := fun vs H Q E => ∃ (a : Addr) (xs : List V) (i : Nat), vs = [.ref a, .int (i : Int)] ∧ SqL K H a xs ∧ (∀ x, xs[i]? = some x → Q x H) ∧ (xs.length ≤ i → Bad BT E H ((xs.length : Int) + 1))
section
variable {P : Program} {w : World} {K : PySem.W.Frag} {mg : Str → Option Value} {base : Heap}
theorem sc_BadText___init : FnScope ["self", "at"] ["self", "at"] (defScope s_BadText___init) := ⟨rfl, rfl, rfl, by decide +kernel, rfl, by decide +kernel, by decide +kernel⟩
theorem ok_bti {f : Addr} {fd : FuncData} (F : Fun K "__init__" "BadText.__init__" s_BadText___init f fd) : FnOk P w K mg base CX0 1 f fd ["self", "at"] (spEI K f) := by
  refine F.ok sc_BadText___init (fun vs H Q E h => ?_) (fun cdv A outer s H vs Q E hr h => ?_)
  · obtain ⟨x, C, v, rfl, _⟩ := h
    rfl
  obtain ⟨x, C, v, rfl, hx, es, kk⟩ := h
  refine ⟨_, (pss_one (ps_fldE (fI := f) rfl (pv 0) (pv 1) rfl)), ?_⟩
  exact ⟨_, rfl, _, rfl, x, C, rfl, hx, es, kk⟩
theorem sc_right : FnScope ["told", "at"] ["told", "at"] (defScope s_right) := ⟨rfl, rfl, rfl, by decide +kernel, rfl, by decide +kernel, by decide +kernel⟩
theorem ok_rightX {f g2 BT : Addr} {fd e2 : FuncData} (F : Fun K "right" "right" s_right f fd) (S_BadText : OwnI P w K mg base "BadText" BT g2 e2) : FnOk P w K mg base (CXd P w) 3 f fd ["told", "at"] (spRightX BT) := by
  refine F.okD sc_right (fun vs H Q E h => ?_) (fun cdv A outer s H vs Q E hr h => ?_)
  · obtain ⟨v, i, rfl, _⟩ := h
    rfl
  obtain ⟨v, i, rfl, k1, k2⟩ := h
  refine ⟨_, (pss_cons (ps_if (pt_cmpR op_isN (pv 0) pe_non (nomark _)) (pss_one (ps_raiseI S_BadText.er S_BadText.fn S_BadText.ok S_BadText.bn (hr.mono (by decide)) S_BadText.mg rfl wshD_cx rfl rfl (pa_cons (pv 1) pa_nil))) pss_nil)
      (pss_one (ps_ret (pv 0)))), ?_⟩
  refine ⟨_, rfl, rfl, _, rfl, ite2 (fun c => ?_) (fun c => ⟨_, rfl, k1 fun z => c (decide_eq_true z)⟩)⟩
  exact ⟨_, rfl, (by decide : (1 : Nat) ≤ sizeLine), fun x hx => own_at S_BadText.er (W := fun d H' => E (.ref BT) d H') (fun d H' s' hd => k2 (of_decide_eq_true c) d H' s' hd) x hx⟩
theorem sc_row_at : FnScope ["rows", "number"] ["rows", "number"] (defScope s_row_at) := ⟨rfl, rfl, rfl, by decide +kernel, rfl, by decide +kernel, by decide +kernel⟩
theorem ok_rowatX {f g2 BT : Addr} {fd e2 : FuncData} (F : Fun K "row_at" "row_at" s_row_at f fd) (T : Txt mg) (S_BadText : OwnI P w K mg base "BadText" BT g2 e2) : FnOk P w K mg base (CXd P w) 3 f fd ["rows", "number"] (spRowAtX K BT) := by
  refine F.okD sc_row_at (fun vs H Q E h => ?_) (fun cdv A outer s H vs Q E hr h => ?_)
  · obtain ⟨a, xs, i, rfl, _⟩ := h
    rfl
  obtain ⟨a, xs, i, rfl, hS, k1, k2⟩ := h
  refine ⟨_, (pss_cons (ps_if (pt_cmpR op_ge (pv 1) (pe_callB call_len_seq (by rfl) T.n_len bt_len (pa_cons (pv 0) pa_nil)) (nomark _)) (pss_one (ps_raiseI S_BadText.er S_BadText.fn S_BadText.ok S_BadText.bn (hr.mono (by decide)) S_BadText.mg rfl wshD_cx rfl rfl (pa_cons (pe_op op_add (pe_callB call_len_seq (by rfl) T.n_len bt_len (pa_cons (pv 0) pa_nil)) pe_int) pa_nil))) pss_nil)
      (pss_one (ps_ret (pe_ix ix_list (pv 0) (pv 1) (fun _ _ => rfl))))), ?_⟩
  refine ⟨_, rfl, _, rfl, a, xs, rfl, .inl hS, _, _, rfl, rfl, _, rfl, ite2 (fun c => ?_) (fun c => ?_)⟩
  · have c' : (xs.length : Int) ≤ (i : Int) := of_decide_eq_true c
    exact ⟨_, rfl, a, xs, rfl, .inl hS, _, _, rfl, rfl, (by decide : (1 : Nat) ≤ sizeLine), fun x hx => own_at S_BadText.er (W := fun d H' => E (.ref BT) d H') (fun d H' s' hd => k2 (by omega) d H' s' hd) x hx⟩
  · have c' : ¬ ((xs.length : Int) ≤ (i : Int)) := fun z => c (decide_eq_true z)
    have hi : i < xs.length := by omega
    exact ⟨_, rfl, _, rfl, a, xs, _, xs[i], rfl, rfl, hS, atI_nat (List.getElem?_eq_getElem hi), k1 _ (List.getElem?_eq_getElem hi)⟩
end

end K60


namespace K60
open PySem L2 PyProof.Rows
local macro_rules | `(tactic| walk_at "cc") => `(tactic| first | exact ⟨by decide, by decide⟩ | (show (0 : Int) < _; decide) | (show (0 : Int) < _; omega) | (show (0 : Int) ≤ _; omega) | exact ⟨by decide, by decide, by decide⟩ | exact ⟨by omega, by omega, by decide⟩ | exact Or.inl ⟨by decide, by decide⟩ | exact Or.inl ⟨by omega, by omega⟩)
local macro_rules | `(tactic| walk_at "rd") => `(tactic| repeat (first | refine ⟨_, rfl, ?_⟩ | refine ⟨_, _, rfl, rfl, ?_⟩ | refine ⟨rfl, ?_⟩ | (refine ⟨?cc, ?_⟩; (case cc => walk_at "cc"))))

def spTakenX (BT : Addr) : Sp := fun vs H Q E => ∃ (text : Str) (R : List Str), vs = [.str text] ∧ text.length ≤ 300000 ∧ Asc text ∧ R = PySem.Txt.split text nlS ∧
  (∀ j, j < manyR R → (∀ i, i < j → okAt R i = true) → okAt R j = false → Bad BT E H ((j : Int) + 1)) ∧
  ((∀ j, j < manyR R → okAt R j = true) → ∀ v H', Same H H' → Tri H' v (stC R (manyR R)) (stL R (manyR R)) (stP R (manyR R)) → Q v H')
theorem Bad.mono {BT : Addr} {E : Value → Option Addr → Hp → Prop} {H H1 : Hp} {n : Int} (h : Bad BT E H n) (s : Same H H1) : Bad BT E H1 n := fun d H' s' hd => h d H' (s.trans s') hd
theorem rowN_at {R : List Str} {j : Nat} {b : Str} (h : R[j]? = some b) : rowN R j = b := by
  unfold rowN
  rw [List.getD_eq_getElem?_getD, h]
  rfl
theorem many_ge {l0 : List Str} {y : Str} : l0.length ≤ manyR (l0 ++ [y]) ∧ 2 ≤ manyR (l0 ++ [y]) ∧ (y ≠ Str.empty → l0.length < manyR (l0 ++ [y])) ∧ (y = Str.empty → 2 ≤ l0.length → manyR (l0 ++ [y]) = l0.length) := by
  unfold manyR
  rw [List.length_append, List.length_singleton, List.getLast?_append]
  show l0.length ≤ max 2 (l0.length + 1 - if some y = some Str.empty then 1 else 0) ∧ 2 ≤ max 2 (l0.length + 1 - if some y = some Str.empty then 1 else 0) ∧ (y ≠ Str.empty → l0.length < max 2 (l0.length + 1 - if some y = some Str.empty then 1 else 0)) ∧ (y = Str.empty → 2 ≤ l0.length → max 2 (l0.length + 1 - if some y = some Str.empty then 1 else 0) = l0.length)
  by_cases z : y = Str.empty
  · rw [if_pos (by rw [z])]
    exact ⟨by omega, by omega, fun q => absurd z q, fun _ _ => by omega⟩
  · rw [if_neg (fun q => z (Option.some.inj q))]
    exact ⟨by omega, by omega, fun _ => by omega, fun q => absurd q z⟩
theorem oAt_in {l0 : List Str} {y b : Str} {j : Nat} (h : l0[j]? = some b) : oAt (l0 ++ [y]) j = behind (nmAt j) b 40 := by
  have hj := (List.getElem?_eq_some_iff.mp h).1
  unfold oAt
  rw [if_pos (by rw [List.length_append, List.length_singleton]; omega), rowN_at (by rw [List.getElem?_append_left hj]; exact h)]
theorem oAt_out {l0 : List Str} {y : Str} {j : Nat} (h : l0.length ≤ j) : oAt (l0 ++ [y]) j = none := by
  unfold oAt
  rw [if_neg (by rw [List.length_append, List.length_singleton]; omega)]
theorem cut_two (a b : V) (xs : List V) : cutV (a :: b :: xs) (some 2) none = xs := by
  unfold cutV
  rw [show (some (2 : Int)) = some ((2 : Nat) : Int) from rfl, HT.sIx_nat, Nat.min_eq_left (by rw [List.length_cons, List.length_cons]; omega)]
  show (List.drop 2 (a :: b :: xs)).take _ = _
  exact List.take_of_length_le (by rw [List.length_drop]; exact Nat.le_refl _)
theorem stP_two (R : List Str) : ∀ i, (stP R (i + 2)).length ≤ i
  | 0 => Nat.le_refl 0
  | i + 1 => by
    have := stP_two R i
    show (stP R (i + 2 + 1)).length ≤ _
    rw [stP, if_neg (by omega), List.length_append, List.length_singleton]
    omega
section
variable {P : Program} {w : World} {K : PySem.W.Frag} {mg : Str → Option Value} {base : Heap}
theorem sc_taken : FnScope ["text", "rows", "unended", "told", "laying", "paper"] ["text"] (defScope s_taken) := ⟨rfl, rfl, rfl, by decide +kernel, rfl, by decide +kernel, by decide +kernel⟩
theorem ok_takenX {f f1 f2 f3 f4 f5 g2 BT : Addr} {fd fd1 fd2 fd3 fd4 fd5 e2 : FuncData} (F : Fun K "taken" "taken" s_taken f fd) (T : Txt mg) (G_right : CalD P w K mg base 3 "right" ["told", "at"] (spRightX BT) f1 fd1) (G_row_at : CalD P w K mg base 3 "row_at" ["rows", "number"] (spRowAtX K BT) f2 fd2) (G_worth_told : Cal P w K mg base 3 "worth_told" ["row"] spWorthT f3 fd3) (G_down_told : Cal P w K mg base 3 "down_told" ["row"] spDownT f4 fd4) (G_hill_told : Cal P w K mg base 3 "hill_told" ["row"] spHillT f5 fd5) (S_BadText : OwnI P w K mg base "BadText" BT g2 e2) : FnOk P w K mg base (CXd P w) 4 f fd ["text"] (spTakenX BT) := by
  refine F.okD sc_taken (fun vs H Q E h => ?_) (fun cdv A outer s H vs Q E hr h => ?_)
  · obtain ⟨text, R, rfl, _⟩ := h
    rfl
  obtain ⟨text, R, rfl, hl, ha, hR, kbad, kok⟩ := h
  refine ⟨_, (pss_cons (ps_set (i := 1) sc_taken.nd rfl (Or.inl rfl) (pe_bm PySem.F.plainAttrs_str PySem.F.slot_str_split PySem.F.type_str_split mt_split (pv 0) (pa_cons pe_str pa_nil)))
      (pss_cons (ps_set (i := 2) sc_taken.nd rfl (Or.inl rfl) (pe_bm0 PySem.F.plainAttrs_list PySem.F.slot_list_pop PySem.F.type_list_pop mt_pop (pv 1)))
      (pss_cons (ps_set (i := 3) sc_taken.nd rfl (Or.inl rfl) (pe_callD G_right.ok (hr.mono (by decide)) rfl G_right.mg G_right.kp G_right.bn .nil wshD_cx rfl (pa_cons (pe_call G_worth_told.ok (hr.mono (by decide)) rfl G_worth_told.mg G_worth_told.kp G_worth_told.bn .nil pass0 (pa_cons (pe_callD G_row_at.ok (hr.mono (by decide)) rfl G_row_at.mg G_row_at.kp G_row_at.bn .nil wshD_cx rfl (pa_cons (pv 1) (pa_cons pe_int pa_nil))) pa_nil)) (pa_cons pe_int pa_nil))))
      (pss_cons (ps_set (i := 4) sc_taken.nd rfl (Or.inl rfl) (pe_callD G_right.ok (hr.mono (by decide)) rfl G_right.mg G_right.kp G_right.bn .nil wshD_cx rfl (pa_cons (pe_call G_down_told.ok (hr.mono (by decide)) rfl G_down_told.mg G_down_told.kp G_down_told.bn .nil pass0 (pa_cons (pe_callD G_row_at.ok (hr.mono (by decide)) rfl G_row_at.mg G_row_at.kp G_row_at.bn .nil wshD_cx rfl (pa_cons (pv 1) (pa_cons pe_int pa_nil))) pa_nil)) (pa_cons pe_int pa_nil))))
      (pss_cons (ps_setCompGX (i := 5) wshF_cx rfl rfl rfl rfl sc_taken.nd rfl rfl (fr := []) (xs := ["at", "row"]) (CompG.of (by rfl) (by decide +kernel) (by rfl) (by decide +kernel) (fun p hp => nomatch hp) (by decide +kernel) (fun p hp => nomatch hp)) (pi_enumS rfl T.n_enumerate (pa_cons (pe_slice sl_list (pv 1) (po_some pe_int) po_none) pa_nil)) (fun C ex s H => (pgK_tup (n := 2) (K := K) rfl rfl (pgs_cons (pg_name (i := 0) (show (["at", "row"] : List Str).Nodup from by decide +kernel) rfl (Or.inl rfl)) (pgs_cons (pg_name (i := 1) (show (["at", "row"] : List Str).Nodup from by decide +kernel) rfl (Or.inl rfl)) pgs_nil)))) (fun C ex s H => pts_nil) (fun C ex s H ps XE Wi hP ws => (pe_callC' G_right.ok (hr.mono (by decide)) rfl G_right.mg G_right.kp G_right.bn .nil ws hP (pa_cons (pe_call G_hill_told.ok (hr.mono (by decide)) rfl G_hill_told.mg G_hill_told.kp G_hill_told.bn .nil pass0 (pa_cons (pv 1) pa_nil)) (pa_cons (pv 0) pa_nil)))))
      (pss_cons (ps_if (pt_cmpR op_ne (pv 2) pe_str (nomark _)) (pss_one (ps_raiseI S_BadText.er S_BadText.fn S_BadText.ok S_BadText.bn (hr.mono (by decide)) S_BadText.mg rfl wshD_cx rfl rfl (pa_cons (pe_op op_add (pe_callB call_len_seq (by rfl) T.n_len bt_len (pa_cons (pv 1) pa_nil)) pe_int) pa_nil))) pss_nil)
      (pss_one (ps_ret (pe_tup (pa_cons (pv 3) (pa_cons (pv 4) (pa_cons (pv 5) pa_nil)))))))))))), ?_⟩
  rw [nl_eq, em_eq]
  have s64 : (400000 : Nat) ≤ sizeLine := by decide
  have sl := split_le text nlS
  have ne : R ≠ [] := by rw [hR]; exact split_ne text 10
  rw [← hR] at sl
  refine ⟨_, rfl, rfl, text, nlS, rfl, rfl, rfl, by omega, fun r hr' => ?_⟩
  rw [← hR]
  have aw : ∀ b ∈ R, Rw b := fun b hb => by
    have := split_asc (c := 10) ha (w := b) (by rw [show (⟨#[10]⟩ : Str) = nlS from rfl, ← hR]; exact hb)
    exact ⟨by omega, this.1⟩
  rcases List.eq_nil_or_concat R with e | ⟨l0, y, e⟩
  · exact absurd e ne
  rw [List.concat_eq_append] at e
  clear hR
  subst e
  rw [List.length_append, List.length_singleton] at sl
  obtain ⟨mg1, mg2, mg3, mg4⟩ := many_ge (l0 := l0) (y := y)
  rw [List.map_append]
  have sr := same_new hr' (.lst (l0.map V.str ++ [y].map V.str))
  refine ⟨_, rfl, .inl ⟨rfl, _, SqL.of upd_same⟩, r, _, V.str y, rfl, rfl, upd_same, by simp, ?_⟩
  have ed : List.dropLast (l0.map V.str ++ [y].map V.str) = l0.map V.str := by simp
  rw [ed]
  have sR := same_upd sr hr' (.lst (l0.map V.str))
  have gR : (upd (upd H r (.lst (l0.map V.str ++ [y].map V.str))) r (.lst (l0.map V.str))) r = some (.lst (l0.map V.str)) := upd_same
  generalize upd (upd H r (.lst (l0.map V.str ++ [y].map V.str))) r (.lst (l0.map V.str)) = H1 at sR gR
  have aw0 : ∀ b ∈ l0, Rw b := fun b hb => aw b (List.mem_append_left _ hb)
  have bad : ∀ (j : Nat) (H2 : Hp) (n : Int), n = (j : Int) + 1 → j < manyR (l0 ++ [y]) → (∀ i, i < j → okAt (l0 ++ [y]) i = true) → okAt (l0 ++ [y]) j = false → Same H H2 → Bad BT E H2 n := fun j H2 n hn h1 h2 h3 s => hn ▸ (kbad j h1 h2 h3).mono s
  refine ⟨_, rfl, r, _, 0, rfl, SqL.of gR, fun x hx => ?_, fun hz => ?_⟩
  rotate_left
  · rw [List.length_map] at hz
    exact bad 0 H1 _ (by rw [List.length_map]; omega) (by omega) (fun i hi => absurd hi (Nat.not_lt_zero _)) (ok_none (oAt_out hz)) sR
  rw [List.getElem?_map] at hx
  obtain ⟨b0, hb0, rfl⟩ := Option.map_eq_some_iff.mp hx
  have ok0 : okAt (l0 ++ [y]) 0 = (worthT b0).isSome := by
    unfold okAt
    rw [if_pos rfl, oAt_in hb0]
    rfl
  refine ⟨b0, rfl, aw0 b0 (List.mem_of_getElem? hb0), fun H2 s2 => ?_⟩
  refine ⟨_, 1, rfl, fun nz => ?_, fun nz => ?_⟩
  rotate_left
  · refine bad 0 H2 _ rfl (by omega) (fun i hi => absurd hi (Nat.not_lt_zero _)) ?_ (sR.trans s2)
    rw [ok0]
    cases hw : worthT b0 with
    | none => rfl
    | some c =>
      rw [hw] at nz
      cases nz
  obtain ⟨c, hc⟩ : ∃ c, worthT b0 = some c := by
    cases hw : worthT b0 with
    | none =>
      rw [hw] at nz
      exact absurd rfl nz
    | some c => exact ⟨c, rfl⟩
  rw [hc] at ok0
  have okb1 : ∀ i, i < 1 → okAt (l0 ++ [y]) i = true := fun i hi => by
    have : i = 0 := by omega
    rw [this]
    exact ok0
  refine ⟨_, rfl, r, _, 1, rfl, SqL.of (s2 _ _ gR), fun x hx => ?_, fun hz => ?_⟩
  rotate_left
  · rw [List.length_map] at hz
    have h1 : l0.length = 1 := by
      have := (List.getElem?_eq_some_iff.mp hb0).1
      omega
    exact bad 1 H2 _ (by rw [List.length_map, h1]) (by omega) okb1 (ok_none (oAt_out hz)) (sR.trans s2)
  rw [List.getElem?_map] at hx
  obtain ⟨b1, hb1, rfl⟩ := Option.map_eq_some_iff.mp hx
  have ok1 : okAt (l0 ++ [y]) 1 = (downT b1).isSome := by
    unfold okAt
    rw [if_neg (by decide), if_pos rfl, oAt_in hb1]
    rfl
  refine ⟨b1, rfl, aw0 b1 (List.mem_of_getElem? hb1), fun H3 s3 => ?_⟩
  refine ⟨_, 2, rfl, fun nz => ?_, fun nz => ?_⟩
  rotate_left
  · refine bad 1 H3 _ rfl (by omega) okb1 ?_ (sR.trans (s2.trans s3))
    rw [ok1]
    cases hw : downT b1 with
    | none => rfl
    | some c =>
      rw [hw] at nz
      cases nz
  obtain ⟨l, hl1⟩ : ∃ l, downT b1 = some l := by
    cases hw : downT b1 with
    | none =>
      rw [hw] at nz
      exact absurd rfl nz
    | some c => exact ⟨c, rfl⟩
  rw [hl1] at ok1
  obtain ⟨bs, rfl⟩ : ∃ bs, l0 = b0 :: b1 :: bs := by
    match l0, hb0, hb1 with
    | a :: b :: bs, h0, h1 =>
      cases h0
      cases h1
      exact ⟨bs, rfl⟩
  rw [List.length_cons, List.length_cons] at sl mg1 mg3 mg4
  rw [hc, hl1]
  refine ⟨_, rfl, _, rfl, r, _, rfl, SqL.of (s3 _ _ (s2 _ _ gR)), fun e he => ?_⟩
  have ec : cutV ((b0 :: b1 :: bs).map V.str) (some 2) none = bs.map V.str := cut_two _ _ _
  rw [ec]
  have se := same_new he (.lst (bs.map V.str))
  have ge : (upd H3 e (.lst (bs.map V.str))) e = some (.lst (bs.map V.str)) := upd_same
  generalize upd H3 e (.lst (bs.map V.str)) = H4 at se ge
  have s4 : Same H H4 := sR.trans (s2.trans (s3.trans se))
  refine ⟨e, rfl, ⟨_, SqL.of ge⟩, compG_enumS (K := K) (xs := bs.map V.str) (fun i zs H' => Same H4 H' ∧ (∀ j, j < i + 2 → okAt (b0 :: b1 :: bs ++ [y]) j = true) ∧ PsA H' zs (stP (b0 :: b1 :: bs ++ [y]) (i + 2))) (by rw [List.length_map]; omega) ⟨fun _ _ z => z, fun j hj => ?_, .nil⟩ (fun i zs H' _ z => SqL.of (z.1 _ _ ge)) ?_ ?_ (fun i zs H' z => ?_)⟩
  · match j, hj with
    | 0, _ => exact ok0
    | 1, _ => exact ok1
  · rintro i x zs H5 T5 hx ⟨s5, okb, hZ⟩ hT5
    rw [List.getElem?_map] at hx
    obtain ⟨b, hb, rfl⟩ := Option.map_eq_some_iff.mp hx
    have hbi := (List.getElem?_eq_some_iff.mp hb).1
    have eo : hF (oAt (b0 :: b1 :: bs ++ [y]) (i + 2)) = hillT b := by
      rw [oAt_in (l0 := b0 :: b1 :: bs) (b := b) hb]
      rfl
    have sT := same_new hT5 (.tup [.int ((i + 3 : Nat) : Int), V.str b])
    refine ⟨T5, _, rfl, SqT.of upd_same, rfl, _, _, rfl, _, _, rfl, rfl, rfl, yesT ?_⟩
    refine ⟨_, rfl, b, rfl, aw0 b (by have := List.mem_of_getElem? hb; simp [this]), fun v H6 s6 hv => ?_⟩
    refine ⟨_, rfl, _, _, rfl, fun nz => ?_, fun nz => ?_⟩
    rotate_left
    · intro d H7 s7 hd D ws hD
      have hn : hillT b = none := by
        cases hh : hillT b with
        | none => rfl
        | some p =>
          rw [hh] at hv
          obtain ⟨a, z, _⟩ := hv
          rw [z] at nz
          cases nz
      have sD := same_new hD (.lst ws)
      exact bad (i + 2) H6 _ (by omega) (by omega) okb (by rw [ok_two, eo, hn]; rfl) (s4.trans (s5.trans (sT.trans s6))) d _ (s7.trans sD) (sD _ _ hd)
    · cases hh : hillT b with
      | none =>
        rw [hh] at hv
        exact absurd hv nz
      | some p =>
        rw [hh] at hv
        obtain ⟨a, rfl, hA⟩ := hv
        refine ⟨s5.trans (sT.trans s6), fun j hj => ?_, ?_⟩
        · rcases Nat.lt_or_eq_of_le (Nat.le_of_lt_succ hj) with z | z
          · exact okb j z
          · rw [z, ok_two, eo, hh]
            rfl
        · have e3 : stP (b0 :: b1 :: bs ++ [y]) (i + 1 + 2) = stP (b0 :: b1 :: bs ++ [y]) (i + 2) ++ [p] := by
            show stP (b0 :: b1 :: bs ++ [y]) (i + 2 + 1) = _
            rw [stP, if_neg (by omega), eo, hh]
            rfl
          rw [e3]
          exact (hZ.mono (sT.trans s6)).snoc ⟨a, rfl, hA⟩
  · rintro zs H5 ⟨s5, okb, hZ⟩ D hD
    rw [List.length_map] at okb hZ
    have sD := same_new hD (.lst zs)
    refine ⟨_, rfl, rfl, _, rfl, ite2 (fun z => ?_) (fun z => ?_)⟩
    · have ny : y ≠ Str.empty := fun q => by
        rw [q] at z
        simp at z
      refine ⟨_, rfl, r, _, rfl, .inl (SqL.of (sD _ _ (s5 _ _ (se _ _ (s3 _ _ (s2 _ _ gR)))))), _, _, rfl, rfl, (by decide : (1 : Nat) ≤ sizeLine), fun x hx => own_at S_BadText.er (W := fun d H' => E (.ref BT) d H') (fun d H' s' hd => ?_) x hx⟩
      have hm := mg3 ny
      refine bad (bs.length + 2) _ _ ?_ (by omega) okb (ok_none (oAt_out (by rw [List.length_cons, List.length_cons]; omega))) (s4.trans (s5.trans sD)) d H' s' hd
      rw [List.length_map, List.length_cons, List.length_cons]
    · have yy : y = Str.empty := by
        by_cases q : y = Str.empty
        · exact q
        · exact absurd (by simp [q]) z
      have hm := mg4 yy (by omega)
      refine ⟨_, rfl, _, rfl, _, rfl, (by show 3 ≤ sizeLine; decide), fun t ht => ?_⟩
      have st := same_new ht (.tup [iV c, iV l, .ref D])
      have e1 : stC (b0 :: b1 :: bs ++ [y]) (bs.length + 1 + 1) = c := by
        unfold stC
        rw [if_pos (by omega), oAt_in (l0 := b0 :: b1 :: bs) (b := b0) rfl]
        have : wF (behind (nmAt 0) b0 40) = some c := hc
        rw [this]
        rfl
      have e2 : stL (b0 :: b1 :: bs ++ [y]) (bs.length + 1 + 1) = l := by
        unfold stL
        rw [if_pos (by omega), oAt_in (l0 := b0 :: b1 :: bs) (b := b1) rfl]
        have : (behind (nmAt 1) b1 40).bind setT = some l := hl1
        rw [this]
        rfl
      refine kok (fun j hj => okb j (by omega)) (.ref t) _ (s4.trans (s5.trans (sD.trans st))) ?_
      rw [hm, e1, e2]
      exact ⟨t, D, zs, rfl, upd_same, st _ _ upd_same, hZ.mono (sD.trans st)⟩
  · rw [z.2.2.1]
    exact stP_two _ i
end

end K60


namespace K60
open PySem L2 PyProof.Rows
local macro_rules | `(tactic| walk_at "cc") => `(tactic| first | exact ⟨by decide, by decide⟩ | (show (0 : Int) < _; decide) | (show (0 : Int) < _; omega) | (show (0 : Int) ≤ _; omega) | exact ⟨by decide, by decide, by decide⟩ | exact ⟨by omega, by omega, by decide⟩ | exact Or.inl ⟨by decide, by decide⟩ | exact Or.inl ⟨by omega, by omega⟩)
local macro_rules | `(tactic| walk_at "rd") => `(tactic| repeat (first | refine ⟨_, rfl, ?_⟩ | refine ⟨_, _, rfl, rfl, ?_⟩ | refine ⟨rfl, ?_⟩ | (refine ⟨?cc, ?_⟩; (case cc => walk_at "cc"))))

def spTold : Sp := fun vs H Q _ => ∃ (text : Str) (R : List Str), vs = [.str text] ∧ text.length ≤ 300000 ∧ Asc text ∧ R = PySem.Txt.split text nlS ∧
  (∀ j, j < manyR R → (∀ i, i < j → okAt R i = true) → okAt R j = false → ∀ t H', Same H H' → H' t = some (.tup [.non, .int ((j : Int) + 1), .bl true]) → Q (.ref t) H') ∧
  ((∀ j, j < manyR R → okAt R j = true) → ∀ v t H', Same H H' → Tri H' v (stC R (manyR R)) (stL R (manyR R)) (stP R (manyR R)) → H' t = some (.tup [v, .non, .bl false]) → Q (.ref t) H')
theorem Tri.mono {H H' : Hp} {v : V} {c l : Nat} {ps : List Pq} (h : Tri H v c l ps) (s : Same H H') : Tri H' v c l ps := by
  obtain ⟨t, pl, ys, e, h1, h2, h3⟩ := h.is
  exact ⟨t, pl, ys, e, s _ _ h1, s _ _ h2, h3.mono s⟩
structure ErF (K : PySem.W.Frag) (mg : Str → Option Value) (NL FE : Addr) : Prop where
  er : ErC K NL
  na : PySem.W.findIn K (.ref NL) "at" = some none
  up : PySem.W.mroIn K NL (.ref NL) = some true
  k0 : PySem.W.kitOne K (.ref NL) (.ref FE) = some true
  kv : PySem.W.kitOne K (.ref NL) (.type "ValueError") = some true
structure TxtE (mg : Str → Option Value) (FE : Addr) : Prop extends Txt mg where
  n_ValueError : mg "ValueError" = none
  g_FloorError : mg "FloorError" = some (.ref FE)
theorem bt_ValueError : bootBuiltins "ValueError" = some (.type "ValueError") := by decide +kernel
theorem call_isiDK {X : Cx} {K : PySem.W.Frag} (hK : X.K = K) : CallR X (.builtin "isinstance") (fun xs H Q => ∃ x c dx d b, xs = [.ref x, .ref d] ∧ H x = some (excD x c dx) ∧ ErC K c ∧ PySem.W.kitOne K (.ref c) (.ref d) = some b ∧ Q (.bl b) H) := by subst hK; exact call_isiD
theorem call_isiDTK {X : Cx} {K : PySem.W.Frag} (hK : X.K = K) : CallR X (.builtin "isinstance") (fun xs H Q => ∃ x c dx T b, xs = [.ref x, .ty T] ∧ H x = some (excD x c dx) ∧ ErC K c ∧ PySem.W.kitOne K (.ref c) (.type T) = some b ∧ Q (.bl b) H) := by subst hK; exact call_isiDT
theorem pe_fldEK {X : Cx} {K : PySem.W.Frag} {f : Str} {e : Expr} {ta : TE} {pos : Pos} (hK : X.K = K) (he : PE X e ta) (hb : attributeBase e f X.env (eval e X.env) = eval e X.env) : PE X (.Attribute e f pos) (tFldE K ta f) := by subst hK; exact pe_fldE he hb
section
variable {P : Program} {w : World} {K : PySem.W.Frag} {mg : Str → Option Value} {base : Heap}
theorem sc_law_told : FnScope ["text", "told", "at", "by_value", "e"] ["text"] (defScope s_law_told) := ⟨rfl, rfl, rfl, by decide +kernel, rfl, by decide +kernel, by decide +kernel⟩
theorem ok_told {f f1 g2 BT FE : Addr} {fd d1 e2 : FuncData} (F : Fun K "_law_told" "_law_told" s_law_told f fd) (T : TxtE mg FE) (S_BadText : OwnI P w K mg base "BadText" BT g2 e2) (ef : ErF K mg BT FE) (G_taken : CalD P w K mg base 4 "taken" ["text"] (spTakenX BT) f1 d1) : FnOk P w K mg base CX0 5 f fd ["text"] spTold := by
  have hCs : ∀ x, x = BT → PySem.W.mroIn K x (.ref BT) = some true := fun x e => by subst e; exact ef.up
  refine F.ok sc_law_told (fun vs H Q E h => ?_) (fun cdv A outer s H vs Q E hr h => ?_)
  · obtain ⟨text, R, rfl, _⟩ := h
    rfl
  obtain ⟨text, R, rfl, hl, ha, hR, kx, kk⟩ := h
  refine ⟨_, (pss_cons (ps_set (i := 1) sc_law_told.nd rfl (Or.inl rfl) pe_non)
      (pss_cons (ps_set (i := 2) sc_law_told.nd rfl (Or.inl rfl) pe_non)
      (pss_cons (ps_set (i := 3) sc_law_told.nd rfl (Or.inl rfl) pe_bl)
      (pss_cons (ps_tryAsDI (ie := 4) (Cs := (fun c => c = BT)) rfl rfl rfl sc_law_told.nd rfl rfl rfl S_BadText.mg S_BadText.er.ei hCs (fun pins XE W ws => (pss_one (ps_set (i := 1) sc_law_told.nd rfl (Or.inl rfl) (pe_callTD G_taken.ok (hr.mono (by decide)) rfl G_taken.mg G_taken.kp G_taken.bn .nil ws rfl (pa_cons (pv 0) pa_nil))))) (fun v => (pss_cons (ps_set (i := 2) sc_law_told.nd rfl (Or.inl rfl) (pe_fldEK (K := K) rfl (pv 4) rfl))
      (pss_one (ps_set (i := 3) sc_law_told.nd rfl (Or.inl rfl) (pe_and (pe_callB (call_isiDK (K := K) rfl) (by rfl) T.n_isinstance bt_isinstance (pa_cons (pv 4) (pa_cons (pe_glob (v := .ref _) rfl T.g_FloorError rfl) pa_nil))) (pe_one (pe_callB (call_isiDTK (K := K) rfl) (by rfl) T.n_isinstance bt_isinstance (pa_cons (pv 4) (pa_cons (pe_bltn (v := .ty "ValueError") rfl T.n_ValueError bt_ValueError rfl) pa_nil))))))))))
      (pss_one (ps_ret (pe_tup (pa_cons (pv 1) (pa_cons (pv 2) (pa_cons (pv 3) pa_nil)))))))))), ?_⟩
  refine ⟨_, rfl, text, R, rfl, hl, ha, hR, fun j h1 h2 h3 d H' s' hd => ⟨BT, rfl, rfl, fun x hx => ?_⟩, fun al v H' s' tr => ?_⟩
  · have sx := same_new hx (excD x BT (some d))
    have hdx := sx _ _ hd
    refine ⟨_, rfl, x, BT, d, _, _, rfl, upd_same, ef.er, ef.na, hdx, rfl, ?_⟩
    refine ⟨_, rfl, x, BT, some d, FE, _, rfl, upd_same, ef.er, ef.k0, _, rfl, iteT ?_⟩
    refine ⟨_, rfl, x, BT, some d, "ValueError", _, rfl, upd_same, ef.er, ef.kv, ?_⟩
    refine ⟨_, rfl, _, rfl, _, rfl, (by show 3 ≤ sizeLine; decide), fun t ht => ?_⟩
    exact kx j h1 h2 h3 t _ ((s'.trans sx).trans (same_new ht _)) upd_same
  · refine ⟨_, rfl, _, rfl, _, rfl, (by show 3 ≤ sizeLine; decide), fun t ht => ?_⟩
    have st := same_new ht (.tup [v, .non, .bl false])
    exact kk al v t _ (s'.trans st) (tr.mono st) upd_same
end

end K60


namespace K60
open PySem L2 PyProof.Rows
local macro_rules | `(tactic| walk_at "cc") => `(tactic| first | exact ⟨by decide, by decide⟩ | (show (0 : Int) < _; decide) | (show (0 : Int) < _; omega) | (show (0 : Int) ≤ _; omega) | exact ⟨by decide, by decide, by decide⟩ | exact ⟨by omega, by omega, by decide⟩ | exact Or.inl ⟨by decide, by decide⟩ | exact Or.inl ⟨by omega, by omega⟩)
local macro_rules | `(tactic| walk_at "rd") => `(tactic| repeat (first | refine ⟨_, rfl, ?_⟩ | refine ⟨_, _, rfl, rfl, ?_⟩ | refine ⟨rfl, ?_⟩ | (refine ⟨?cc, ?_⟩; (case cc => walk_at "cc"))))

/-- a text that is not spoiled yet -/
structure Og (z : Str) : Prop where
  len : z.length ≤ 130000
  ne : z.length ≠ 0
  asc : Asc z
  two : 2 ≤ (PySem.Txt.split z nlS).length
  nl : 10 ∈ z.cps.toList
def lawP (K : PySem.W.Frag) (a : Addr) (ns : List Int) (dn : Int → Prop) : TS := fun D σ H => ∃ (v1 v2 : Option V) (text orig : Str) (way at' : Int) (v6 v7 v8 : Option V), σ = [some (.ref a), v1, v2, some (.str text), some (.int way), some (.int at'), v6, v7, v8] ∧ SqL K H a (ns.map V.int) ∧ Asc text ∧ text.length ≤ 300000 ∧ Og orig ∧ (¬ dn way → text = orig) ∧ 0 ≤ at' ∧ at' < 1000003 ∧ ∀ H', D.rt (.bl true) H'
theorem shown_og {c l : Nat} {ps : List Pq} (ok : Pok ps) (few : ps.length ≤ 10) (hc : c < 10 ^ 40) (hl : l < 2 ^ 40) : Og (shownT c l ps) := by
  have nl : 10 ∈ (shownT c l ps).cps.toList := by
    show 10 ∈ (rowT [wW, tx c] ++ Str.empty ++ Str.join Str.empty (rowT (wD :: bw l) :: ps.map hillR)).cps.toList
    rw [str_app, str_app]
    refine List.mem_append_left _ (List.mem_append_left _ ?_)
    show 10 ∈ (Str.join spS [wW, tx c] ++ nlS).cps.toList
    rw [str_app]
    exact List.mem_append_right _ (by decide)
  refine ⟨?_, fun z => ?_, shown_asc c l ps, ?_, nl⟩
  · obtain ⟨r1, r2⟩ := rows_len ok hc hl
    have sl := sum_len r1
    have rl : (rowsT c l ps).length ≤ 12 := by
      unfold rowsT
      rw [List.length_cons, List.length_cons, List.length_map]
      omega
    have : (rowsT c l ps).length * 10101 ≤ 12 * 10101 := Nat.mul_le_mul_right _ rl
    unfold shownT
    rw [join_em_len]
    omega
  · have : (shownT c l ps).cps.toList.length = 0 := z
    rw [List.eq_nil_of_length_eq_zero this] at nl
    cases nl
  · rw [shown_split, List.length_cons, List.length_cons]
    omega
theorem log_42 {n : Nat} (h : n < 10 ^ 42) : ((n : Int)).natAbs.log2 < 1920 := by
  rw [Int.natAbs_natCast]
  by_cases z : n = 0
  · rw [z]
    decide
  · exact (Nat.log2_lt z).mpr (Nat.lt_of_lt_of_le h (by decide))
def moreL : List Str := [(("hill 0 5" : String) : Str), (("hill 5 80" : String) : Str), (("hill 5 79" : String) : Str), (("hill 1" : String) : Str) ++ ⟨(List.replicate 40 (("0" : String) : Str).cps).foldl (· ++ ·) #[]⟩ ++ ((" 3" : String) : Str), (("hill 7" : String) : Str), (("hill 3 4 4" : String) : Str), (("hill 3 5 4" : String) : Str)]
theorem more_all : (moreL.all fun z => z.cps.toList.all (fun c => decide (c < 128)) && decide (z.length ≤ 100)) = true := by decide +kernel
theorem more_ok {z : Str} (h : z ∈ moreL) : Asc z ∧ z.length ≤ 100 := by
  have := List.all_eq_true.mp more_all z h
  rw [Bool.and_eq_true] at this
  exact ⟨asc_iff.mpr fun c hc => of_decide_eq_true (List.all_eq_true.mp this.1 c hc), of_decide_eq_true this.2⟩
theorem kit_iI (K : PySem.W.Frag) : PySem.W.kitOne K (.type "int") (.type "int") = some true := by with_unfolding_all rfl
theorem kit_tI (K : PySem.W.Frag) : PySem.W.kitOne K (.type "tuple") (.type "int") = some false := by with_unfolding_all rfl
section
variable {P : Program} {w : World} {K : PySem.W.Frag} {mg : Str → Option Value} {base : Heap}
theorem sc_law : FnScope ["script", "mixed", "laying", "text", "way", "at", "more", "due", "told"] ["script"] (defScope s_law) := ⟨rfl, rfl, rfl, by decide +kernel, rfl, by decide +kernel, by decide +kernel⟩
theorem ok_law {f f1 f2 f3 f4 f5 f6 f7 f8 f9 : Addr} {fd fd1 fd2 fd3 fd4 fd5 fd6 fd7 fd8 fd9 : FuncData} (F : Fun K "law" "law" s_law f fd) (T : Txt mg) (G_law_cell : Cal P w K mg base 1 "_law_cell" ["script", "k"] (spCell K) f1 fd1) (G_law_paper : Cal P w K mg base 1 "_law_paper" ["script"] (spPaper K) f2 fd2) (G_law_shown : Cal P w K mg base 1 "_law_shown" ["cost", "laying", "paper"] (spLShown K) f4 fd4) (G_law_sign_spoiled : Cal P w K mg base 1 "_law_sign_spoiled" ["text", "way", "at", "cell"] spSign f3 fd3) (G_law_row_spoiled : Cal P w K mg base 1 "_law_row_spoiled" ["text", "way", "at"] spRowSp f5 fd5) (G_law_read : Cal P w K mg base 3 "_law_read" ["text"] spRead f7 fd7) (G_law_told : Cal P w K mg base 5 "_law_told" ["text"] spTold f8 fd8) (G_law_whole : Cal P w K mg base 1 "_law_whole" ["found"] spWhole f9 fd9) (G_law_triple : Cal P w K mg base 2 "_law_triple" ["found", "due"] spTriple f6 fd6) : FnOk P w K mg base CX0 6 f fd ["script"] (spLaw K) := by
  refine F.ok sc_law (fun vs H Q E h => ?_) (fun cdv A outer s H vs Q E hr h => ?_)
  · obtain ⟨a, ns, rfl, _⟩ := h
    rfl
  obtain ⟨a, ns, rfl, hS, h63, kk⟩ := h
  have hu64 := hr.units
  refine ⟨_, (pss_cons (ps_set (i := 1) sc_law.nd rfl (Or.inl rfl) (pe_op op_mul (pe_op op_mod (pe_call G_law_cell.ok (hr.mono (by decide)) rfl G_law_cell.mg G_law_cell.kp G_law_cell.bn .nil pass0 (pa_cons (pv 0) (pa_cons pe_int pa_nil))) (pe_op op_pow pe_int pe_int)) pe_int))
      (pss_cons (ps_set (i := 2) sc_law.nd rfl (Or.inl rfl) (pe_op op_mod (pe_op op_xor (pv 1) (pe_op op_shr (pv 1) pe_int)) (pe_op op_shl pe_int pe_int)))
      (pss_cons (ps_set (i := 3) sc_law.nd rfl (Or.inl rfl) (pe_call G_law_shown.ok (hr.mono (by decide)) rfl G_law_shown.mg G_law_shown.kp G_law_shown.bn .nil pass0 (pa_cons (pe_op op_mod (pe_call G_law_cell.ok (hr.mono (by decide)) rfl G_law_cell.mg G_law_cell.kp G_law_cell.bn .nil pass0 (pa_cons (pv 0) (pa_cons pe_int pa_nil))) (pe_op op_pow pe_int pe_int)) (pa_cons (pv 2) (pa_cons (pe_call G_law_paper.ok (hr.mono (by decide)) rfl G_law_paper.mg G_law_paper.kp G_law_paper.bn .nil pass0 (pa_cons (pv 0) pa_nil)) pa_nil)))))
      (pss_cons (ps_set (i := 4) sc_law.nd rfl (Or.inl rfl) (pe_op op_mod (pe_call G_law_cell.ok (hr.mono (by decide)) rfl G_law_cell.mg G_law_cell.kp G_law_cell.bn .nil pass0 (pa_cons (pv 0) (pa_cons pe_int pa_nil))) pe_int))
      (pss_cons (ps_set (i := 5) sc_law.nd rfl (Or.inl rfl) (pe_op op_mod (pe_call G_law_cell.ok (hr.mono (by decide)) rfl G_law_cell.mg G_law_cell.kp G_law_cell.bn .nil pass0 (pa_cons (pv 0) (pa_cons pe_int pa_nil))) pe_int))
      (pss_cons (ps_if (PW.pt (pw_and (pt_cmpR op_le pe_int (pv 4) (nomark _)) (pw_and1 (pt_cmpR op_le (pv 4) pe_int (nomark _))))) (pss_one (ps_set (i := 3) sc_law.nd rfl (Or.inl rfl) (pe_call G_law_sign_spoiled.ok (hr.mono (by decide)) rfl G_law_sign_spoiled.mg G_law_sign_spoiled.kp G_law_sign_spoiled.bn .nil pass0 (pa_cons (pv 3) (pa_cons (pv 4) (pa_cons (pv 5) (pa_cons (pe_call G_law_cell.ok (hr.mono (by decide)) rfl G_law_cell.mg G_law_cell.kp G_law_cell.bn .nil pass0 (pa_cons (pv 0) (pa_cons pe_int pa_nil))) pa_nil))))))) pss_nil)
      (pss_imp (t2 := (lawP K a ns (fun w => 1 ≤ w ∧ w ≤ 4))) (pss_cons (ps_if (PW.pt (pw_and (pt_cmpR op_le pe_int (pv 4) (nomark _)) (pw_and1 (pt_cmpR op_le (pv 4) pe_int (nomark _))))) (pss_one (ps_set (i := 3) sc_law.nd rfl (Or.inl rfl) (pe_call G_law_row_spoiled.ok (hr.mono (by decide)) rfl G_law_row_spoiled.mg G_law_row_spoiled.kp G_law_row_spoiled.bn .nil pass0 (pa_cons (pv 3) (pa_cons (pv 4) (pa_cons (pv 5) pa_nil)))))) pss_nil)
      (pss_imp (t2 := (lawP K a ns (fun w => 1 ≤ w ∧ w ≤ 7))) (pss_cons (ps_if (pt_cmpR op_eq (pv 4) pe_int (nomark _)) (pss_cons (ps_set (i := 6) sc_law.nd rfl (Or.inl rfl) (pe_lst (pa_cons pe_str (pa_cons pe_str (pa_cons pe_str (pa_cons (pe_op op_add_str (pe_op op_add_str pe_str (pe_op op_mul_str pe_str pe_int)) pe_str) (pa_cons pe_str (pa_cons pe_str (pa_cons pe_str pa_nil)))))))))
      (pss_one (ps_set (i := 3) sc_law.nd rfl (Or.inl rfl) (pe_op op_add_str (pe_op op_add_str (pv 3) (pe_ix ix_list (pv 6) (pe_op op_mod (pv 5) (pe_callB call_len_seq (by rfl) T.n_len bt_len (pa_cons (pv 6) pa_nil))) (fun _ _ => rfl))) pe_str)))) pss_nil)
      (pss_imp (t2 := (lawP K a ns (fun w => (1 ≤ w ∧ w ≤ 7) ∨ w = 9))) (pss_cons (ps_if (pt_cmpR op_eq (pv 4) pe_int (nomark _)) (pss_one (ps_set (i := 3) sc_law.nd rfl (Or.inl rfl) (pe_op op_add_str (pe_op op_add_str pe_str (pe_callTy call_str_int (by rfl) T.n_str bt_str (pa_cons (pe_op op_add (pe_ix ix_list (pe_lst (pa_cons (pe_op op_pow pe_int pe_int) (pa_cons (pe_op op_pow pe_int pe_int) pa_nil))) (pe_op op_mod (pv 5) pe_int) (fun _ _ => rfl)) (pv 5)) pa_nil))) (pe_slice sl_str (pv 3) (po_some (pe_bm PySem.F.plainAttrs_str PySem.F.slot_str_index PySem.F.type_str_index mt_indexS (pv 3) (pa_cons pe_str pa_nil))) po_none)))) pss_nil)
      (pss_imp (t2 := (lawP K a ns (fun _ => True))) (pss_cons (ps_set (i := 7) sc_law.nd rfl (Or.inl rfl) (pe_call G_law_read.ok (hr.mono (by decide)) rfl G_law_read.mg G_law_read.kp G_law_read.bn .nil pass0 (pa_cons (pv 3) pa_nil)))
      (pss_cons (ps_set (i := 8) sc_law.nd rfl (Or.inl rfl) (pe_call G_law_told.ok (hr.mono (by decide)) rfl G_law_told.mg G_law_told.kp G_law_told.bn .nil pass0 (pa_cons (pv 3) pa_nil)))
      (pss_cons (ps_if (pt_val (pe_callB call_isi (by rfl) T.n_isinstance bt_isinstance (pa_cons (pv 7) (pa_cons (pe_bltn (v := .ty "int") rfl T.n_int bt_int rfl) pa_nil)))) (pss_one (ps_ret (pe_and (pe_ix ix_tup (pv 8) pe_int (fun _ _ => rfl)) (pe_and (pe_call G_law_whole.ok (hr.mono (by decide)) rfl G_law_whole.mg G_law_whole.kp G_law_whole.bn .nil pass0 (pa_cons (pe_ix ix_tup (pv 8) pe_int (fun _ _ => rfl)) pa_nil)) (pe_one (pe_cmpR op_eq (pe_ix ix_tup (pv 8) pe_int (fun _ _ => rfl)) (pv 7) (nomark _))))))) pss_nil)
      (pss_one (ps_ret (pe_and (pe_cmpR op_isN (pe_ix ix_tup (pv 8) pe_int (fun _ _ => rfl)) pe_non (nomark _)) (pe_one (pe_call G_law_triple.ok (hr.mono (by decide)) rfl G_law_triple.mg G_law_triple.kp G_law_triple.bn .nil pass0 (pa_cons (pe_ix ix_tup (pv 8) pe_int (fun _ _ => rfl)) (pa_cons (pv 7) pa_nil)))))))))) (fun D0 S0 H0 h0 => ?p4))) (fun D0 S0 H0 h0 => ?p3))) (fun D0 S0 H0 h0 => ?p2))) (fun D0 S0 H0 h0 => ?p1)))))))), ?_⟩
  case p1 =>
    obtain ⟨v1, v2, text, orig, way, at', v6, v7, v8, rfl, hS0, ha, hl, og, he, a0, a1, k0⟩ := h0
    have skip : ¬ (5 ≤ way ∧ way ≤ 7) → lawP K a ns (fun w => 1 ≤ w ∧ w ≤ 7) D0 [some (V.ref a), v1, v2, some (V.str text), some (V.int way), some (V.int at'), v6, v7, v8] H0 := fun z => ⟨v1, v2, text, orig, way, at', v6, v7, v8, rfl, hS0, ha, hl, og, fun y => he (by omega), a0, a1, k0⟩
    refine ⟨_, rfl, _, _, rfl, rfl, _, rfl, ite2 (fun c1 => ?_) (fun c1 => ?_)⟩
    · refine ⟨_, rfl, _, _, rfl, rfl, _, rfl, ite2 (fun c2 => ?_) (fun c2 => ?_)⟩
      · have c1' := of_decide_eq_true c1
        have c2' := of_decide_eq_true c2
        cases he (by omega)
        exact ⟨_, rfl, _, rfl, _, rfl, text, way, at', rfl, og.len, og.two, og.asc, fun z H' s' zl za => ⟨v1, v2, z, text, way, at', v6, v7, v8, rfl, s'.seq hS0, za, zl, og, fun y => absurd ⟨by omega, by omega⟩ y, a0, a1, k0⟩⟩
      · exact skip fun z => c2 (decide_eq_true z.2)
    · exact iteF (skip fun z => c1 (decide_eq_true z.1))
  case p2 =>
    obtain ⟨v1, v2, text, orig, way, at', v6, v7, v8, rfl, hS0, ha, hl, og, he, a0, a1, k0⟩ := h0
    refine ⟨_, rfl, rfl, _, rfl, ite2 (fun c => ?_) (fun c => ?_)⟩
    · have s64 : (400000 : Nat) ≤ sizeLine := by decide
      have cw : way = 9 := V.int.inj (of_decide_eq_true c)
      cases he (by omega)
      have tl := og.len
      refine ⟨_, 40, rfl, rfl, by decide, by decide +kernel, by decide +kernel, _, _, rfl, rfl, by decide +kernel, _, _, rfl, rfl, by decide +kernel, (by show 7 ≤ sizeLine; decide), fun q hq => ?_⟩
      have sq := same_new hq (.lst (moreL.map V.str))
      have gq : (upd H0 q (.lst (moreL.map V.str))) q = some (.lst (moreL.map V.str)) := upd_same
      have m0 := Int.emod_nonneg at' (show (7 : Int) ≠ 0 by decide)
      have m1 := Int.emod_lt_of_pos at' (show (0 : Int) < 7 by decide)
      obtain ⟨z, ez, hz⟩ : ∃ z : Str, atI (moreL.map V.str) (at' % 7) = some (V.str z) ∧ z ∈ moreL := by
        obtain ⟨i, ei⟩ : ∃ i : Nat, at' % 7 = (i : Int) := ⟨(at' % 7).toNat, by omega⟩
        have hi : i < moreL.length := by
          show i < 7
          omega
        refine ⟨moreL[i], ?_, List.getElem_mem hi⟩
        rw [ei]
        exact atI_nat (by rw [List.getElem?_map, List.getElem?_eq_getElem hi]; rfl)
      obtain ⟨za, zl⟩ := more_ok hz
      have l1 : (("\n" : String) : Str).length = 1 := by decide +kernel
      refine ⟨_, rfl, _, rfl, _, rfl, _, rfl, q, _, rfl, .inl (SqL.of gq), _, _, rfl, rfl, (by show (0 : Int) < 7; decide), q, _, _, V.str z, rfl, rfl, SqL.of gq, ez, _, _, rfl, rfl, by omega, _, _, rfl, rfl, ?_, ⟨v1, v2, _, text, way, at', _, v7, v8, rfl, sq.seq hS0, asc_app (asc_app og.asc za) (asc_iff.mpr (by decide +kernel)), ?_, og, fun y => absurd (.inr cw) y, a0, a1, k0⟩⟩
      · rw [Str.length_append, l1]
        omega
      · rw [Str.length_append, Str.length_append, l1]
        omega
    · exact ⟨v1, v2, text, orig, way, at', v6, v7, v8, rfl, hS0, ha, hl, og, fun y => he fun z => y (.inl z), a0, a1, k0⟩
  case p3 =>
    obtain ⟨v1, v2, text, orig, way, at', v6, v7, v8, rfl, hS0, ha, hl, og, he, a0, a1, k0⟩ := h0
    refine ⟨_, rfl, rfl, _, rfl, ite2 (fun c => ?_) (fun c => ?_)⟩
    · cases he (by have := V.int.inj (of_decide_eq_true c); omega)
      have s64 : (400000 : Nat) ≤ sizeLine := by decide
      have m0 := Int.emod_nonneg at' (show (2 : Int) ≠ 0 by decide)
      have m1 := Int.emod_lt_of_pos at' (show (0 : Int) < 2 by decide)
      obtain ⟨k, r, ek⟩ : ∃ k r, Builtin.Str.occurrences text nlS 0 text.length 1 = k :: r := by
        have h1 := PySem.StrLaws.found_one text 10
        rw [decide_eq_true og.nl] at h1
        cases h2 : Builtin.Str.occurrences text nlS 0 text.length 1 with
        | nil =>
          rw [show (⟨#[10]⟩ : Str) = nlS from rfl, h2] at h1
          cases h1
        | cons k r => exact ⟨k, r, rfl⟩
      obtain ⟨sa, sl⟩ := sl_ok (z := text) (some (k : Int)) none og.asc
      have tl := og.len
      have fin : ∀ m : Nat, m < 10 ^ 42 → Asc ((("worth " : String) : Str) ++ tx m ++ PySem.Txt.slice text (some (k : Int)) none) ∧ ((("worth " : String) : Str) ++ tx m ++ PySem.Txt.slice text (some (k : Int)) none).length ≤ 300000 := fun m hm => by
        have := tx_len (k := 41) hm
        refine ⟨asc_app (asc_app (asc_iff.mpr (by decide +kernel)) (asc_iff.mpr fun c hc => by have := tx_dig m c hc; omega)) sa, ?_⟩
        rw [Str.length_append, Str.length_append, show (("worth " : String) : Str).length = 6 by decide +kernel]
        omega
      refine ⟨_, _, rfl, rfl, ⟨by decide, by decide, by decide⟩, _, _, rfl, rfl, ⟨by decide, by decide, by decide⟩, (by show 2 ≤ sizeLine; decide), fun q hq => ?_⟩
      have sq := same_new hq (.lst [V.int ((10 : Int) ^ (39 : Int).toNat), V.int ((10 : Int) ^ (40 : Int).toNat)])
      obtain ⟨N, eN, hN⟩ : ∃ N : Nat, atI [V.int ((10 : Int) ^ (39 : Int).toNat), V.int ((10 : Int) ^ (40 : Int).toNat)] (at' % 2) = some (V.int (N : Int)) ∧ N < 10 ^ 41 := by
        rcases (show at' % 2 = 0 ∨ at' % 2 = 1 by omega) with z | z
        · rw [z]
          exact ⟨10 ^ 39, rfl, by decide⟩
        · rw [z]
          exact ⟨10 ^ 40, rfl, by decide⟩
      refine ⟨_, rfl, _, _, rfl, rfl, (by show (0 : Int) < 2; decide), q, _, _, V.int (N : Int), rfl, rfl, SqL.of upd_same, eN, _, rfl, _, _, rfl, rfl, _, rfl, ?_⟩
      obtain ⟨m, em, hm⟩ : ∃ m : Nat, (N : Int) + at' = (m : Int) ∧ m < 10 ^ 42 := ⟨N + at'.toNat, by omega, by
        have : (10 : Nat) ^ 41 + 1000003 < 10 ^ 42 := by decide
        omega⟩
      rw [em]
      obtain ⟨f1', f2'⟩ := fin m hm
      have l2 := tx_len (k := 41) hm
      refine ⟨log_42 hm, _, _, rfl, rfl, ?_, ?_⟩
      · show _ + (tx m).length ≤ _
        rw [show (("worth " : String) : Str).length = 6 by decide +kernel]
        omega
      refine ⟨_, rfl, _, rfl, rfl, text, nlS, k, r, rfl, rfl, ek, ?_⟩
      refine ⟨_, rfl, text, rfl, by omega, _, _, rfl, rfl, ?_, ⟨v1, v2, _, text, way, at', v6, v7, v8, rfl, sq.seq hS0, f1', f2', og, fun z => absurd True.intro z, a0, a1, k0⟩⟩
      rw [← Str.length_append]
      exact Nat.le_trans f2' (by omega)
    · exact ⟨v1, v2, text, orig, way, at', v6, v7, v8, rfl, hS0, ha, hl, og, fun z => absurd True.intro z, a0, a1, k0⟩
  case p4 =>
    obtain ⟨v1, v2, text, orig, way, at', v6, v7, v8, rfl, hS0, ha, hl, og, he, a0, a1, k0⟩ := h0
    refine ⟨_, rfl, text, _, rfl, hl, ha, rfl, fun j H1 h1 h2 h3 s1 => ?_, fun al v H1 s1 t1 => ?_⟩
    · refine ⟨_, rfl, text, _, rfl, hl, ha, rfl, fun j' g1 g2 g3 t H2 s2 ht => ?_, fun al v t H2 s2 t2 ht => ?_⟩
      · have ej : j' = j := by
          rcases Nat.lt_trichotomy j' j with z | z | z
          · rw [h2 j' z] at g3
            cases g3
          · exact z
          · rw [g2 j z] at h3
            cases h3
        subst ej
        refine ⟨_, rfl, _, _, _, _, _, rfl, TyOf.int _, Or.inl ⟨_, rfl, rfl⟩, kit_iI K, _, rfl, iteT ?_⟩
        refine ⟨_, rfl, t, _, 2, _, rfl, rfl, SqT.of ht, a32, _, rfl, iteT ?_⟩
        refine ⟨_, rfl, t, _, 1, _, rfl, rfl, SqT.of ht, a31, _, rfl, _, rfl, iteT ?_⟩
        refine ⟨_, rfl, t, _, 1, _, rfl, rfl, SqT.of ht, a31, _, rfl, rfl, ?_⟩
        have e : V.int ((j' : Int) + 1) = V.int ((j' + 1 : Nat) : Int) := rfl
        rw [decide_eq_true e]
        exact k0 H2
      · have := al j h1
        rw [h3] at this
        cases this
    · refine ⟨_, rfl, text, _, rfl, hl, ha, rfl, fun j' g1 g2 g3 t H2 s2 ht => ?_, fun _ u t H2 s2 t2 ht => ?_⟩
      · rw [al j' g1] at g3
        cases g3
      · have t1' := t1.mono s2
        obtain ⟨td, pl, ys, rfl, htd, hpl, hP⟩ := t1'.is
        refine ⟨_, rfl, _, _, _, _, _, rfl, TyOf.tup htd, Or.inl ⟨_, rfl, rfl⟩, kit_tI K, _, rfl, iteF ?_⟩
        refine ⟨_, rfl, t, _, 1, _, rfl, rfl, SqT.of ht, a31, rfl, _, rfl, iteT ?_⟩
        refine ⟨_, rfl, t, _, 0, _, rfl, rfl, SqT.of ht, a30, _, rfl, u, _, _, _, _, rfl, t2, t1', k0 H2⟩
  have e40 : (10 : Int) ^ (30 : Int).toNat = ((10 ^ 30 : Nat) : Int) := by decide
  have e2 : (1 : Int) * 2 ^ (40 : Int).toNat = ((2 ^ 40 : Nat) : Int) := by decide
  refine ⟨_, rfl, a, 1, ns, rfl, hS, _, _, rfl, rfl, ⟨by decide, by decide, by decide⟩, _, _, rfl, rfl, (by show (0 : Int) < 10 ^ (30 : Int).toNat; decide), _, _, rfl, rfl, .inr ⟨by decide, by decide⟩, ?_⟩
  refine ⟨_, rfl, _, rfl, _, _, rfl, rfl, (by show (0 : Int) ≤ 19; decide), _, _, rfl, rfl, _, _, rfl, rfl, ⟨by decide, by decide, by decide⟩, _, _, rfl, rfl, (by show (0 : Int) < 1 * 2 ^ (40 : Int).toNat; decide), ?_⟩
  have w0 := Int.emod_nonneg (cellD ns 1) (show (10 : Int) ^ (30 : Int).toNat ≠ 0 by decide)
  have w1 := Int.emod_lt_of_pos (cellD ns 1) (show (0 : Int) < (10 : Int) ^ (30 : Int).toNat by decide)
  obtain ⟨c, ec⟩ : ∃ c : Nat, cellD ns 1 % (10 : Int) ^ (30 : Int).toNat = (c : Int) := ⟨(cellD ns 1 % (10 : Int) ^ (30 : Int).toNat).toNat, by omega⟩
  rw [ec, e40] at w1
  have hc : c < 10 ^ 40 := by
    have : (10 : Nat) ^ 30 < 10 ^ 40 := by decide
    omega
  obtain ⟨xx, exx⟩ : ∃ xx : Int, Builtin.bitXor (cellD ns 1 % (10 : Int) ^ (30 : Int).toNat * 2654435761) (cellD ns 1 % (10 : Int) ^ (30 : Int).toNat * 2654435761 / 2 ^ (19 : Int).toNat) = xx := ⟨_, rfl⟩
  simp only [exx]
  have u0 := Int.emod_nonneg xx (show (1 : Int) * 2 ^ (40 : Int).toNat ≠ 0 by decide)
  have u1 := Int.emod_lt_of_pos xx (show (0 : Int) < (1 : Int) * 2 ^ (40 : Int).toNat by decide)
  obtain ⟨l, el⟩ : ∃ l : Nat, xx % ((1 : Int) * 2 ^ (40 : Int).toNat) = (l : Int) := ⟨(xx % ((1 : Int) * 2 ^ (40 : Int).toNat)).toNat, by omega⟩
  rw [el, e2] at u1
  have hl : l < 2 ^ 40 := by omega
  simp only [el]
  refine ⟨_, rfl, a, 1, ns, rfl, hS, _, _, rfl, rfl, ⟨by decide, by decide, by decide⟩, _, _, rfl, rfl, (by show (0 : Int) < 10 ^ (30 : Int).toNat; decide), ?_⟩
  simp only [ec]
  refine ⟨_, rfl, _, rfl, a, ns, rfl, hS, h63, fun r ys ps H1 s1 hr1 hP1 ok few => ?_⟩
  refine ⟨c, l, r, ys, ps, rfl, SqL.of hr1, hP1, ok, hc, hl, ?_⟩
  have og := shown_og ok few hc hl
  generalize shownT c l ps = orig at og
  have tl := og.len
  have hS1 := s1.seq hS
  refine ⟨_, rfl, a, 0, ns, rfl, hS1, _, _, rfl, rfl, (by show (0 : Int) < 10; decide), ?_⟩
  refine ⟨_, rfl, a, 2, ns, rfl, hS1, _, _, rfl, rfl, (by show (0 : Int) < 1000003; decide), ?_⟩
  have a0 := Int.emod_nonneg (cellD ns 2) (show (1000003 : Int) ≠ 0 by decide)
  have a1 := Int.emod_lt_of_pos (cellD ns 2) (show (0 : Int) < 1000003 by decide)
  refine ⟨_, rfl, _, _, rfl, rfl, _, rfl, ite2 (fun c1 => ?_) (fun c1 => ?_)⟩
  · refine ⟨_, rfl, _, _, rfl, rfl, _, rfl, ite2 (fun c2 => ?_) (fun c2 => ?_)⟩
    · have c1' : 1 ≤ cellD ns 0 % 10 := of_decide_eq_true c1
      have c2' : cellD ns 0 % 10 ≤ 4 := of_decide_eq_true c2
      exact ⟨_, rfl, _, rfl, _, rfl, _, rfl, a, 3, ns, rfl, hS1, orig, cellD ns 0 % 10, cellD ns 2 % 1000003, _, rfl, og.len, og.ne, og.asc, fun z zl za => ⟨_, _, z, orig, cellD ns 0 % 10, cellD ns 2 % 1000003, _, _, _, rfl, hS1, za, zl, og, fun y => absurd ⟨c1', c2'⟩ y, a0, a1, kk⟩⟩
    · exact ⟨_, _, orig, orig, cellD ns 0 % 10, cellD ns 2 % 1000003, _, _, _, rfl, hS1, og.asc, by omega, og, fun _ => rfl, a0, a1, kk⟩
  · exact iteF ⟨_, _, orig, orig, cellD ns 0 % 10, cellD ns 2 % 1000003, _, _, _, rfl, hS1, og.asc, by omega, og, fun _ => rfl, a0, a1, kk⟩
end

end K60

namespace K60
open PySem L2 PyProof.Rows
def ercB (K : PySem.W.Frag) (D : Addr) : Bool := PySem.W.findIn K (.ref D) "__getattribute__" == some (some (.builtin "BaseException.__getattribute__")) && PySem.W.findIn K (.ref D) "__getattr__" == some none && PySem.W.mroIn K D (.type "BaseException") == some true && PySem.W.hasDictIn K D
  && PySem.W.findIn K (.ref D) "__class__" == some (some (.builtin "object.__class__")) && PySem.W.specialIn K (.builtin "object.__class__") "__get__" == some (some (.builtin "getset_descriptor.__get__")) && PySem.W.takesIn K (.builtin "object.__class__") == some true && PySem.W.mroIn K D (.type "object") == some true
theorem erc_of {K : PySem.W.Frag} {D : Addr} (h : ercB K D = true) : ErC K D := by
  unfold ercB at h
  simp only [Bool.and_eq_true, beq_iff_eq] at h
  obtain ⟨⟨⟨⟨⟨⟨⟨a, b⟩, c⟩, d⟩, e⟩, f⟩, g⟩, i⟩ := h
  exact ⟨a, b, c, d, e, f, g, i⟩
def ersB (K : PySem.W.Frag) (C fI : Addr) : Bool := excInI K C fI && PySem.W.findIn K (.ref C) "__setattr__" == some (some (.builtin "object.__setattr__")) && PySem.W.findIn K (.ref C) "at" == some none && PySem.W.hasDictIn K C
theorem ers_of {K : PySem.W.Frag} {C fI : Addr} (h : ersB K C fI = true) : ErS K C fI "at" := by
  unfold ersB at h
  simp only [Bool.and_eq_true, beq_iff_eq] at h
  obtain ⟨⟨⟨a, b⟩, c⟩, d⟩ := h
  exact ⟨a, b, c, d⟩
def nlB (K : PySem.W.Frag) (NL FE : Addr) : Bool := ercB K NL && PySem.W.findIn K (.ref NL) "at" == some none && PySem.W.mroIn K NL (.ref NL) == some true && PySem.W.kitOne K (.ref NL) (.ref FE) == some true && PySem.W.kitOne K (.ref NL) (.type "ValueError") == some true
theorem nl_of {K : PySem.W.Frag} {mg : Str → Option Value} {NL FE : Addr} (h : nlB K NL FE = true) : ErF K mg NL FE := by
  unfold nlB at h
  simp only [Bool.and_eq_true, beq_iff_eq] at h
  obtain ⟨⟨⟨⟨a, b⟩, c⟩, d⟩, e⟩ := h
  exact ⟨erc_of a, b, c, d, e⟩
theorem all_mk {l : PySem.W.OpenLaw} {w : World} {K : PySem.W.Frag} {h : Heap} {mg : Str → Option Value} {fa C_FloorError C_BadText f_BadText___init f_mask_of f_number_of f_numbers_behind f_right f_row_at f_set_told f_worth_told f_down_told f_hill_told f_taken f_law_cell f_law_whole f_law_shown f_law_triple f_law_number f_law_row f_law_set f_law_read f_law_paper f_law_sign_spoiled f_law_row_spoiled f_law_told f_law : Addr} (X : K.In h) (G : h.Ns mainGlobals mg) (hfa : mg "law" = some (.ref fa))
    {od_BadText___init an_BadText___init od_mask_of an_mask_of od_number_of an_number_of od_numbers_behind an_numbers_behind od_right an_right od_row_at an_row_at od_set_told an_set_told od_worth_told an_worth_told od_down_told an_down_told od_hill_told an_hill_told od_taken an_taken od_law_cell an_law_cell od_law_whole an_law_whole od_law_shown an_law_shown od_law_triple an_law_triple od_law_number an_law_number od_law_row an_law_row od_law_set an_law_set od_law_read an_law_read od_law_paper an_law_paper od_law_sign_spoiled an_law_sign_spoiled od_law_row_spoiled an_law_row_spoiled od_law_told an_law_told od_law an_law : Option Addr} {sl_BadText___init sl_mask_of sl_number_of sl_numbers_behind sl_right sl_row_at sl_set_told sl_worth_told sl_down_told sl_hill_told sl_taken sl_law_cell sl_law_whole sl_law_shown sl_law_triple sl_law_number sl_law_row sl_law_set sl_law_read sl_law_paper sl_law_sign_spoiled sl_law_row_spoiled sl_law_told sl_law : Array (Option Value)} {oc_BadText___init kV_BadText___init dc_BadText___init pm_BadText___init cd_BadText___init ct_BadText___init oc_mask_of kV_mask_of dc_mask_of pm_mask_of cd_mask_of ct_mask_of oc_number_of kV_number_of dc_number_of pm_number_of cd_number_of ct_number_of oc_numbers_behind kV_numbers_behind dc_numbers_behind pm_numbers_behind cd_numbers_behind ct_numbers_behind oc_right kV_right dc_right pm_right cd_right ct_right oc_row_at kV_row_at dc_row_at pm_row_at cd_row_at ct_row_at oc_set_told kV_set_told dc_set_told pm_set_told cd_set_told ct_set_told oc_worth_told kV_worth_told dc_worth_told pm_worth_told cd_worth_told ct_worth_told oc_down_told kV_down_told dc_down_told pm_down_told cd_down_told ct_down_told oc_hill_told kV_hill_told dc_hill_told pm_hill_told cd_hill_told ct_hill_told oc_taken kV_taken dc_taken pm_taken cd_taken ct_taken oc_law_cell kV_law_cell dc_law_cell pm_law_cell cd_law_cell ct_law_cell oc_law_whole kV_law_whole dc_law_whole pm_law_whole cd_law_whole ct_law_whole oc_law_shown kV_law_shown dc_law_shown pm_law_shown cd_law_shown ct_law_shown oc_law_triple kV_law_triple dc_law_triple pm_law_triple cd_law_triple ct_law_triple oc_law_number kV_law_number dc_law_number pm_law_number cd_law_number ct_law_number oc_law_row kV_law_row dc_law_row pm_law_row cd_law_row ct_law_row oc_law_set kV_law_set dc_law_set pm_law_set cd_law_set ct_law_set oc_law_read kV_law_read dc_law_read pm_law_read cd_law_read ct_law_read oc_law_paper kV_law_paper dc_law_paper pm_law_paper cd_law_paper ct_law_paper oc_law_sign_spoiled kV_law_sign_spoiled dc_law_sign_spoiled pm_law_sign_spoiled cd_law_sign_spoiled ct_law_sign_spoiled oc_law_row_spoiled kV_law_row_spoiled dc_law_row_spoiled pm_law_row_spoiled cd_law_row_spoiled ct_law_row_spoiled oc_law_told kV_law_told dc_law_told pm_law_told cd_law_told ct_law_told oc_law kV_law dc_law pm_law cd_law ct_law : Value}
    {ti_gF ti_gL : Tok}
    (aC_FloorError : PySem.W.nsIn K mainGlobals "FloorError" = some (some (.ref C_FloorError)))
    (aC_BadText : PySem.W.nsIn K mainGlobals "BadText" = some (some (.ref C_BadText)))
    (me_BadText_init : PySem.W.findIn K (.ref C_BadText) "__init__" = some (some (.ref f_BadText___init)))
    (l_BadText___init : K.lookup f_BadText___init = some ⟨oc_BadText___init, od_BadText___init, .func (PySem.W.fnOf "__init__" "BadText.__init__" (defArgs s_BadText___init) (defBody s_BadText___init) (defScope s_BadText___init) .none kV_BadText___init dc_BadText___init pm_BadText___init an_BadText___init cd_BadText___init ct_BadText___init), sl_BadText___init⟩)
    (c_BadText___init : PySem.W.codeIn K cd_BadText___init "BadText.__init__" = true)
    (k_BadText___init : PySem.W.keepIn K (.ref f_BadText___init) = true)
    (i_BadText___init : PySem.W.isFn K (.ref f_BadText___init) = true)
    (a_mask_of : PySem.W.nsIn K mainGlobals "mask_of" = some (some (.ref f_mask_of)))
    (l_mask_of : K.lookup f_mask_of = some ⟨oc_mask_of, od_mask_of, .func (PySem.W.fnOf "mask_of" "mask_of" (defArgs s_mask_of) (defBody s_mask_of) (defScope s_mask_of) .none kV_mask_of dc_mask_of pm_mask_of an_mask_of cd_mask_of ct_mask_of), sl_mask_of⟩)
    (c_mask_of : PySem.W.codeIn K cd_mask_of "mask_of" = true)
    (k_mask_of : PySem.W.keepIn K (.ref f_mask_of) = true)
    (a_number_of : PySem.W.nsIn K mainGlobals "number_of" = some (some (.ref f_number_of)))
    (l_number_of : K.lookup f_number_of = some ⟨oc_number_of, od_number_of, .func (PySem.W.fnOf "number_of" "number_of" (defArgs s_number_of) (defBody s_number_of) (defScope s_number_of) .none kV_number_of dc_number_of pm_number_of an_number_of cd_number_of ct_number_of), sl_number_of⟩)
    (c_number_of : PySem.W.codeIn K cd_number_of "number_of" = true)
    (k_number_of : PySem.W.keepIn K (.ref f_number_of) = true)
    (a_numbers_behind : PySem.W.nsIn K mainGlobals "numbers_behind" = some (some (.ref f_numbers_behind)))
    (l_numbers_behind : K.lookup f_numbers_behind = some ⟨oc_numbers_behind, od_numbers_behind, .func (PySem.W.fnOf "numbers_behind" "numbers_behind" (defArgs s_numbers_behind) (defBody s_numbers_behind) (defScope s_numbers_behind) .none kV_numbers_behind dc_numbers_behind pm_numbers_behind an_numbers_behind cd_numbers_behind ct_numbers_behind), sl_numbers_behind⟩)
    (c_numbers_behind : PySem.W.codeIn K cd_numbers_behind "numbers_behind" = true)
    (k_numbers_behind : PySem.W.keepIn K (.ref f_numbers_behind) = true)
    (a_right : PySem.W.nsIn K mainGlobals "right" = some (some (.ref f_right)))
    (l_right : K.lookup f_right = some ⟨oc_right, od_right, .func (PySem.W.fnOf "right" "right" (defArgs s_right) (defBody s_right) (defScope s_right) .none kV_right dc_right pm_right an_right cd_right ct_right), sl_right⟩)
    (c_right : PySem.W.codeIn K cd_right "right" = true)
    (k_right : PySem.W.keepIn K (.ref f_right) = true)
    (a_row_at : PySem.W.nsIn K mainGlobals "row_at" = some (some (.ref f_row_at)))
    (l_row_at : K.lookup f_row_at = some ⟨oc_row_at, od_row_at, .func (PySem.W.fnOf "row_at" "row_at" (defArgs s_row_at) (defBody s_row_at) (defScope s_row_at) .none kV_row_at dc_row_at pm_row_at an_row_at cd_row_at ct_row_at), sl_row_at⟩)
    (c_row_at : PySem.W.codeIn K cd_row_at "row_at" = true)
    (k_row_at : PySem.W.keepIn K (.ref f_row_at) = true)
    (a_set_told : PySem.W.nsIn K mainGlobals "set_told" = some (some (.ref f_set_told)))
    (l_set_told : K.lookup f_set_told = some ⟨oc_set_told, od_set_told, .func (PySem.W.fnOf "set_told" "set_told" (defArgs s_set_told) (defBody s_set_told) (defScope s_set_told) .none kV_set_told dc_set_told pm_set_told an_set_told cd_set_told ct_set_told), sl_set_told⟩)
    (c_set_told : PySem.W.codeIn K cd_set_told "set_told" = true)
    (k_set_told : PySem.W.keepIn K (.ref f_set_told) = true)
    (a_worth_told : PySem.W.nsIn K mainGlobals "worth_told" = some (some (.ref f_worth_told)))
    (l_worth_told : K.lookup f_worth_told = some ⟨oc_worth_told, od_worth_told, .func (PySem.W.fnOf "worth_told" "worth_told" (defArgs s_worth_told) (defBody s_worth_told) (defScope s_worth_told) .none kV_worth_told dc_worth_told pm_worth_told an_worth_told cd_worth_told ct_worth_told), sl_worth_told⟩)
    (c_worth_told : PySem.W.codeIn K cd_worth_told "worth_told" = true)
    (k_worth_told : PySem.W.keepIn K (.ref f_worth_told) = true)
    (a_down_told : PySem.W.nsIn K mainGlobals "down_told" = some (some (.ref f_down_told)))
    (l_down_told : K.lookup f_down_told = some ⟨oc_down_told, od_down_told, .func (PySem.W.fnOf "down_told" "down_told" (defArgs s_down_told) (defBody s_down_told) (defScope s_down_told) .none kV_down_told dc_down_told pm_down_told an_down_told cd_down_told ct_down_told), sl_down_told⟩)
    (c_down_told : PySem.W.codeIn K cd_down_told "down_told" = true)
    (k_down_told : PySem.W.keepIn K (.ref f_down_told) = true)
    (a_hill_told : PySem.W.nsIn K mainGlobals "hill_told" = some (some (.ref f_hill_told)))
    (l_hill_told : K.lookup f_hill_told = some ⟨oc_hill_told, od_hill_told, .func (PySem.W.fnOf "hill_told" "hill_told" (defArgs s_hill_told) (defBody s_hill_told) (defScope s_hill_told) .none kV_hill_told dc_hill_told pm_hill_told an_hill_told cd_hill_told ct_hill_told), sl_hill_told⟩)
    (c_hill_told : PySem.W.codeIn K cd_hill_told "hill_told" = true)
    (k_hill_told : PySem.W.keepIn K (.ref f_hill_told) = true)
    (a_taken : PySem.W.nsIn K mainGlobals "taken" = some (some (.ref f_taken)))
    (l_taken : K.lookup f_taken = some ⟨oc_taken, od_taken, .func (PySem.W.fnOf "taken" "taken" (defArgs s_taken) (defBody s_taken) (defScope s_taken) .none kV_taken dc_taken pm_taken an_taken cd_taken ct_taken), sl_taken⟩)
    (c_taken : PySem.W.codeIn K cd_taken "taken" = true)
    (k_taken : PySem.W.keepIn K (.ref f_taken) = true)
    (a_law_cell : PySem.W.nsIn K mainGlobals "_law_cell" = some (some (.ref f_law_cell)))
    (l_law_cell : K.lookup f_law_cell = some ⟨oc_law_cell, od_law_cell, .func (PySem.W.fnOf "_law_cell" "_law_cell" (defArgs s_law_cell) (defBody s_law_cell) (defScope s_law_cell) .none kV_law_cell dc_law_cell pm_law_cell an_law_cell cd_law_cell ct_law_cell), sl_law_cell⟩)
    (c_law_cell : PySem.W.codeIn K cd_law_cell "_law_cell" = true)
    (k_law_cell : PySem.W.keepIn K (.ref f_law_cell) = true)
    (a_law_whole : PySem.W.nsIn K mainGlobals "_law_whole" = some (some (.ref f_law_whole)))
    (l_law_whole : K.lookup f_law_whole = some ⟨oc_law_whole, od_law_whole, .func (PySem.W.fnOf "_law_whole" "_law_whole" (defArgs s_law_whole) (defBody s_law_whole) (defScope s_law_whole) .none kV_law_whole dc_law_whole pm_law_whole an_law_whole cd_law_whole ct_law_whole), sl_law_whole⟩)
    (c_law_whole : PySem.W.codeIn K cd_law_whole "_law_whole" = true)
    (k_law_whole : PySem.W.keepIn K (.ref f_law_whole) = true)
    (a_law_shown : PySem.W.nsIn K mainGlobals "_law_shown" = some (some (.ref f_law_shown)))
    (l_law_shown : K.lookup f_law_shown = some ⟨oc_law_shown, od_law_shown, .func (PySem.W.fnOf "_law_shown" "_law_shown" (defArgs s_law_shown) (defBody s_law_shown) (defScope s_law_shown) .none kV_law_shown dc_law_shown pm_law_shown an_law_shown cd_law_shown ct_law_shown), sl_law_shown⟩)
    (c_law_shown : PySem.W.codeIn K cd_law_shown "_law_shown" = true)
    (k_law_shown : PySem.W.keepIn K (.ref f_law_shown) = true)
    (a_law_triple : PySem.W.nsIn K mainGlobals "_law_triple" = some (some (.ref f_law_triple)))
    (l_law_triple : K.lookup f_law_triple = some ⟨oc_law_triple, od_law_triple, .func (PySem.W.fnOf "_law_triple" "_law_triple" (defArgs s_law_triple) (defBody s_law_triple) (defScope s_law_triple) .none kV_law_triple dc_law_triple pm_law_triple an_law_triple cd_law_triple ct_law_triple), sl_law_triple⟩)
    (c_law_triple : PySem.W.codeIn K cd_law_triple "_law_triple" = true)
    (k_law_triple : PySem.W.keepIn K (.ref f_law_triple) = true)
    (a_law_number : PySem.W.nsIn K mainGlobals "_law_number" = some (some (.ref f_law_number)))
    (l_law_number : K.lookup f_law_number = some ⟨oc_law_number, od_law_number, .func (PySem.W.fnOf "_law_number" "_law_number" (defArgs s_law_number) (defBody s_law_number) (defScope s_law_number) .none kV_law_number dc_law_number pm_law_number an_law_number cd_law_number ct_law_number), sl_law_number⟩)
    (c_law_number : PySem.W.codeIn K cd_law_number "_law_number" = true)
    (k_law_number : PySem.W.keepIn K (.ref f_law_number) = true)
    (a_law_row : PySem.W.nsIn K mainGlobals "_law_row" = some (some (.ref f_law_row)))
    (l_law_row : K.lookup f_law_row = some ⟨oc_law_row, od_law_row, .func (PySem.W.fnOf "_law_row" "_law_row" (defArgs s_law_row) (defBody s_law_row) (defScope s_law_row) .none kV_law_row dc_law_row pm_law_row an_law_row cd_law_row ct_law_row), sl_law_row⟩)
    (c_law_row : PySem.W.codeIn K cd_law_row "_law_row" = true)
    (k_law_row : PySem.W.keepIn K (.ref f_law_row) = true)
    (a_law_set : PySem.W.nsIn K mainGlobals "_law_set" = some (some (.ref f_law_set)))
    (l_law_set : K.lookup f_law_set = some ⟨oc_law_set, od_law_set, .func (PySem.W.fnOf "_law_set" "_law_set" (defArgs s_law_set) (defBody s_law_set) (defScope s_law_set) .none kV_law_set dc_law_set pm_law_set an_law_set cd_law_set ct_law_set), sl_law_set⟩)
    (c_law_set : PySem.W.codeIn K cd_law_set "_law_set" = true)
    (k_law_set : PySem.W.keepIn K (.ref f_law_set) = true)
    (a_law_read : PySem.W.nsIn K mainGlobals "_law_read" = some (some (.ref f_law_read)))
    (l_law_read : K.lookup f_law_read = some ⟨oc_law_read, od_law_read, .func (PySem.W.fnOf "_law_read" "_law_read" (defArgs s_law_read) (defBody s_law_read) (defScope s_law_read) .none kV_law_read dc_law_read pm_law_read an_law_read cd_law_read ct_law_read), sl_law_read⟩)
    (c_law_read : PySem.W.codeIn K cd_law_read "_law_read" = true)
    (k_law_read : PySem.W.keepIn K (.ref f_law_read) = true)
    (a_law_paper : PySem.W.nsIn K mainGlobals "_law_paper" = some (some (.ref f_law_paper)))
    (l_law_paper : K.lookup f_law_paper = some ⟨oc_law_paper, od_law_paper, .func (PySem.W.fnOf "_law_paper" "_law_paper" (defArgs s_law_paper) (defBody s_law_paper) (defScope s_law_paper) .none kV_law_paper dc_law_paper pm_law_paper an_law_paper cd_law_paper ct_law_paper), sl_law_paper⟩)
    (c_law_paper : PySem.W.codeIn K cd_law_paper "_law_paper" = true)
    (k_law_paper : PySem.W.keepIn K (.ref f_law_paper) = true)
    (a_law_sign_spoiled : PySem.W.nsIn K mainGlobals "_law_sign_spoiled" = some (some (.ref f_law_sign_spoiled)))
    (l_law_sign_spoiled : K.lookup f_law_sign_spoiled = some ⟨oc_law_sign_spoiled, od_law_sign_spoiled, .func (PySem.W.fnOf "_law_sign_spoiled" "_law_sign_spoiled" (defArgs s_law_sign_spoiled) (defBody s_law_sign_spoiled) (defScope s_law_sign_spoiled) .none kV_law_sign_spoiled dc_law_sign_spoiled pm_law_sign_spoiled an_law_sign_spoiled cd_law_sign_spoiled ct_law_sign_spoiled), sl_law_sign_spoiled⟩)
    (c_law_sign_spoiled : PySem.W.codeIn K cd_law_sign_spoiled "_law_sign_spoiled" = true)
    (k_law_sign_spoiled : PySem.W.keepIn K (.ref f_law_sign_spoiled) = true)
    (a_law_row_spoiled : PySem.W.nsIn K mainGlobals "_law_row_spoiled" = some (some (.ref f_law_row_spoiled)))
    (l_law_row_spoiled : K.lookup f_law_row_spoiled = some ⟨oc_law_row_spoiled, od_law_row_spoiled, .func (PySem.W.fnOf "_law_row_spoiled" "_law_row_spoiled" (defArgs s_law_row_spoiled) (defBody s_law_row_spoiled) (defScope s_law_row_spoiled) .none kV_law_row_spoiled dc_law_row_spoiled pm_law_row_spoiled an_law_row_spoiled cd_law_row_spoiled ct_law_row_spoiled), sl_law_row_spoiled⟩)
    (c_law_row_spoiled : PySem.W.codeIn K cd_law_row_spoiled "_law_row_spoiled" = true)
    (k_law_row_spoiled : PySem.W.keepIn K (.ref f_law_row_spoiled) = true)
    (a_law_told : PySem.W.nsIn K mainGlobals "_law_told" = some (some (.ref f_law_told)))
    (l_law_told : K.lookup f_law_told = some ⟨oc_law_told, od_law_told, .func (PySem.W.fnOf "_law_told" "_law_told" (defArgs s_law_told) (defBody s_law_told) (defScope s_law_told) .none kV_law_told dc_law_told pm_law_told an_law_told cd_law_told ct_law_told), sl_law_told⟩)
    (c_law_told : PySem.W.codeIn K cd_law_told "_law_told" = true)
    (k_law_told : PySem.W.keepIn K (.ref f_law_told) = true)
    (a_law : PySem.W.nsIn K mainGlobals "law" = some (some (.ref f_law)))
    (l_law : K.lookup f_law = some ⟨oc_law, od_law, .func (PySem.W.fnOf "law" "law" (defArgs s_law) (defBody s_law) (defScope s_law) .none kV_law dc_law pm_law an_law cd_law ct_law), sl_law⟩)
    (c_law : PySem.W.codeIn K cd_law "law" = true)
    (k_law : PySem.W.keepIn K (.ref f_law) = true)
    (gi_gF : PySem.W.nsIn K mainGlobals "MOST_FIGURES" = some (some (.int 40 ti_gF)))
    (gi_gL : PySem.W.nsIn K mainGlobals "LAST_NUMBER" = some (some (.int 79 ti_gL)))
    (kb_ : nlB K C_BadText C_FloorError = true)
    (es2_ : ersB K C_BadText f_BadText___init = true)
    (z_len : PySem.W.nsIn K mainGlobals "len" = some none)
    (z_int : PySem.W.nsIn K mainGlobals "int" = some none)
    (z_str : PySem.W.nsIn K mainGlobals "str" = some none)
    (z_bool : PySem.W.nsIn K mainGlobals "bool" = some none)
    (z_list : PySem.W.nsIn K mainGlobals "list" = some none)
    (z_tuple : PySem.W.nsIn K mainGlobals "tuple" = some none)
    (z_range : PySem.W.nsIn K mainGlobals "range" = some none)
    (z_min : PySem.W.nsIn K mainGlobals "min" = some none)
    (z_all : PySem.W.nsIn K mainGlobals "all" = some none)
    (z_zip : PySem.W.nsIn K mainGlobals "zip" = some none)
    (z_enumerate : PySem.W.nsIn K mainGlobals "enumerate" = some none)
    (z_isinstance : PySem.W.nsIn K mainGlobals "isinstance" = some none)
    (z_max : PySem.W.nsIn K mainGlobals "max" = some none)
    (z_ValueError : PySem.W.nsIn K mainGlobals "ValueError" = some none)
    : ∃ fd : FuncData, (∀ (s : Shared) (v : Value), BindsTo s fd ⟨[v], []⟩ [("script", v)]) ∧ ∀ base : Heap, K.In base → base.Ns mainGlobals mg → FnOk l.prog w K mg base CX0 6 fa fd ["script"] (spLaw K) := by
  have e := hfa.symm.trans (PySem.W.mg_of X G a_law)
  cases e
  have F_BadText___init := fun_mk (st := s_BadText___init) l_BadText___init c_BadText___init k_BadText___init
  have b_BadText___init := F_BadText___init.binds (ps := ["self", "at"]) fun _ _ _ _ _ _ us hl => match us, hl with | [_, _], _ => rfl
  have F_mask_of := fun_mk (st := s_mask_of) l_mask_of c_mask_of k_mask_of
  have b_mask_of := F_mask_of.binds (ps := ["places"]) fun _ _ _ _ _ _ us hl => match us, hl with | [_], _ => rfl
  have F_number_of := fun_mk (st := s_number_of) l_number_of c_number_of k_number_of
  have b_number_of := F_number_of.binds (ps := ["word", "figures"]) fun _ _ _ _ _ _ us hl => match us, hl with | [_, _], _ => rfl
  have F_numbers_behind := fun_mk (st := s_numbers_behind) l_numbers_behind c_numbers_behind k_numbers_behind
  have b_numbers_behind := F_numbers_behind.binds (ps := ["first", "row", "figures"]) fun _ _ _ _ _ _ us hl => match us, hl with | [_, _, _], _ => rfl
  have F_right := fun_mk (st := s_right) l_right c_right k_right
  have b_right := F_right.binds (ps := ["told", "at"]) fun _ _ _ _ _ _ us hl => match us, hl with | [_, _], _ => rfl
  have F_row_at := fun_mk (st := s_row_at) l_row_at c_row_at k_row_at
  have b_row_at := F_row_at.binds (ps := ["rows", "number"]) fun _ _ _ _ _ _ us hl => match us, hl with | [_, _], _ => rfl
  have F_set_told := fun_mk (st := s_set_told) l_set_told c_set_told k_set_told
  have b_set_told := F_set_told.binds (ps := ["numbers"]) fun _ _ _ _ _ _ us hl => match us, hl with | [_], _ => rfl
  have F_worth_told := fun_mk (st := s_worth_told) l_worth_told c_worth_told k_worth_told
  have b_worth_told := F_worth_told.binds (ps := ["row"]) fun _ _ _ _ _ _ us hl => match us, hl with | [_], _ => rfl
  have F_down_told := fun_mk (st := s_down_told) l_down_told c_down_told k_down_told
  have b_down_told := F_down_told.binds (ps := ["row"]) fun _ _ _ _ _ _ us hl => match us, hl with | [_], _ => rfl
  have F_hill_told := fun_mk (st := s_hill_told) l_hill_told c_hill_told k_hill_told
  have b_hill_told := F_hill_told.binds (ps := ["row"]) fun _ _ _ _ _ _ us hl => match us, hl with | [_], _ => rfl
  have F_taken := fun_mk (st := s_taken) l_taken c_taken k_taken
  have b_taken := F_taken.binds (ps := ["text"]) fun _ _ _ _ _ _ us hl => match us, hl with | [_], _ => rfl
  have F_law_cell := fun_mk (st := s_law_cell) l_law_cell c_law_cell k_law_cell
  have b_law_cell := F_law_cell.binds (ps := ["script", "k"]) fun _ _ _ _ _ _ us hl => match us, hl with | [_, _], _ => rfl
  have F_law_whole := fun_mk (st := s_law_whole) l_law_whole c_law_whole k_law_whole
  have b_law_whole := F_law_whole.binds (ps := ["found"]) fun _ _ _ _ _ _ us hl => match us, hl with | [_], _ => rfl
  have F_law_shown := fun_mk (st := s_law_shown) l_law_shown c_law_shown k_law_shown
  have b_law_shown := F_law_shown.binds (ps := ["cost", "laying", "paper"]) fun _ _ _ _ _ _ us hl => match us, hl with | [_, _, _], _ => rfl
  have F_law_triple := fun_mk (st := s_law_triple) l_law_triple c_law_triple k_law_triple
  have b_law_triple := F_law_triple.binds (ps := ["found", "due"]) fun _ _ _ _ _ _ us hl => match us, hl with | [_, _], _ => rfl
  have F_law_number := fun_mk (st := s_law_number) l_law_number c_law_number k_law_number
  have b_law_number := F_law_number.binds (ps := ["word"]) fun _ _ _ _ _ _ us hl => match us, hl with | [_], _ => rfl
  have F_law_row := fun_mk (st := s_law_row) l_law_row c_law_row k_law_row
  have b_law_row := F_law_row.binds (ps := ["row", "first"]) fun _ _ _ _ _ _ us hl => match us, hl with | [_, _], _ => rfl
  have F_law_set := fun_mk (st := s_law_set) l_law_set c_law_set k_law_set
  have b_law_set := F_law_set.binds (ps := ["numbers"]) fun _ _ _ _ _ _ us hl => match us, hl with | [_], _ => rfl
  have F_law_read := fun_mk (st := s_law_read) l_law_read c_law_read k_law_read
  have b_law_read := F_law_read.binds (ps := ["text"]) fun _ _ _ _ _ _ us hl => match us, hl with | [_], _ => rfl
  have F_law_paper := fun_mk (st := s_law_paper) l_law_paper c_law_paper k_law_paper
  have b_law_paper := F_law_paper.binds (ps := ["script"]) fun _ _ _ _ _ _ us hl => match us, hl with | [_], _ => rfl
  have F_law_sign_spoiled := fun_mk (st := s_law_sign_spoiled) l_law_sign_spoiled c_law_sign_spoiled k_law_sign_spoiled
  have b_law_sign_spoiled := F_law_sign_spoiled.binds (ps := ["text", "way", "at", "cell"]) fun _ _ _ _ _ _ us hl => match us, hl with | [_, _, _, _], _ => rfl
  have F_law_row_spoiled := fun_mk (st := s_law_row_spoiled) l_law_row_spoiled c_law_row_spoiled k_law_row_spoiled
  have b_law_row_spoiled := F_law_row_spoiled.binds (ps := ["text", "way", "at"]) fun _ _ _ _ _ _ us hl => match us, hl with | [_, _, _], _ => rfl
  have F_law_told := fun_mk (st := s_law_told) l_law_told c_law_told k_law_told
  have b_law_told := F_law_told.binds (ps := ["text"]) fun _ _ _ _ _ _ us hl => match us, hl with | [_], _ => rfl
  have F_law := fun_mk (st := s_law) l_law c_law k_law
  refine ⟨PySem.W.fnOf "law" "law" (defArgs s_law) (defBody s_law) (defScope s_law) .none kV_law dc_law pm_law an_law cd_law ct_law, fun s v => .of_eq rfl, fun base _ _ => ?_⟩
  have m_mask_of := PySem.W.mg_of X G a_mask_of
  have m_number_of := PySem.W.mg_of X G a_number_of
  have m_numbers_behind := PySem.W.mg_of X G a_numbers_behind
  have m_right := PySem.W.mg_of X G a_right
  have m_row_at := PySem.W.mg_of X G a_row_at
  have m_set_told := PySem.W.mg_of X G a_set_told
  have m_worth_told := PySem.W.mg_of X G a_worth_told
  have m_down_told := PySem.W.mg_of X G a_down_told
  have m_hill_told := PySem.W.mg_of X G a_hill_told
  have m_taken := PySem.W.mg_of X G a_taken
  have m_law_cell := PySem.W.mg_of X G a_law_cell
  have m_law_whole := PySem.W.mg_of X G a_law_whole
  have m_law_shown := PySem.W.mg_of X G a_law_shown
  have m_law_triple := PySem.W.mg_of X G a_law_triple
  have m_law_number := PySem.W.mg_of X G a_law_number
  have m_law_row := PySem.W.mg_of X G a_law_row
  have m_law_set := PySem.W.mg_of X G a_law_set
  have m_law_read := PySem.W.mg_of X G a_law_read
  have m_law_paper := PySem.W.mg_of X G a_law_paper
  have m_law_sign_spoiled := PySem.W.mg_of X G a_law_sign_spoiled
  have m_law_row_spoiled := PySem.W.mg_of X G a_law_row_spoiled
  have m_law_told := PySem.W.mg_of X G a_law_told
  have m_law := PySem.W.mg_of X G a_law
  have m_FloorError := PySem.W.mg_of X G aC_FloorError
  have m_BadText := PySem.W.mg_of X G aC_BadText
  have gF := PySem.W.mg_of X G gi_gF
  have gL := PySem.W.mg_of X G gi_gL
  have n_len := PySem.W.mg_none_of X G z_len
  have n_int := PySem.W.mg_none_of X G z_int
  have n_str := PySem.W.mg_none_of X G z_str
  have n_bool := PySem.W.mg_none_of X G z_bool
  have n_list := PySem.W.mg_none_of X G z_list
  have n_tuple := PySem.W.mg_none_of X G z_tuple
  have n_range := PySem.W.mg_none_of X G z_range
  have n_min := PySem.W.mg_none_of X G z_min
  have n_all := PySem.W.mg_none_of X G z_all
  have n_zip := PySem.W.mg_none_of X G z_zip
  have n_enumerate := PySem.W.mg_none_of X G z_enumerate
  have n_isinstance := PySem.W.mg_none_of X G z_isinstance
  have n_max := PySem.W.mg_none_of X G z_max
  have n_ValueError := PySem.W.mg_none_of X G z_ValueError
  have T : Txt mg := ⟨n_len, n_int, n_str, n_bool, n_list, n_tuple, n_range, n_min, n_all, n_zip, n_enumerate, n_isinstance, n_max, ⟨_, gF⟩, ⟨_, gL⟩⟩
  have A2 : Cal l.prog w K mg base 1 "mask_of" _ (spMask K) f_mask_of _ := ⟨ok_mask F_mask_of, b_mask_of, m_mask_of, k_mask_of⟩
  have A4 : Cal l.prog w K mg base 1 "number_of" _ spNum f_number_of _ := ⟨ok_num F_number_of T, b_number_of, m_number_of, k_number_of⟩
  have A5 : Cal l.prog w K mg base 2 "numbers_behind" _ spBeh f_numbers_behind _ := ⟨ok_beh F_numbers_behind A4, b_numbers_behind, m_numbers_behind, k_numbers_behind⟩
  have ef : ErF K mg C_BadText C_FloorError := nl_of kb_
  have TE : TxtE mg C_FloorError := { T with n_ValueError := n_ValueError, g_FloorError := m_FloorError }
  have SN : OwnI l.prog w K mg base "BadText" C_BadText f_BadText___init _ := ⟨ers_of es2_, i_BadText___init, ok_bti F_BadText___init, b_BadText___init, m_BadText⟩
  have A6 : CalD l.prog w K mg base 3 "right" _ (spRightX C_BadText) f_right _ := ⟨ok_rightX F_right SN, b_right, m_right, k_right⟩
  have A7 : CalD l.prog w K mg base 3 "row_at" _ (spRowAtX K C_BadText) f_row_at _ := ⟨ok_rowatX F_row_at T SN, b_row_at, m_row_at, k_row_at⟩
  have A9 : Cal l.prog w K mg base 2 "set_told" _ (spSet K) f_set_told _ := ⟨ok_set F_set_told T A2, b_set_told, m_set_told, k_set_told⟩
  have B1 : Cal l.prog w K mg base 3 "worth_told" _ spWorthT f_worth_told _ := ⟨ok_worth F_worth_told T A5, b_worth_told, m_worth_told, k_worth_told⟩
  have B2 : Cal l.prog w K mg base 3 "down_told" _ spDownT f_down_told _ := ⟨ok_down F_down_told T A5 A9, b_down_told, m_down_told, k_down_told⟩
  have B3 : Cal l.prog w K mg base 3 "hill_told" _ spHillT f_hill_told _ := ⟨ok_hill F_hill_told T A5 A9, b_hill_told, m_hill_told, k_hill_told⟩
  have B4 : CalD l.prog w K mg base 4 "taken" _ (spTakenX C_BadText) f_taken _ := ⟨ok_takenX F_taken T A6 A7 B1 B2 B3 SN, b_taken, m_taken, k_taken⟩
  have C1 : Cal l.prog w K mg base 1 "_law_cell" _ (spCell K) f_law_cell _ := ⟨ok_cell F_law_cell T, b_law_cell, m_law_cell, k_law_cell⟩
  have C2 : Cal l.prog w K mg base 1 "_law_whole" _ spWhole f_law_whole _ := ⟨ok_whole F_law_whole T, b_law_whole, m_law_whole, k_law_whole⟩
  have C3 : Cal l.prog w K mg base 1 "_law_shown" _ (spLShown K) f_law_shown _ := ⟨ok_lshown F_law_shown T, b_law_shown, m_law_shown, k_law_shown⟩
  have C4 : Cal l.prog w K mg base 2 "_law_triple" _ spTriple f_law_triple _ := ⟨ok_triple F_law_triple T C2, b_law_triple, m_law_triple, k_law_triple⟩
  have C5 : Cal l.prog w K mg base 1 "_law_paper" _ (spPaper K) f_law_paper _ := ⟨ok_paper F_law_paper T, b_law_paper, m_law_paper, k_law_paper⟩
  have C6 : Cal l.prog w K mg base 1 "_law_number" _ spLNum f_law_number _ := ⟨ok_lnum F_law_number T, b_law_number, m_law_number, k_law_number⟩
  have C7 : Cal l.prog w K mg base 2 "_law_row" _ spLRow f_law_row _ := ⟨ok_lrow F_law_row C6, b_law_row, m_law_row, k_law_row⟩
  have C8 : Cal l.prog w K mg base 1 "_law_set" _ (spLSet K) f_law_set _ := ⟨ok_lset F_law_set T, b_law_set, m_law_set, k_law_set⟩
  have C9 : Cal l.prog w K mg base 3 "_law_read" _ spRead f_law_read _ := ⟨ok_read F_law_read T C7 C8, b_law_read, m_law_read, k_law_read⟩
  have D1 : Cal l.prog w K mg base 1 "_law_sign_spoiled" _ spSign f_law_sign_spoiled _ := ⟨ok_sign F_law_sign_spoiled T, b_law_sign_spoiled, m_law_sign_spoiled, k_law_sign_spoiled⟩
  have D2 : Cal l.prog w K mg base 1 "_law_row_spoiled" _ spRowSp f_law_row_spoiled _ := ⟨ok_rowsp F_law_row_spoiled T, b_law_row_spoiled, m_law_row_spoiled, k_law_row_spoiled⟩
  have D3 : Cal l.prog w K mg base 5 "_law_told" _ spTold f_law_told _ := ⟨ok_told F_law_told TE SN ef B4, b_law_told, m_law_told, k_law_told⟩
  exact ok_law F_law T C1 C5 C3 D1 D2 C9 D3 C2 C4
theorem walk {l : PySem.W.OpenLaw} {q : Program} {loose : List Str} {XP : (Str → Option Value) → Heap → Prop} {YP : World → Heap → Prop} {d : DefRec} {K : Params → PySem.W.Frag} (hn : l.most = some 63) (hdf : d.params.defaults = [])
    (hY : ∀ (w : World) (h : Heap), YP w h → (K w.params).In h)
    (F : ∀ (w : World) (mg : Str → Option Value) (fa : Addr) (h : Heap), (K w.params).In h → h.Ns mainGlobals mg → mg d.name = some (.ref fa) →
      ∃ fd : FuncData, (∀ (s : Shared) (u : Value), BindsTo s fd ⟨[u], []⟩ [("script", u)]) ∧ ∀ base : Heap, (K w.params).In base → base.Ns mainGlobals mg → FnOk l.prog w (K w.params) mg base CX0 6 fa fd ["script"] (spLaw (K w.params))) :
    PySem.W.WalkO q loose XP YP l.row.toRowW d [] (fun f vs => PySem.call f vs) :=
  L2.walk_of (n := 63) (k := 6) (x := "script") (CX := fun _ => CX0) (sp := fun w => spLaw (K w.params)) hn (by decide) hdf ⟨rfl, by decide, by decide⟩ hY F (fun _ _ a ns hl _ hS => ⟨a, ns, rfl, hS, hl, fun _ => rfl⟩) fun _ _ _ _ _ z => z
end K60


open PySem PySem.W PyProof.Rows
set_option maxRecDepth 100000 in
set_option maxHeartbeats 0 in
theorem PySem.Challenge.cw_spinfloor_k60_answers_read_holds : PySem.Challenge.rw_spinfloor_k60_answers_read.Holds := by
  w_on; o_law; k_head; (case hw => w_witness2)
  k_fill
  refine K60.walk (l := PySem.Challenge.rw_spinfloor_k60_answers_read) rfl rfl (fun w h Y => PySem.W.kIn_of Y) ?F
  case F =>
    intro w mg fa h KX G hmg
    refine' K60.all_mk KX G hmg ?aC_FloorError ?aC_BadText ?me_BadText_init ?l_BadText___init ?c_BadText___init ?k_BadText___init ?i_BadText___init ?a_mask_of ?l_mask_of ?c_mask_of ?k_mask_of ?a_number_of ?l_number_of ?c_number_of ?k_number_of ?a_numbers_behind ?l_numbers_behind ?c_numbers_behind ?k_numbers_behind ?a_right ?l_right ?c_right ?k_right ?a_row_at ?l_row_at ?c_row_at ?k_row_at ?a_set_told ?l_set_told ?c_set_told ?k_set_told ?a_worth_told ?l_worth_told ?c_worth_told ?k_worth_told ?a_down_told ?l_down_told ?c_down_told ?k_down_told ?a_hill_told ?l_hill_told ?c_hill_told ?k_hill_told ?a_taken ?l_taken ?c_taken ?k_taken ?a_law_cell ?l_law_cell ?c_law_cell ?k_law_cell ?a_law_whole ?l_law_whole ?c_law_whole ?k_law_whole ?a_law_shown ?l_law_shown ?c_law_shown ?k_law_shown ?a_law_triple ?l_law_triple ?c_law_triple ?k_law_triple ?a_law_number ?l_law_number ?c_law_number ?k_law_number ?a_law_row ?l_law_row ?c_law_row ?k_law_row ?a_law_set ?l_law_set ?c_law_set ?k_law_set ?a_law_read ?l_law_read ?c_law_read ?k_law_read ?a_law_paper ?l_law_paper ?c_law_paper ?k_law_paper ?a_law_sign_spoiled ?l_law_sign_spoiled ?c_law_sign_spoiled ?k_law_sign_spoiled ?a_law_row_spoiled ?l_law_row_spoiled ?c_law_row_spoiled ?k_law_row_spoiled ?a_law_told ?l_law_told ?c_law_told ?k_law_told ?a_law ?l_law ?c_law ?k_law ?gi_gF ?gi_gL ?kb_ ?es2_ ?z_len ?z_int ?z_str ?z_bool ?z_list ?z_tuple ?z_range ?z_min ?z_all ?z_zip ?z_enumerate ?z_isinstance ?z_max ?z_ValueError
    (case aC_FloorError => k_is)
    (case aC_BadText => k_is)
    (case me_BadText_init => k_is)
    (case l_BadText___init => k_is)
    (case c_BadText___init => k_is)
    (case k_BadText___init => k_is)
    (case i_BadText___init => k_is)
    (case a_mask_of => k_is)
    (case l_mask_of => k_is)
    (case c_mask_of => k_is)
    (case k_mask_of => k_is)
    (case a_number_of => k_is)
    (case l_number_of => k_is)
    (case c_number_of => k_is)
    (case k_number_of => k_is)
    (case a_numbers_behind => k_is)
    (case l_numbers_behind => k_is)
    (case c_numbers_behind => k_is)
    (case k_numbers_behind => k_is)
    (case a_right => k_is)
    (case l_right => k_is)
    (case c_right => k_is)
    (case k_right => k_is)
    (case a_row_at => k_is)
    (case l_row_at => k_is)
    (case c_row_at => k_is)
    (case k_row_at => k_is)
    (case a_set_told => k_is)
    (case l_set_told => k_is)
    (case c_set_told => k_is)
    (case k_set_told => k_is)
    (case a_worth_told => k_is)
    (case l_worth_told => k_is)
    (case c_worth_told => k_is)
    (case k_worth_told => k_is)
    (case a_down_told => k_is)
    (case l_down_told => k_is)
    (case c_down_told => k_is)
    (case k_down_told => k_is)
    (case a_hill_told => k_is)
    (case l_hill_told => k_is)
    (case c_hill_told => k_is)
    (case k_hill_told => k_is)
    (case a_taken => k_is)
    (case l_taken => k_is)
    (case c_taken => k_is)
    (case k_taken => k_is)
    (case a_law_cell => k_is)
    (case l_law_cell => k_is)
    (case c_law_cell => k_is)
    (case k_law_cell => k_is)
    (case a_law_whole => k_is)
    (case l_law_whole => k_is)
    (case c_law_whole => k_is)
    (case k_law_whole => k_is)
    (case a_law_shown => k_is)
    (case l_law_shown => k_is)
    (case c_law_shown => k_is)
    (case k_law_shown => k_is)
    (case a_law_triple => k_is)
    (case l_law_triple => k_is)
    (case c_law_triple => k_is)
    (case k_law_triple => k_is)
    (case a_law_number => k_is)
    (case l_law_number => k_is)
    (case c_law_number => k_is)
    (case k_law_number => k_is)
    (case a_law_row => k_is)
    (case l_law_row => k_is)
    (case c_law_row => k_is)
    (case k_law_row => k_is)
    (case a_law_set => k_is)
    (case l_law_set => k_is)
    (case c_law_set => k_is)
    (case k_law_set => k_is)
    (case a_law_read => k_is)
    (case l_law_read => k_is)
    (case c_law_read => k_is)
    (case k_law_read => k_is)
    (case a_law_paper => k_is)
    (case l_law_paper => k_is)
    (case c_law_paper => k_is)
    (case k_law_paper => k_is)
    (case a_law_sign_spoiled => k_is)
    (case l_law_sign_spoiled => k_is)
    (case c_law_sign_spoiled => k_is)
    (case k_law_sign_spoiled => k_is)
    (case a_law_row_spoiled => k_is)
    (case l_law_row_spoiled => k_is)
    (case c_law_row_spoiled => k_is)
    (case k_law_row_spoiled => k_is)
    (case a_law_told => k_is)
    (case l_law_told => k_is)
    (case c_law_told => k_is)
    (case k_law_told => k_is)
    (case a_law => k_is)
    (case l_law => k_is)
    (case c_law => k_is)
    (case k_law => k_is)
    (case gi_gF => k_is)
    (case gi_gL => k_is)
    (case kb_ => kernel_rfl)
    (case es2_ => kernel_rfl)
    (case z_len => k_is)
    (case z_int => k_is)
    (case z_str => k_is)
    (case z_bool => k_is)
    (case z_list => k_is)
    (case z_tuple => k_is)
    (case z_range => k_is)
    (case z_min => k_is)
    (case z_all => k_is)
    (case z_zip => k_is)
    (case z_enumerate => k_is)
    (case z_isinstance => k_is)
    (case z_max => k_is)
    (case z_ValueError => k_is)

