import PyProof.Rows.All
import Wide.All
import OpenK.AllK
import Wide.FinOn
import Lean
import PyProof.EqAt
import PyProof.EqKinds
import PyProof.TupleCall
import PyProof.NeData
import PyProof.P3In
import PySem.Challenge.RW_latebells_k14_turns
set_option Elab.async false
set_option linter.all false
set_option maxRecDepth 100000
/-! THE HAND LAYER, for ints, bools, texts, own classes, LISTS and tuples (index, slices, in, append, pop ..), calls, loops. Paste it whole ahead of your own text; what your proof does not reach may be deleted. -/
namespace L2
open PySem PySem.Spec PyProof.Rows

/-- a key: an int or a str -/
abbrev Key := Sum Int Str
def keyIs : Key → Value → Bool
  | .inl k, v => Value.isInt k v
  | .inr x, v => Value.isStrOf x v
def keyH (w : World) : Key → Int
  | .inl k => hashInt k
  | .inr x => hashStr w x
theorem keyIs_shape : ∀ {k : Key} {v : Value}, keyIs k v = true → (∃ i t, k = Sum.inl i ∧ v = Value.int i t) ∨ (∃ x t, k = Sum.inr x ∧ v = Value.str x t)
  | .inl i, v, h => by
    obtain ⟨t, e⟩ := Value.isInt_shape (k := i) (v := v) h
    exact .inl ⟨i, t, rfl, e⟩
  | .inr x, v, h => by
    obtain ⟨t, e⟩ := Value.isStrOf_shape (x := x) (v := v) h
    exact .inr ⟨x, t, rfl, e⟩
theorem keyIs_int (i : Int) (t : Tok) : keyIs (.inl i) (.int i t) = true := by simp [keyIs, Value.isInt]
theorem keyIs_str (x : Str) (t : Tok) : keyIs (.inr x) (.str x t) = true := by simp [keyIs, Value.isStrOf]
theorem key_ll (a b : Int) : decide ((Sum.inl a : Key) = Sum.inl b) = (a == b) := by
  by_cases e : a = b
  · subst e; simp
  · have h : ¬ (Sum.inl a : Key) = Sum.inl b := fun q => e (Sum.inl.inj q)
    rw [decide_eq_false h]
    exact (beq_eq_false_iff_ne.mpr e).symm
theorem key_rr (a b : Str) : decide ((Sum.inr a : Key) = Sum.inr b) = decide (a = b) := by
  by_cases e : a = b
  · subst e; simp
  · have h : ¬ (Sum.inr a : Key) = Sum.inr b := fun q => e (Sum.inr.inj q)
    rw [decide_eq_false h, decide_eq_false e]
theorem key_lr (a : Int) (b : Str) : decide ((Sum.inl a : Key) = Sum.inr b) = false := decide_eq_false (fun q => nomatch q)
theorem key_rl (a : Str) (b : Int) : decide ((Sum.inr a : Key) = Sum.inl b) = false := decide_eq_false (fun q => nomatch q)

def mixKind (prog : Program) (w : World) : PySem.KeyKind prog w Key where
  is := keyIs
  hash := keyH w
  inj := fun v a b ha hb => by
    rcases keyIs_shape ha with ⟨i, t, rfl, rfl⟩ | ⟨x, t, rfl, rfl⟩
    · rcases keyIs_shape hb with ⟨j, u, rfl, e⟩ | ⟨y, u, rfl, e⟩
      · injection e with e1 _; rw [e1]
      · exact nomatch e
    · rcases keyIs_shape hb with ⟨j, u, rfl, e⟩ | ⟨y, u, rfl, e⟩
      · exact nomatch e
      · injection e with e1 _; rw [e1]
  byValue := fun k v h => by
    rcases keyIs_shape h with ⟨i, t, rfl, rfl⟩ | ⟨x, t, rfl, rfl⟩ <;> rfl
  pyHash := fun hv h => by
    rcases keyIs_shape hv with ⟨i, t, rfl, rfl⟩ | ⟨x, t, rfl, rfl⟩
    · exact wpAny_pyHash_int h
    · exact wpAny_pyHash_str h
  eqBool := fun hu hv h => by
    rcases keyIs_shape hu with ⟨i, t, rfl, rfl⟩ | ⟨x, t, rfl, rfl⟩
    · rcases keyIs_shape hv with ⟨j, u, rfl, rfl⟩ | ⟨y, u, rfl, rfl⟩
      · rw [key_ll] at h; exact wpAny_eqBool_int h
      · rw [key_lr] at h; exact SeqAt.EqAt.int_str i t y u _ _ _ _ h
    · rcases keyIs_shape hv with ⟨j, u, rfl, rfl⟩ | ⟨y, u, rfl, rfl⟩
      · rw [key_rl] at h; exact SeqAt.EqAt.str_int x t j u _ _ _ _ h
      · rw [key_rr] at h; exact wpAny_eqBool_str h
  «strs» := fun k x t v h => by
    rcases keyIs_shape h with ⟨i, u, rfl, e⟩ | ⟨y, u, rfl, e⟩
    · exact nomatch e
    · injection e with e1 _
      subst e1
      cases v <;> rfl

theorem mixKind_int (prog : Program) (w : World) (i : Int) (t : Tok) : (mixKind prog w).is (.inl i) (.int i t) = true := keyIs_int i t
theorem mixKind_str (prog : Program) (w : World) (x : Str) (t : Tok) : (mixKind prog w).is (.inr x) (.str x t) = true := keyIs_str x t
end L2

namespace L2
open PySem PySem.Spec PyProof.Rows

/-- a value, without the heap -/
inductive V where
  | non | bl (b : Bool) | int (i : Int) | str (x : Str) | byt (b : Array UInt8) | flt (b : UInt64) | ref (a : Addr) | ty (n : String)
  deriving DecidableEq

def RelV : V → Value → Prop
  | .non, u => u = Value.none
  | .bl b, u => u = Value.bool b
  | .int i, u => ∃ t, u = Value.int i t
  | .str x, u => ∃ t, u = Value.str x t
  | .byt b, u => ∃ t, u = Value.bytes b t
  | .flt b, u => ∃ t, u = Value.float b t
  | .ref a, u => u = Value.ref a
  | .ty n, u => u = Value.type n

abbrev Vals : List V → List Value → Prop := Paired RelV
theorem Vals.length {xs : List V} {us : List Value} (r : Vals xs us) : xs.length = us.length := Paired.length r
theorem Vals.get : ∀ {xs : List V} {us : List Value} {i : Nat} {x : V}, Vals xs us → xs[i]? = some x → ∃ u, us[i]? = some u ∧ RelV x u
  | _, _, _, _, .nil, e => by simp at e
  | _, _, 0, _, .cons r _, e => by simp at e; subst e; exact ⟨_, rfl, r⟩
  | _, _, i + 1, x, .cons _ t, e => by
    obtain ⟨u, h1, h2⟩ := Vals.get (i := i) (x := x) t (by simpa using e)
    exact ⟨u, by simpa using h1, h2⟩
theorem Vals.set {x : V} {u : Value} (r : RelV x u) : ∀ {xs : List V} {us : List Value} (i : Nat), Vals xs us → Vals (xs.set i x) (us.set i u)
  | _, _, _, .nil => .nil
  | _, _, 0, .cons _ t => .cons r t
  | _, _, i + 1, .cons q t => .cons q (Vals.set r i t)
theorem Vals.append : ∀ {xs ys : List V} {us ws : List Value}, Vals xs us → Vals ys ws → Vals (xs ++ ys) (us ++ ws)
  | _, _, _, _, .nil, s => s
  | _, _, _, _, .cons r t, s => .cons r (Vals.append t s)
theorem Vals.take : ∀ {xs : List V} {us : List Value} (n : Nat), Vals xs us → Vals (xs.take n) (us.take n)
  | _, _, 0, _ => .nil
  | _, _, _ + 1, .nil => .nil
  | _, _, n + 1, .cons r t => .cons r (Vals.take n t)
theorem Vals.drop : ∀ {xs : List V} {us : List Value} (n : Nat), Vals xs us → Vals (xs.drop n) (us.drop n)
  | _, _, 0, r => r
  | _, _, _ + 1, .nil => .nil
  | _, _, n + 1, .cons _ t => Vals.drop n t
theorem Vals.none_of : ∀ {xs : List V} {us : List Value} {i : Nat}, Vals xs us → xs[i]? = none → us[i]? = none := fun {xs us i} r e => by
  have h1 := r.length
  have h2 : xs.length ≤ i := List.getElem?_eq_none_iff.mp e
  exact List.getElem?_eq_none_iff.mpr (by omega)

def RelO : Option V → Option Value → Prop
  | some v, some u => RelV v u
  | none, none => True
  | _, _ => False
def KV {κ : Type} : List (κ × V) → List (κ × Value) → Prop := Paired fun (p : κ × V) (q : κ × Value) => p.1 = q.1 ∧ RelV p.2 q.2

/-- a key of a dict (00_mix): an int or a text -/
def kV : Key → V
  | .inl i => .int i
  | .inr x => .str x

/-- what stands at a tracked address -/
inductive HO where
  /-- a list -/
  | lst (xs : List V)
  /-- a tuple (never changes) -/
  | tup (xs : List V)
  /-- a dict whose keys are ints and texts; one whose keys are tuples of ints and texts (the empty one is both) -/
  | dK (kvs : List (Key × V)) | dT (kvs : List (List Key × V))
  /-- a set of ints: its members, its size -/
  | set (S : Int → Bool) (n : Nat)
  /-- an instance of the class at C, its dict at dx, its attributes -/
  | ins (C dx : Addr) (fs : List (Str × V))
  /-- the dict of the instance at x -/
  | own (x : Addr)
  /-- the dict of an exception -/
  | xd (fs : List (Str × V))
  /-- a bound method, f of x -/
  | met (f x : Addr)
  /-- a range object lo, lo + 1, .. below hi -/
  | rng (lo hi : Int)
  /-- a thing that is known to the object (the script; a dict while a loop walks it): read, never written while it is so -/
  | frz (o : Obj) (u : HO)
  /-- a code object's table -/
  | tbl (ps : Array Value)
  /-- any other thing, by what is true of its one object (a def of one's own: SetO a S n := HO.ext fun h => ..) -/
  | ext (φ : Heap → Prop)

abbrev Hp := Addr → Option HO
def upd (H : Hp) (a : Addr) (o : HO) : Hp := fun b => if b = a then some o else H b
theorem upd_same {H : Hp} {a : Addr} {o : HO} : upd H a o a = some o := by unfold upd; rw [if_pos rfl]
theorem upd_ne {H : Hp} {a b : Addr} {o : HO} (h : b ≠ a) : upd H a o b = H b := by unfold upd; rw [if_neg h]
/-- two objects of different content stand apart -/
theorem ne_of {H : Hp} {a b : Addr} {o u : HO} (h : H a = some o) (h' : H b = some u) (d : o ≠ u) : a ≠ b := by
  intro e; subst e; rw [h] at h'; exact d (Option.some.inj h')
theorem ne_of_none {H : Hp} {a b : Addr} {o : HO} (h : H a = some o) (h' : H b = none) : a ≠ b := by
  intro e; subst e; rw [h] at h'; cases h'

section
variable (P : Program) (w : World)
def ObjOk (H : Hp) (h : Heap) (a : Addr) : HO → Prop
  | .lst xs => xs.length ≤ sizeLine ∧ ∃ (its : List Value) (n : Nat), Vals xs its ∧ h.get? a = some { cls := .type "list", data := .seq its.toArray n }
  | .tup xs => xs.length ≤ sizeLine ∧ ∃ its : List Value, Vals xs its ∧ IsTup h a its.toArray
  | .dK kvs => kvs.length ≤ sizeLine ∧ (a == sysModules) = false ∧ ∃ vs, KV kvs vs ∧ h.DictOf (mixKind P w) a vs
  | .dT kvs => kvs.length ≤ sizeLine ∧ (a == sysModules) = false ∧ ∃ xs : List (List Key × Addr × Value),
      Paired (fun (p : List Key × V) (q : List Key × Addr × Value) => p.1 = q.1 ∧ H q.2.1 = some (.tup (p.1.map kV)) ∧ RelV p.2 q.2.2) kvs xs ∧
      ∃ o es ep, h.get? a = some o ∧ o.ExactDict ∧ o.data = .dict es ep ∧ es.toList = xs.map (entryOfKey (tupleKind (mixKind P w))) ∧ (xs.map (·.1)).Nodup
  | .set S n => h.SetOf (intKind P w) a S n
  | .ins C dx fs => H dx = some (.own a) ∧ fs.length ≤ 1000 ∧ dx ≠ a ∧ h.get? a = some (PySem.W.instObj C dx) ∧
      ∃ mA, h.Ns1 dx mA ∧ (∀ f, RelO (fs.lookup f) (mA f)) ∧ PySem.Within mA (fs.map (·.1))
  | .own _ => ∃ o, h.get? a = some o
  | .xd fs => ∃ mA, h.Ns1 a mA ∧ ∀ f, RelO (fs.lookup f) (mA f)
  | .rng lo hi => ∃ t u v, h.get? a = some { cls := .type "range", data := .fields #[.int lo t, .int hi u, .int 1 v] }
  | .frz o u => h.get? a = some o ∧ ObjOk H h a u
  | .tbl ps => h.get? a = some { cls := .none, data := .fields ps }
  | .met f x => h.get? a = some (PySem.W.methodObj (.ref f) (.ref x))
  | .ext φ => φ h ∧ (∃ o, h.get? a = some o) ∧ ∀ h1 h2 : Heap, φ h1 → (∀ o, h1.get? a = some o → h2.get? a = some o) → φ h2
/-- the abstract heap is held -/
def HOk (H : Hp) (h : Heap) : Prop := ∀ a o, H a = some o → ObjOk P w H h a o
end

section
variable {P : Program} {w : World} {H H' : Hp} {h h' : Heap} {a : Addr} {o : HO}
theorem ObjOk.lt (x : ObjOk P w H h a o) : a < h.objs.size := by
  cases o with
  | lst xs => obtain ⟨_, _, _, _, e⟩ := x; exact Heap.lt_size e
  | tup xs => obtain ⟨_, _, _, p⟩ := x; exact p.lt
  | dK kvs => obtain ⟨_, _, _, _, o, _, _, e, _⟩ := x; exact Heap.lt_size e
  | dT kvs => obtain ⟨_, _, _, _, o, _, _, e, _⟩ := x; exact Heap.lt_size e
  | set S n => obtain ⟨o, _, _, _, e, _⟩ := x; exact Heap.lt_size e
  | ins C dx fs => obtain ⟨_, _, _, e, _⟩ := x; exact Heap.lt_size e
  | own y => obtain ⟨_, e⟩ := x; exact Heap.lt_size e
  | xd fs => obtain ⟨_, ⟨_, _, _, e, _⟩, _⟩ := x; exact Heap.lt_size e
  | rng lo hi => obtain ⟨_, _, _, e⟩ := x; exact Heap.lt_size e
  | frz ob u => obtain ⟨e, _⟩ := x; exact Heap.lt_size e
  | tbl ps => exact Heap.lt_size (show h.get? a = some _ from x)
  | met f y => exact Heap.lt_size (show h.get? a = some _ from x)
  | ext φ => obtain ⟨_, ⟨_, e⟩, _⟩ := x; exact Heap.lt_size e
theorem Paired.mapP {α β : Type} {F G : α → β → Prop} : ∀ {l₁ : List α} {l₂ : List β}, Paired F l₁ l₂ → (∀ a b, F a b → G a b) → Paired G l₁ l₂
  | _, _, .nil, _ => .nil
  | _, _, .cons r t, f => .cons (f _ _ r) (Paired.mapP t f)
/-- what an object's description leans on: its own object, its own dict, the tuples -/
theorem ObjOk.stay (x : ObjOk P w H h a o) (k : ∀ b u, (b = a ∨ H b = some (.own a)) → h.get? b = some u → h'.get? b = some u)
    (ho : ∀ b, H b = some (.own a) → H' b = some (.own a)) (ht : ∀ b xs, H b = some (.tup xs) → H' b = some (.tup xs)) : ObjOk P w H' h' a o := by
  induction o with
  | lst xs => obtain ⟨z, its, n, r, e⟩ := x; exact ⟨z, its, n, r, k _ _ (.inl rfl) e⟩
  | tup xs => obtain ⟨z, its, r, ob, e, c⟩ := x; exact ⟨z, its, r, ob, k _ _ (.inl rfl) e, c⟩
  | dK kvs => obtain ⟨z, y, vs, r, ob, es, ep, e, c⟩ := x; exact ⟨z, y, vs, r, ob, es, ep, k _ _ (.inl rfl) e, c⟩
  | dT kvs =>
    obtain ⟨z, y, xs, r, ob, es, ep, e, c⟩ := x
    exact ⟨z, y, xs, Paired.mapP r fun p q z => ⟨z.1, ht _ _ z.2.1, z.2.2⟩, ob, es, ep, k _ _ (.inl rfl) e, c⟩
  | set S n => obtain ⟨ob, es, ep, t, e, c⟩ := x; exact ⟨ob, es, ep, t, k _ _ (.inl rfl) e, c⟩
  | ins C dx fs =>
    obtain ⟨d, z, ne, e, mA, ⟨od, es, ep, e2, c⟩, r⟩ := x
    exact ⟨ho _ d, z, ne, k _ _ (.inl rfl) e, mA, ⟨od, es, ep, k _ _ (.inr d) e2, c⟩, r⟩
  | own y => obtain ⟨ob, e⟩ := x; exact ⟨ob, k _ _ (.inl rfl) e⟩
  | xd fs => obtain ⟨mA, ⟨od, es, ep, e, c⟩, r⟩ := x; exact ⟨mA, ⟨od, es, ep, k _ _ (.inl rfl) e, c⟩, r⟩
  | rng lo hi => obtain ⟨t, u, v, e⟩ := x; exact ⟨t, u, v, k _ _ (.inl rfl) e⟩
  | frz ob u ih => obtain ⟨e, q⟩ := x; exact ⟨k _ _ (.inl rfl) e, ih q⟩
  | tbl ps =>
    have e : h.get? a = some { cls := .none, data := .fields ps } := x
    show h'.get? a = some { cls := .none, data := .fields ps }
    exact k a _ (.inl rfl) e
  | met f y =>
    have e : h.get? a = some (PySem.W.methodObj (.ref f) (.ref y)) := x
    show h'.get? a = some (PySem.W.methodObj (.ref f) (.ref y))
    exact k a _ (.inl rfl) e
  | ext φ => obtain ⟨p, ⟨o, e⟩, st⟩ := x; exact ⟨st _ _ p fun o q => k _ _ (.inl rfl) q, ⟨o, k _ _ (.inl rfl) e⟩, st⟩
theorem HOk.lt (x : HOk P w H h) (e : H a = some o) : a < h.objs.size := (x a o e).lt
theorem HOk.fresh (x : HOk P w H h) (e : h.objs.size ≤ a) : H a = none := by
  cases q : H a with
  | none => rfl
  | some u => exact absurd (Nat.lt_of_lt_of_le (x.lt q) e) (Nat.lt_irrefl _)
/-- every object of the heap is kept -/
theorem HOk.kept (x : HOk P w H h) (k : ∀ b u, h.get? b = some u → h'.get? b = some u) : HOk P w H h' := fun a o e =>
  (x a o e).stay (fun b u _ q => k b u q) (fun _ q => q) fun _ _ q => q
/-- a new object is laid and tracked -/
theorem HOk.laid (x : HOk P w H h) (k : ∀ b u, h.get? b = some u → h'.get? b = some u) (hp : h.objs.size ≤ a) (new : ObjOk P w (upd H a o) h' a o) : HOk P w (upd H a o) h' := fun b u e => by
  have hn := x.fresh hp
  by_cases hb : b = a
  · subst hb; rw [upd_same] at e; cases e; exact new
  · rw [upd_ne hb] at e
    exact (x b u e).stay (fun c v _ q => k c v q) (fun c q => by rw [upd_ne (ne_of_none q hn)]; exact q) fun c xs q => by rw [upd_ne (ne_of_none q hn)]; exact q
end

/-- what may be read as u: it is u, or a known u -/
def Rd (H : Hp) (a : Addr) (u : HO) : Prop := H a = some u ∨ ∃ o, H a = some (.frz o u)
theorem Rd.of {H : Hp} {a : Addr} {u : HO} (h : H a = some u) : Rd H a u := .inl h
theorem Rd.ok {P : Program} {w : World} {H : Hp} {h : Heap} {a : Addr} {u : HO} (r : Rd H a u) (x : HOk P w H h) : ObjOk P w H h a u := by
  rcases r with r | ⟨o, r⟩
  · exact x a u r
  · obtain ⟨_, q⟩ := x a _ r
    exact q
/-- what may be written -/
def Mut : Option HO → Prop
  | some (.lst _) => True
  | some (.dK _) => True
  | some (.dT _) => True
  | some (.set _ _) => True
  | some (.ins _ _ _) => True
  | some (.ext _) => True
  | _ => False
section
variable {P : Program} {w : World} {H : Hp} {h h' : Heap} {x e : Addr} {o' : HO}
/-- the object at e is changed: x itself, or the dict of the instance x -/
theorem HOk.write (ok : HOk P w H h) (mu : Mut (H x)) (he : e = x ∨ H e = some (.own x)) (k : ∀ b u, b ≠ e → h.get? b = some u → h'.get? b = some u) (heo : ∃ u, h'.get? e = some u)
    (new : ObjOk P w (upd H x o') h' x o') : HOk P w (upd H x o') h' := fun b u q => by
  have nown : ∀ c y, H c = some (.own y) → c ≠ x := fun c y r z => by subst z; rw [r] at mu; exact mu
  have ntup : ∀ c xs, H c = some (.tup xs) → c ≠ x := fun c xs r z => by subst z; rw [r] at mu; exact mu
  by_cases hb : b = x
  · subst hb; rw [upd_same] at q; cases q; exact new
  · rw [upd_ne hb] at q
    by_cases hbe : b = e
    · have q' : H b = some (.own x) := by
        rcases he with z | z
        · exact absurd (hbe.trans z) hb
        · rw [hbe]; exact z
      rw [q] at q'; cases q'
      obtain ⟨v, hv⟩ := heo
      exact ⟨v, by rw [hbe]; exact hv⟩
    · refine (ok b u q).stay (fun c v hc r => k c v ?_ r) (fun c r => by rw [upd_ne (nown c b r)]; exact r) fun c xs r => by rw [upd_ne (ntup c xs r)]; exact r
      rcases hc with rfl | hc
      · exact hbe
      · rintro rfl
        rcases he with z | z
        · exact nown c b hc z
        · rw [hc] at z; cases z; exact hb rfl
end

/-! ### kept unless tracked; of the frames at fs (the callers') the slots may change (an exception that passes writes there); of the records at ex (iterators) nothing is said -/
structure Un (fs ex : List Addr) (H H' : Hp) (h h' : Heap) : Prop where
  keep : ∀ b o, h.get? b = some o → H b = none → b ∉ fs → b ∉ ex → h'.get? b = some o
  slot : ∀ b o, h.get? b = some o → H b = none → b ∈ fs → b ∉ ex → ∃ sl, h'.get? b = some { o with slots := sl }
  free : ∀ b o, h.get? b = some o → H b = none → b ∉ ex → H' b = none
  there : ∀ b o, h.get? b = some o → b ∉ ex → ∃ o', h'.get? b = some o'
  tups : ∀ b xs, H b = some (.tup xs) → H' b = some (.tup xs)
  frzs : ∀ b o u, H b = some (.frz o u) → H' b = some (.frz o u)
  tbls : ∀ b ps, H b = some (.tbl ps) → ∃ more, H' b = some (.tbl (ps ++ more))
section
variable {fs fs' ex ex' : List Addr} {H H1 H2 : Hp} {h h1 h2 h' : Heap} {a x e : Addr} {o : HO}
theorem Un.any (u : Un fs ex H H1 h h1) {b : Addr} {ob : Obj} (q : h.get? b = some ob) (n : H b = none) (hx : b ∉ ex) : ∃ sl, h1.get? b = some { ob with slots := sl } := by
  by_cases hb : b ∈ fs
  · exact u.slot b ob q n hb hx
  · exact ⟨ob.slots, u.keep b ob q n hb hx⟩
theorem Un.trans (a : Un fs ex H H1 h h1) (b : Un fs ex H1 H2 h1 h2) : Un fs ex H H2 h h2 where
  keep := fun c ob q n hc hx => b.keep c ob (a.keep c ob q n hc hx) (a.free c ob q n hx) hc hx
  slot := fun c ob q n hc hx => by
    obtain ⟨sl, e1⟩ := a.slot c ob q n hc hx
    obtain ⟨sl', e2⟩ := b.slot c _ e1 (a.free c ob q n hx) hc hx
    exact ⟨sl', e2⟩
  free := fun c ob q n hx => by
    obtain ⟨o', e1⟩ := a.there c ob q hx
    exact b.free c o' e1 (a.free c ob q n hx) hx
  there := fun c ob q hx => by
    obtain ⟨o', e1⟩ := a.there c ob q hx
    exact b.there c o' e1 hx
  tups := fun c xs q => b.tups c xs (a.tups c xs q)
  frzs := fun c ob xs q => b.frzs c ob xs (a.frzs c ob xs q)
  tbls := fun c ps q => by
    obtain ⟨m1, e1⟩ := a.tbls c ps q
    obtain ⟨m2, e2⟩ := b.tbls c _ e1
    exact ⟨m1 ++ m2, by rw [e2, Array.append_assoc]⟩
theorem Un.kept (k : ∀ b u, h.get? b = some u → h'.get? b = some u) : Un fs ex H H h h' :=
  ⟨fun b ob q _ _ _ => k b ob q, fun b ob q _ _ _ => ⟨ob.slots, k b ob q⟩, fun _ _ _ n _ => n, fun b ob q _ => ⟨ob, k b ob q⟩, fun _ _ q => q, fun _ _ _ q => q, fun _ ps q => ⟨#[], by rw [q]; simp⟩⟩
theorem Un.refl : Un fs ex H H h h := Un.kept fun _ _ q => q
theorem Un.laid (k : ∀ b u, h.get? b = some u → h'.get? b = some u) (hp : h.objs.size ≤ a) (hn : H a = none) : Un fs ex H (upd H a o) h h' where
  keep := fun b u q _ _ _ => k b u q
  slot := fun b u q _ _ _ => ⟨u.slots, k b u q⟩
  free := fun b u q n _ => by rw [upd_ne (Nat.ne_of_lt (Nat.lt_of_lt_of_le (Heap.lt_size q) hp))]; exact n
  there := fun b u q _ => ⟨u, k b u q⟩
  tups := fun b xs q => by rw [upd_ne (ne_of_none q hn)]; exact q
  frzs := fun b u xs q => by rw [upd_ne (ne_of_none q hn)]; exact q
  tbls := fun b ps q => ⟨#[], by rw [upd_ne (ne_of_none q hn), q]; simp⟩
theorem Un.write (mu : Mut (H x)) (he : e = x ∨ H e = some (.own x)) (k : ∀ b u, b ≠ e → h.get? b = some u → h'.get? b = some u) (heo : ∃ u, h'.get? e = some u) : Un fs ex H (upd H x o) h h' := by
  have hx : ∀ b, H b = none → b ≠ x := fun b n z => by subst z; rw [n] at mu; exact mu
  have hb : ∀ b, H b = none → b ≠ e := fun b n z => by
    subst z
    rcases he with r | r
    · exact hx b n r
    · rw [n] at r; cases r
  have hm : ∀ b u, H b = some u → ¬ Mut (some u) → b ≠ x := fun b u q nm z => by subst z; rw [q] at mu; exact nm mu
  refine ⟨fun b u q n _ _ => k b u (hb b n) q, fun b u q n _ _ => ⟨u.slots, k b u (hb b n) q⟩, fun b u q n _ => by rw [upd_ne (hx b n)]; exact n, fun b u q _ => ?_,
    fun b xs q => by rw [upd_ne (hm b _ q fun z => z)]; exact q, fun b u xs q => by rw [upd_ne (hm b _ q fun z => z)]; exact q, fun b ps q => ⟨#[], by rw [upd_ne (hm b _ q fun z => z), q]; simp⟩⟩
  by_cases hbe : b = e
  · subst hbe; exact heo
  · exact ⟨u, k b u hbe q⟩
theorem Un.mono (u : Un fs ex H H1 h h1) (hs : ∀ b ∈ fs, b ∈ fs') (hx : ∀ b ∈ ex, b ∈ ex') : Un fs' ex' H H1 h h1 :=
  ⟨fun b ob q n hb he => u.keep b ob q n (fun z => hb (hs b z)) fun z => he (hx b z), fun _ _ q n _ he => u.any q n fun z => he (hx _ z), fun b ob q n he => u.free b ob q n fun z => he (hx b z), fun b ob q he => u.there b ob q fun z => he (hx b z), u.tups, u.frzs, u.tbls⟩
end

/-! ### the heap without what is tracked -/
def trk (h : Heap) (H : Hp) : List Addr := (List.range h.objs.size).filter fun a => (H a).isSome
def hidT (h : Heap) (H : Hp) : Heap := PySem.W.hideAll h (trk h H)
theorem hidT_size (h : Heap) (H : Hp) : (hidT h H).objs.size = h.objs.size := PySem.W.hideAll_size _ _
theorem hidT_get {h : Heap} {H : Hp} {b : Addr} {o : Obj} (e : h.get? b = some o) (n : H b = none) : (hidT h H).get? b = some o :=
  PySem.W.hideAll_get _ e fun hm => by
    have q : (H b).isSome = true := (List.mem_filter.mp hm).2
    rw [n] at q; simp at q
theorem of_hidT {h : Heap} {H : Hp} {b : Addr} {o : Obj} (e : (hidT h H).get? b = some o) : h.get? b = some o ∧ H b = none := by
  have e' : h.get? b = some o := PySem.W.of_hideAll (trk h H) e
  refine ⟨e', ?_⟩
  cases q : H b with
  | none => rfl
  | some x =>
    have hm : b ∈ trk h H := List.mem_filter.mpr ⟨List.mem_range.mpr (Heap.lt_size e'), by simp [q]⟩
    have z : (hidT h H).get? b = none := PySem.W.hideAll_none (trk h H) hm
    rw [z] at e; cases e

/-! ### OpenK's ledger, filled with every new object but one -/
def allNews (g h : Heap) (L : Addr) : List (Addr × Obj) := (List.range h.objs.size).filterMap fun a => if a = L ∨ (g.get? a).isSome = true then none else (h.get? a).map fun o => (a, o)
def rest (g h : Heap) (L d : Addr) : List (Addr × Obj) := (allNews g h L).filter fun p => decide (p.1 ≠ d)
end L2

namespace L2
open PySem PySem.Spec PyProof.Rows

/-- the module's facts, over the base: the heap at the law's entry without what is tracked there -/
structure Mod (K : PySem.W.Frag) (mg : Str → Option Value) (base : Heap) : Prop where
  kin : K.In base
  glob : base.Ns mainGlobals mg
  blt : ∃ mb, base.Ns builtinsNs mb ∧ ∀ x : Str, x ≠ "__name__" → mb x = bootBuiltins x
  nolimit : base.NoLimit

/-- the context: a def's body (or a comprehension's block) running. base: fixed through the whole law; s₀, H₀: the entry; outer: the frames whose slots others may change (a def's callers); stack: all frames that run;
   ex: iterators that were made ahead of the entry and are walked here (a comprehension's); fn: the names whose cells were made at the entry (a def: all; a comprehension's block: its own); calm: not within an except suite; pn: pins that every state bears; xe: what is wanted of an exception that leaves the code -/
structure Cx where
  prog : Program
  w : World
  K : PySem.W.Frag
  mg : Str → Option Value
  base : Heap
  A : Around
  N : List Str
  s₀ : Shared
  H₀ : Hp
  env : Env
  outer : List Env
  stack : List Env
  ex : List Addr
  fn : Str → Bool
  calm : Bool
  pn : List (Addr × Obj)
  xe : Value → Shared → Prop
/-- the callers' frames -/
def frs (l : List Env) : List Addr := l.filterMap (·.frame)
abbrev Cx.fs (X : Cx) : List Addr := frs X.outer

def Vis (sc : Scope) (x : Str) : Prop := sc.names.lookup x = some .local ∨ sc.names.lookup x = some .cell ∨ sc.names.lookup x = some .free
def Loc (sc : Scope) (x : Str) : Prop := sc.names.lookup x = some .local ∨ sc.names.lookup x = some .cell
def Look (env : Env) (h : Heap) (m : Str → Option Value) (x : Str) (u : Value) : Prop :=
  (env.kindOf x = some .local ∧ m x = some u) ∨ ((env.kindOf x = some .cell ∨ env.kindOf x = some .free) ∧ ∃ c, env.cells.lookup x = some c ∧ h.IsCell c (some u))

structure Cx.Ok (X : Cx) : Prop where
  mod : Mod X.K X.mg X.base
  kind : X.env.scope.kind = .function
  glob : X.env.globals = mainGlobals
  blt : X.env.builtins = builtinsNs
  above : X.s₀.heap.objs.size ≤ X.env.locals
  inj : ∀ x y c, X.env.cells.lookup x = some c → X.env.cells.lookup y = some c → x = y
  has : ∀ x, (X.env.kindOf x = some .cell ∨ X.env.kindOf x = some .free) → ∃ c, X.env.cells.lookup x = some c
  cab : ∀ x c, X.fn x = true → X.env.cells.lookup x = some c → X.s₀.heap.objs.size ≤ c
  hd : X.calm = true → X.A.handled = none
  frames : X.A.frames = some X.stack
  stk : X.stack = X.outer ∨ (X.stack = X.env :: X.outer ∧ X.env.frame = some X.env.locals)
  exf : ∀ b ∈ X.ex, b ≠ X.env.locals ∧ ∀ x c, X.env.cells.lookup x = some c → c ≠ b
  bs : ∀ b o, X.base.get? b = some o → X.s₀.heap.get? b = some o ∧ X.H₀ b = none
  bsz : X.base.objs.size ≤ X.s₀.heap.objs.size
  noex : ∀ b o, X.base.get? b = some o → b ∉ X.ex
  exfs : ∀ b ∈ X.ex, b ∉ X.fs
  funs : X.s₀.heap.FunFrames X.base X.outer
  frf : ∀ b ∈ X.fs, X.H₀ b = none

structure Inv (X : Cx) (pins : List (Addr × Obj)) (σ : List (Option V)) (H : Hp) (s : Shared) : Prop where
  ok : X.Ok
  os : s.os = X.s₀.os
  bare : AllBare s.gens
  base : Un X.fs X.ex X.H₀ H X.s₀.heap s.heap
  loc : ∃ m, s.heap.Ns X.env.locals m ∧ ∀ (i : Nat) (x : Str) (v : V), X.N[i]? = some x → σ[i]? = some (some v) → Vis X.env.scope x → ∃ u, RelV v u ∧ Look X.env s.heap m x u
  cell : ∀ x c, X.env.cells.lookup x = some c → ∃ v, s.heap.IsCell c v
  free : H X.env.locals = none
  freeC : ∀ x c, X.env.cells.lookup x = some c → H c = none
  pin : ∀ p ∈ X.pn ++ pins, s.heap.get? p.1 = some p.2 ∧ H p.1 = none ∧ p.1 ≠ X.env.locals ∧ p.1 ∉ X.fs ∧ ∀ v, p.2.data ≠ .cell v
  hok : HOk X.prog X.w H s.heap
  len : σ.length = X.N.length

section
variable {X : Cx} {pins : List (Addr × Obj)} {σ : List (Option V)} {H H' : Hp} {s : Shared} {h' : Heap}

theorem Cx.Ok.nofr (ok : X.Ok) {b : Addr} {o : Obj} (e : X.base.get? b = some o) : b ∉ X.fs := fun hb => by
  have := (ok.funs.mem hb).1
  rw [e] at this; cases this
theorem Inv.bs (I : Inv X pins σ H s) : ∀ b o, X.base.get? b = some o → s.heap.get? b = some o ∧ H b = none := fun b o e =>
  ⟨I.base.keep b o (I.ok.bs b o e).1 (I.ok.bs b o e).2 (I.ok.nofr e) (I.ok.noex b o e), I.base.free b o (I.ok.bs b o e).1 (I.ok.bs b o e).2 (I.ok.noex b o e)⟩
theorem Inv.bk (I : Inv X pins σ H s) : ∀ b o, X.base.get? b = some o → s.heap.get? b = some o := fun b o e => (I.bs b o e).1
theorem Inv.mod (I : Inv X pins σ H s) : Mod X.K X.mg X.base := I.ok.mod
theorem Inv.kIn (I : Inv X pins σ H s) : X.K.In s.heap := I.ok.mod.kin.keeps I.bk
theorem Inv.nolimit (I : Inv X pins σ H s) : s.heap.NoLimit := I.ok.mod.nolimit.keeps I.bk
/-- the frame over the base: for OpenK's rules (K.In X.base is I.mod.kin) -/
theorem Inv.fr (I : Inv X pins σ H s) : ∃ m, Fr X.base X.env.locals s.heap m :=
  let ⟨m, hn, _⟩ := I.loc
  ⟨m, hn, I.bk, Nat.le_trans I.ok.bsz I.ok.above⟩
theorem Inv.lt (I : Inv X pins σ H s) : X.env.locals < s.heap.objs.size := let ⟨_, hn, _⟩ := I.loc; hn.lt
theorem Inv.sz (I : Inv X pins σ H s) : X.s₀.heap.objs.size ≤ s.heap.objs.size := Nat.le_trans I.ok.above (Nat.le_of_lt I.lt)
theorem Inv.nofs (I : Inv X pins σ H s) {a : Addr} (h : s.heap.objs.size ≤ a) : a ∉ X.fs := fun hb => by
  obtain ⟨_, o, ho, _⟩ := I.ok.funs.mem hb
  exact absurd (Nat.lt_of_lt_of_le (Heap.lt_size ho) (Nat.le_trans I.sz h)) (Nat.lt_irrefl _)
theorem Inv.cne (I : Inv X pins σ H s) : ∀ x c, X.env.cells.lookup x = some c → c ≠ X.env.locals := fun x c e z => by
  obtain ⟨v, o, ho, hd⟩ := I.cell x c e
  obtain ⟨m, ⟨o', es, ep, ho', hd', _⟩, _⟩ := I.loc
  rw [z, ho'] at ho; cases ho; rw [hd'] at hd; cases hd
theorem Inv.funs (I : Inv X pins σ H s) : s.heap.FunFrames X.base X.outer := by
  have all : ∀ (l : List Env), (∀ b ∈ frs l, b ∈ X.fs) → X.s₀.heap.FunFrames X.base l → s.heap.FunFrames X.base l := by
    intro l
    induction l with
    | nil => intro _ _; trivial
    | cons env r ih =>
      intro hs hl
      obtain ⟨hk, ⟨L, o, hf, hn, ho, hd⟩, hr⟩ := hl
      have hL : L ∈ X.fs := hs L (by unfold frs; rw [List.filterMap_cons, hf]; exact List.mem_cons_self)
      obtain ⟨sl, e⟩ := I.base.slot L o ho (I.ok.frf L hL) hL fun z => I.ok.exfs L z hL
      exact ⟨hk, ⟨L, _, hf, hn, e, hd⟩, ih (fun b hb => hs b (by unfold frs; rw [List.filterMap_cons, hf]; exact List.mem_cons_of_mem _ hb)) hr⟩
  exact all X.outer (fun _ hb => hb) I.ok.funs

/-- the frames that run, for a call -/
theorem Inv.stack (I : Inv X pins σ H s) : s.heap.FunFrames X.base X.stack := by
  rcases I.ok.stk with e | ⟨e, hf⟩
  · rw [e]; exact I.funs
  · rw [e]
    obtain ⟨m, hn, _⟩ := I.loc
    refine .cons (by rw [I.ok.kind]; decide) hf hn ?_ I.funs
    exact Heap.get?_none_of_le (Nat.le_trans I.ok.bsz I.ok.above)
theorem Inv.stkSub (I : Inv X pins σ H s) : ∀ b ∈ frs X.stack, b ∈ X.env.locals :: X.fs := fun b hb => by
  rcases I.ok.stk with e | ⟨e, hf⟩
  · rw [e] at hb; exact List.mem_cons_of_mem _ hb
  · rw [e] at hb
    unfold frs at hb
    rw [List.filterMap_cons, hf] at hb
    exact hb
theorem Inv.stkFree (I : Inv X pins σ H s) : ∀ b ∈ frs X.stack, H b = none := fun b hb => by
  rcases List.mem_cons.mp (I.stkSub b hb) with e | hb
  · rw [e]; exact I.free
  · obtain ⟨_, o, ho, _⟩ := I.ok.funs.mem hb
    exact I.base.free b o ho (I.ok.frf b hb) fun z => I.ok.exfs b z hb

/-- THE STEP: the untracked objects but the frame and the records at ch are kept (the callers' frames up to slots), the frame's map is kept, the new abstract heap is held -/
theorem Inv.step {g' : Array GenState} {t' : Nat} {d' : Drawn} {ch : List Addr} (I : Inv X pins σ H s)
    (hch : ∀ b ∈ ch, (b ∈ X.ex ∨ X.s₀.heap.objs.size ≤ b) ∧ b ≠ X.env.locals ∧ (∀ x c, X.env.cells.lookup x = some c → c ≠ b) ∧ ∀ p ∈ X.pn ++ pins, p.1 ≠ b)
    (keep : ∀ b o, b ≠ X.env.locals → b ∉ X.fs → b ∉ ch → s.heap.get? b = some o → H b = none → h'.get? b = some o)
    (slot : ∀ b o, b ≠ X.env.locals → b ∈ X.fs → b ∉ ch → s.heap.get? b = some o → H b = none → ∃ sl, h'.get? b = some { o with slots := sl }) (free : ∀ b o, b ∉ ch → s.heap.get? b = some o → H b = none → H' b = none)
    (there : ∀ b o, b ∉ ch → s.heap.get? b = some o → ∃ o', h'.get? b = some o')
    (tups : ∀ b xs, H b = some (.tup xs) → H' b = some (.tup xs)) (frzs : ∀ b o u, H b = some (.frz o u) → H' b = some (.frz o u)) (tbls : ∀ b ps, H b = some (.tbl ps) → ∃ more, H' b = some (.tbl (ps ++ more)))
    (ns : ∀ m, s.heap.Ns X.env.locals m → h'.Ns X.env.locals m) (hok : HOk X.prog X.w H' h') (hg : AllBare g') :
    Inv X pins σ H' { s with heap := h', gens := g', drawn := d', toks := t' } := by
  have neL : ∀ b o, X.s₀.heap.get? b = some o → b ≠ X.env.locals := fun b o e => Nat.ne_of_lt (Nat.lt_of_lt_of_le (Heap.lt_size e) I.ok.above)
  have neC : ∀ b o, X.s₀.heap.get? b = some o → b ∉ X.ex → b ∉ ch := fun b o e hx hb => by
    rcases (hch b hb).1 with z | z
    · exact hx z
    · exact absurd (Nat.lt_of_lt_of_le (Heap.lt_size e) z) (Nat.lt_irrefl _)
  have cellK : ∀ x c, X.env.cells.lookup x = some c → ∀ v, s.heap.IsCell c v → h'.IsCell c v := fun x c e v ⟨o, ho, hd⟩ => by
    have nch : c ∉ ch := fun z => (hch c z).2.2.1 x c e rfl
    by_cases hc : c ∈ X.fs
    · obtain ⟨sl, q⟩ := slot c o (I.cne x c e) hc nch ho (I.freeC x c e)
      exact ⟨_, q, hd⟩
    · exact ⟨o, keep c o (I.cne x c e) hc nch ho (I.freeC x c e), hd⟩
  refine ⟨I.ok, I.os, hg, ⟨fun b o e n hb hx => ?_, fun b o e n hb hx => ?_, fun b o e n hx => ?_, fun b o e hx => ?_, fun b xs e => tups b xs (I.base.tups b xs e), fun b o xs e => frzs b o xs (I.base.frzs b o xs e), fun b ps e => ?_⟩, ?_, fun x c e => ?_, ?_, fun x c e => ?_, fun p hp => ?_, hok, I.len⟩
  · exact keep b o (neL b o e) hb (neC b o e hx) (I.base.keep b o e n hb hx) (I.base.free b o e n hx)
  · obtain ⟨sl, e1⟩ := I.base.slot b o e n hb hx
    obtain ⟨sl', e2⟩ := slot b _ (neL b o e) hb (neC b o e hx) e1 (I.base.free b o e n hx)
    exact ⟨sl', e2⟩
  · obtain ⟨o', e1⟩ := I.base.there b o e hx
    exact free b o' (neC b o e hx) e1 (I.base.free b o e n hx)
  · obtain ⟨o', e1⟩ := I.base.there b o e hx
    exact there b o' (neC b o e hx) e1
  · obtain ⟨m1, e1⟩ := I.base.tbls b ps e
    obtain ⟨m2, e2⟩ := tbls b _ e1
    exact ⟨m1 ++ m2, by rw [e2, Array.append_assoc]⟩
  · obtain ⟨m, hn, hl⟩ := I.loc
    refine ⟨m, ns m hn, fun i x v e1 e2 e3 => ?_⟩
    obtain ⟨u, r, l⟩ := hl i x v e1 e2 e3
    refine ⟨u, r, ?_⟩
    rcases l with l | ⟨k, c, e, z⟩
    · exact .inl l
    · exact .inr ⟨k, c, e, cellK x c e _ z⟩
  · obtain ⟨v, z⟩ := I.cell x c e
    exact ⟨v, cellK x c e v z⟩
  · obtain ⟨m, ⟨o, _, _, ho, _⟩, _⟩ := I.loc
    exact free _ o (fun z => (hch _ z).2.1 rfl) ho I.free
  · obtain ⟨v, o, ho, hd⟩ := I.cell x c e
    exact free c o (fun z => (hch c z).2.2.1 x c e rfl) ho (I.freeC x c e)
  · obtain ⟨e, n, ne, nf, d⟩ := I.pin p hp
    have nch : p.1 ∉ ch := fun z => (hch p.1 z).2.2.2 p hp rfl
    exact ⟨keep p.1 p.2 ne nf nch e n, free p.1 p.2 nch e n, ne, nf, d⟩
/-- .. where the frame's own object is kept too -/
theorem Inv.un {t' : Nat} (I : Inv X pins σ H s) (u : Un X.fs [] H H' s.heap h') (hok : HOk X.prog X.w H' h') : Inv X pins σ H' { s with heap := h', toks := t' } := by
  obtain ⟨m, ⟨o, es, ep, ho, r⟩, _⟩ := id I.loc
  obtain ⟨sl, hL⟩ := u.any ho I.free (by simp)
  exact I.step (g' := s.gens) (d' := s.drawn) (ch := []) (fun _ z => nomatch z) (fun b o _ hb _ e n => u.keep b o e n hb (by simp)) (fun b o _ hb _ e n => u.slot b o e n hb (by simp)) (fun b o _ e n => u.free b o e n (by simp)) (fun b o _ e => u.there b o e (by simp)) u.tups u.frzs u.tbls (fun m' hm => by
    obtain ⟨o', es', ep', ho', r'⟩ := hm
    rw [ho] at ho'; cases ho'
    exact ⟨_, es', ep', hL, r'⟩) hok I.bare
/-- behind a call (or a comprehension's block): the slots of this frame may have changed too, the records at ch may have turned -/
theorem Inv.call {g' : Array GenState} {t' : Nat} {d' : Drawn} {ch : List Addr} (I : Inv X pins σ H s) (u : Un (frs X.stack) ch H H' s.heap h') (hok : HOk X.prog X.w H' h') (hg : AllBare g')
    (hch : ∀ b ∈ ch, (b ∈ X.ex ∨ X.s₀.heap.objs.size ≤ b) ∧ b ≠ X.env.locals ∧ (∀ x c, X.env.cells.lookup x = some c → c ≠ b) ∧ ∀ p ∈ X.pn ++ pins, p.1 ≠ b) :
    Inv X pins σ H' { s with heap := h', gens := g', drawn := d', toks := t' } := by
  obtain ⟨m, ⟨o, es, ep, ho, r⟩, _⟩ := id I.loc
  obtain ⟨sl, hL⟩ := u.any ho I.free fun z => (hch _ z).2.1 rfl
  exact I.step (ch := ch) hch (fun b o hL hb hc e n => u.keep b o e n (fun z => (List.mem_cons.mp (I.stkSub b z)).elim hL hb) hc) (fun b o _ _ hc e n => u.any e n hc) (fun b o hc e n => u.free b o e n hc) (fun b o hc e => u.there b o e hc) u.tups u.frzs u.tbls (fun m' hm => by
    obtain ⟨o', es', ep', ho', r'⟩ := hm
    rw [ho] at ho'; cases ho'
    exact ⟨_, es', ep', hL, r'⟩) hok hg
/-- an untracked record of ours (an iterator) has turned -/
theorem Inv.turned {t' : Nat} {it : Addr} (I : Inv X pins σ H s) (k : ∀ b o, b ≠ it → s.heap.get? b = some o → h'.get? b = some o) (hn : H it = none) (hL : it ≠ X.env.locals)
    (h1 : it ∈ X.ex ∨ X.s₀.heap.objs.size ≤ it) (h2 : ∀ x c, X.env.cells.lookup x = some c → c ≠ it) (h3 : ∀ p ∈ X.pn ++ pins, p.1 ≠ it) : Inv X pins σ H { s with heap := h', toks := t' } := by
  have nit : ∀ b u, H b = some u → b ≠ it := fun b u e z => by rw [z, hn] at e; cases e
  refine I.step (g' := s.gens) (d' := s.drawn) (ch := [it]) (fun b hb => ?_) (fun b o _ _ hc e _ => k b o (fun z => hc (by simp [z])) e) (fun b o _ _ hc e _ => ⟨o.slots, k b o (fun z => hc (by simp [z])) e⟩) (fun _ _ _ _ n => n)
    (fun b o hc e => ⟨o, k b o (fun z => hc (by simp [z])) e⟩) (fun _ _ e => e) (fun _ _ _ e => e) (fun b ps e => ⟨#[], by rw [e]; simp⟩) (fun m hm => ?_) (fun b u e => ?_) I.bare
  · have e : b = it := by simpa using hb
    subst e
    exact ⟨h1, hL, h2, h3⟩
  · obtain ⟨o, es, ep, ho, r⟩ := hm
    exact ⟨o, es, ep, k _ o (Ne.symm hL) ho, r⟩
  · refine (I.hok b u e).stay (fun c v hc q => k c v ?_ q) (fun _ q => q) fun _ _ q => q
    rcases hc with z | z
    · rw [z]; exact nit b u e
    · exact nit c _ z
theorem Inv.tok (I : Inv X pins σ H s) (t : Nat) : Inv X pins σ H { s with toks := t } := I.un (h' := s.heap) (t' := t) Un.refl I.hok
/-- all objects kept -/
theorem Inv.kept {t' : Nat} (I : Inv X pins σ H s) (k : ∀ b u, s.heap.get? b = some u → h'.get? b = some u) : Inv X pins σ H { s with heap := h', toks := t' } := I.un (Un.kept k) (I.hok.kept k)
/-- a new object laid and tracked -/
theorem Inv.laid {a : Addr} {o : HO} {t' : Nat} (I : Inv X pins σ H s) (k : ∀ b u, s.heap.get? b = some u → h'.get? b = some u) (hp : s.heap.objs.size ≤ a) (new : ObjOk X.prog X.w (upd H a o) h' a o) :
    Inv X pins σ (upd H a o) { s with heap := h', toks := t' } := I.un (Un.laid k hp (I.hok.fresh hp)) (I.hok.laid k hp new)
/-- an object written -/
theorem Inv.write {x e : Addr} {o : HO} {t' : Nat} (I : Inv X pins σ H s) (mu : Mut (H x)) (he : e = x ∨ H e = some (.own x)) (k : ∀ b u, b ≠ e → s.heap.get? b = some u → h'.get? b = some u) (heo : ∃ u, h'.get? e = some u)
    (new : ObjOk X.prog X.w (upd H x o) h' x o) : Inv X pins σ (upd H x o) { s with heap := h', toks := t' } := I.un (Un.write mu he k heo) (I.hok.write mu he k heo new)
theorem Inv.pins_of {pins' : List (Addr × Obj)} (I : Inv X pins σ H s) (h : ∀ p ∈ pins', s.heap.get? p.1 = some p.2 ∧ H p.1 = none ∧ p.1 ≠ X.env.locals ∧ p.1 ∉ X.fs ∧ ∀ v, p.2.data ≠ .cell v) : Inv X pins' σ H s :=
  ⟨I.ok, I.os, I.bare, I.base, I.loc, I.cell, I.free, I.freeC, fun p hp => (List.mem_append.mp hp).elim (fun z => I.pin p (List.mem_append_left _ z)) (h p), I.hok, I.len⟩

theorem nodup_ix {N : List Str} (hN : N.Nodup) {i j : Nat} {x : Str} (a : N[i]? = some x) (b : N[j]? = some x) : i = j := by
  obtain ⟨h1, e1⟩ := List.getElem?_eq_some_iff.mp a
  obtain ⟨h2, e2⟩ := List.getElem?_eq_some_iff.mp b
  exact (List.getElem_inj hN).mp (e1.trans e2.symm)

/-- a name is stored; what changed -/
theorem store_ok2 {M : Model} {A : Around} {E : Value → Shared → Prop} {i : Nat} {x : Str} {v : V} {u : Value} {Q : Unit → Shared → Prop} (I : Inv X pins σ H s) (hN : X.N.Nodup) (hi : X.N[i]? = some x) (hx : Loc X.env.scope x) (r : RelV v u)
    (h : ∀ s', Inv X pins (σ.set i (some v)) H s' → (∃ a, Heap.SameBut a s.heap s'.heap ∧ (a = X.env.locals ∨ X.env.cells.lookup x = some a)) → Q () s') (hf : X.fn x = true ∨ X.env.scope.names.lookup x = some .local := by first | exact .inl rfl | exact .inr rfl | assumption) : wpAny M A (storeName X.env x u) Q E s := by
  obtain ⟨m, hn, hl⟩ := id I.loc
  have hcls : (X.env.scope.kind == .class || (X.env.scope.kind == .module && X.env.locals != X.env.globals)) = false := by rw [I.ok.kind]; rfl
  have hiσ : i < σ.length := by rw [I.len]; exact (List.getElem?_eq_some_iff.mp hi).1
  have cne := I.cne
  have tracked : ∀ {a : Addr} {h' : Heap}, (∃ o, s.heap.get? a = some o ∧ H a = none) → Heap.SameBut a s.heap h' → HOk X.prog X.w H h' := fun {a h'} ha hs b ob e => by
    obtain ⟨_, _, hfree⟩ := ha
    refine (I.hok b ob e).stay (fun c w' hc q => (hs.2 c ?_).trans q) (fun _ q => q) fun _ _ q => q
    rintro rfl
    rcases hc with rfl | hc
    · rw [hfree] at e; cases e
    · rw [hfree] at hc; cases hc
  rcases hx with hk | hk
  · refine wpAny_storeName_local hk hn (fun h' hn' hs => ?_) hcls
    obtain ⟨oL, _, _, hoL, _⟩ := id hn
    refine h _ ⟨I.ok, I.os, I.bare, ⟨fun b o e n hb hx => ?_, fun b o e n hb hx => ?_, I.base.free, fun b o e hx => ?_, I.base.tups, I.base.frzs, I.base.tbls⟩, ⟨_, hn', fun j y v' e1 e2 e3 => ?_⟩, fun y c e => ?_, I.free, I.freeC, fun p hp => ?_, tracked ⟨oL, hoL, I.free⟩ hs, by simpa using I.len⟩ ⟨_, hs, .inl rfl⟩
    · exact (hs.2 b (Nat.ne_of_lt (Nat.lt_of_lt_of_le (Heap.lt_size e) I.ok.above))).trans (I.base.keep b o e n hb hx)
    · obtain ⟨sl, e1⟩ := I.base.slot b o e n hb hx
      exact ⟨sl, (hs.2 b (Nat.ne_of_lt (Nat.lt_of_lt_of_le (Heap.lt_size e) I.ok.above))).trans e1⟩
    · obtain ⟨o', e1⟩ := I.base.there b o e hx
      exact ⟨o', (hs.2 b (Nat.ne_of_lt (Nat.lt_of_lt_of_le (Heap.lt_size e) I.ok.above))).trans e1⟩
    · by_cases hj : j = i
      · subst hj
        rw [hi] at e1; cases e1
        rw [List.getElem?_set_self hiσ] at e2
        cases e2
        exact ⟨u, r, .inl ⟨hk, by simp⟩⟩
      · rw [List.getElem?_set_ne (Ne.symm hj)] at e2
        obtain ⟨u', r', q⟩ := hl j y v' e1 e2 e3
        refine ⟨u', r', ?_⟩
        rcases q with ⟨k, e⟩ | ⟨k, c, e, z⟩
        · refine .inl ⟨k, ?_⟩
          have : y ≠ x := fun e => hj (nodup_ix hN e1 (e ▸ hi))
          simp [this, e]
        · exact .inr ⟨k, c, e, z.sameBut hs (cne y c e)⟩
    · obtain ⟨w', z⟩ := I.cell y c e
      exact ⟨w', z.sameBut hs (cne y c e)⟩
    · obtain ⟨e, n, ne, nf, d⟩ := I.pin p hp
      exact ⟨(hs.2 p.1 ne).trans e, n, ne, nf, d⟩
  · have hfn : X.fn x = true := by
      rcases hf with z | z
      · exact z
      · rw [z] at hk; cases hk
    obtain ⟨c, hc⟩ := I.ok.has x (.inl hk)
    obtain ⟨w', z⟩ := I.cell x c hc
    refine wpAny_storeName_cell I.ok.kind hk hc z (fun h' hc' hs => ?_)
    obtain ⟨oc, hoc, hocd⟩ := id z
    refine h { s with heap := h' } ⟨I.ok, I.os, I.bare, ⟨fun b o e n hb hx => ?_, fun b o e n hb hx => ?_, I.base.free, fun b o e hx => ?_, I.base.tups, I.base.frzs, I.base.tbls⟩, ⟨m, hn.sameBut hs (Ne.symm (cne x c hc)), fun j y v' e1 e2 e3 => ?_⟩, fun y c' e => ?_, I.free, I.freeC, fun p hp => ?_, tracked ⟨oc, hoc, I.freeC x c hc⟩ hs, by simpa using I.len⟩ ⟨c, hs, .inr hc⟩
    · exact (hs.2 b (Nat.ne_of_lt (Nat.lt_of_lt_of_le (Heap.lt_size e) (I.ok.cab x c hfn hc)))).trans (I.base.keep b o e n hb hx)
    · obtain ⟨sl, e1⟩ := I.base.slot b o e n hb hx
      exact ⟨sl, (hs.2 b (Nat.ne_of_lt (Nat.lt_of_lt_of_le (Heap.lt_size e) (I.ok.cab x c hfn hc)))).trans e1⟩
    · obtain ⟨o', e1⟩ := I.base.there b o e hx
      exact ⟨o', (hs.2 b (Nat.ne_of_lt (Nat.lt_of_lt_of_le (Heap.lt_size e) (I.ok.cab x c hfn hc)))).trans e1⟩
    · by_cases hj : j = i
      · subst hj
        rw [hi] at e1; cases e1
        rw [List.getElem?_set_self hiσ] at e2
        cases e2
        exact ⟨u, r, .inr ⟨.inl hk, c, hc, hc'⟩⟩
      · rw [List.getElem?_set_ne (Ne.symm hj)] at e2
        obtain ⟨u', r', q⟩ := hl j y v' e1 e2 e3
        refine ⟨u', r', ?_⟩
        rcases q with q | ⟨k, c', e, z'⟩
        · exact .inl q
        · refine .inr ⟨k, c', e, z'.sameBut hs ?_⟩
          rintro rfl
          exact hj (nodup_ix hN e1 (I.ok.inj _ _ _ e hc ▸ hi))
    · by_cases hcc : c' = c
      · subst hcc; exact ⟨_, hc'⟩
      · obtain ⟨w2, z2⟩ := I.cell y c' e
        exact ⟨w2, z2.sameBut hs hcc⟩
    · obtain ⟨e, n, ne, nf, d⟩ := I.pin p hp
      refine ⟨(hs.2 p.1 ?_).trans e, n, ne, nf, d⟩
      intro q
      rw [q, hoc] at e
      have q' : oc = p.2 := Option.some.inj e
      exact d w' (by rw [← q']; exact hocd)
theorem store_ok {M : Model} {A : Around} {E : Value → Shared → Prop} {i : Nat} {x : Str} {v : V} {u : Value} {Q : Unit → Shared → Prop} (I : Inv X pins σ H s) (hN : X.N.Nodup) (hi : X.N[i]? = some x) (hx : Loc X.env.scope x) (r : RelV v u)
    (h : ∀ s', Inv X pins (σ.set i (some v)) H s' → Q () s') (hf : X.fn x = true ∨ X.env.scope.names.lookup x = some .local := by first | exact .inl rfl | exact .inr rfl | assumption) : wpAny M A (storeName X.env x u) Q E s :=
  store_ok2 I hN hi hx r (fun s' I' _ => h s' I') hf
/-- behind a call or a block, the state as it is -/
theorem Inv.call' {s' : Shared} {ch : List Addr} (I : Inv X pins σ H s) (ho : s'.os = s.os) (u : Un (frs X.stack) ch H H' s.heap s'.heap) (hok : HOk X.prog X.w H' s'.heap) (hg : AllBare s'.gens)
    (hch : ∀ b ∈ ch, (b ∈ X.ex ∨ X.s₀.heap.objs.size ≤ b) ∧ b ≠ X.env.locals ∧ (∀ x c, X.env.cells.lookup x = some c → c ≠ b) ∧ ∀ p ∈ X.pn ++ pins, p.1 ≠ b) : Inv X pins σ H' s' := by
  obtain ⟨h', g', d', t', o'⟩ := s'
  have e : o' = s.os := ho
  subst e
  exact I.call (g' := g') (t' := t') (d' := d') u hok hg hch
end

/-! ### the judgements -/
/-- an exception: its class, its own dict's address (where it has one), the abstract heap behind it -/
abbrev XK := Value → Option Addr → Hp → Prop
abbrev St := List (Option V)
abbrev VK := V → Hp → Prop
/-- an expression's reading; a test's; an argument list's -/
abbrev TE := St → Hp → VK → Prop
abbrev TT := St → Hp → (Bool → Hp → Prop) → Prop
abbrev TA := St → Hp → (List V → Hp → Prop) → Prop
/-- what is wanted behind a statement -/
structure Ends where
  nx : St → Hp → Prop
  rt : VK
  bk : St → Hp → Prop := fun _ _ => False
  ct : St → Hp → Prop := fun _ _ => False
abbrev TS := Ends → St → Hp → Prop

def EP (X : Cx) (pins : List (Addr × Obj)) (σ : St) (Q : VK) (u : Value) (s' : Shared) : Prop := ∃ v H', Inv X pins σ H' s' ∧ RelV v u ∧ Q v H'
def TP (X : Cx) (pins : List (Addr × Obj)) (σ : St) (Q : Bool → Hp → Prop) (b : Bool) (s' : Shared) : Prop := ∃ H', Inv X pins σ H' s' ∧ Q b H'
def AP (X : Cx) (pins : List (Addr × Obj)) (σ : St) (Q : List V → Hp → Prop) (us : List Value) (s' : Shared) : Prop := ∃ vs H', Inv X pins σ H' s' ∧ Vals vs us ∧ Q vs H'
def SP (X : Cx) (pins : List (Addr × Obj)) (D : Ends) (f : Flow) (s' : Shared) : Prop :=
  match f with
  | .next => ∃ σ' H', Inv X pins σ' H' s' ∧ D.nx σ' H'
  | .brk => ∃ σ' H', Inv X pins σ' H' s' ∧ D.bk σ' H'
  | .cont => ∃ σ' H', Inv X pins σ' H' s' ∧ D.ct σ' H'
  | .ret u => ∃ v σ' H', Inv X pins σ' H' s' ∧ RelV v u ∧ D.rt v H'

def PE (X : Cx) (e : Expr) (t : TE) : Prop :=
  ∀ (pins : List (Addr × Obj)) (s : Shared) (σ : St) (H : Hp) (Q : VK), Inv X pins σ H s → t σ H Q → wpAny (model X.prog X.w) X.A (eval e X.env) (EP X pins σ Q) X.xe s
def PT (X : Cx) (e : Expr) (t : TT) : Prop :=
  ∀ (pins : List (Addr × Obj)) (s : Shared) (σ : St) (H : Hp) (Q : Bool → Hp → Prop), Inv X pins σ H s → t σ H Q → wpAny (model X.prog X.w) X.A (isTrue e X.env (eval e X.env)) (TP X pins σ Q) X.xe s
/-- a test whatever its 'whole' is (and, or) -/
def PW (X : Cx) (e : Expr) (t : TT) : Prop :=
  ∀ (whole : Sem Value) (pins : List (Addr × Obj)) (s : Shared) (σ : St) (H : Hp) (Q : Bool → Hp → Prop), Inv X pins σ H s → t σ H Q → wpAny (model X.prog X.w) X.A (isTrue e X.env whole) (TP X pins σ Q) X.xe s
theorem PW.pt {X : Cx} {e : Expr} {t : TT} (h : PW X e t) : PT X e t := h _
/-- an argument list (no star), from the left -/
def PA (X : Cx) (es : List Expr) (t : TA) : Prop :=
  ∀ (pos : Pos) (pins : List (Addr × Obj)) (s : Shared) (σ : St) (H : Hp) (Q : List V → Hp → Prop), Inv X pins σ H s → t σ H Q → wpAny (model X.prog X.w) X.A (spliced (backTo pos (starEach es X.env))) (AP X pins σ Q) X.xe s
def PS (X : Cx) (st : Stmt) (t : TS) : Prop :=
  ∀ (pins : List (Addr × Obj)) (s : Shared) (σ : St) (H : Hp) (D : Ends), Inv X pins σ H s → t D σ H → wpAny (model X.prog X.w) X.A (exec st X.env) (SP X pins D) X.xe s
def PSs (X : Cx) (st : List Stmt) (t : TS) : Prop :=
  ∀ (pins : List (Addr × Obj)) (s : Shared) (σ : St) (H : Hp) (D : Ends), Inv X pins σ H s → t D σ H → wpAny (model X.prog X.w) X.A (execs st X.env) (SP X pins D) X.xe s
/-- weaken the end -/
theorem thn {α : Type} {t : Sem α} {Q Q' : α → Shared → Prop} {M : Model} {A : Around} {E : Value → Shared → Prop} {s : Shared} (h : wpAny M A t Q E s) (hQ : ∀ a s, Q a s → Q' a s) : wpAny M A t Q' E s := wpAny_mono h hQ fun _ _ x => x
end L2

namespace L2
open PySem PySem.Spec PyProof.Rows
section
variable {X : Cx}

/-! ### names and constants -/
def tVar (i : Nat) : TE := fun σ H Q => ∃ v, σ[i]? = some (some v) ∧ Q v H
def tC (v : V) : TE := fun _ H Q => Q v H
theorem pe_var {i : Nat} {x : Str} {pos : Pos} (hN : X.N[i]? = some x) (hv : Vis X.env.scope x) (hd : (x == ("__debug__" : Str)) = false := by decide) (hcd : (x == ("__classdict__" : Str)) = false := by decide) : PE X (.Name x pos) (tVar i) := by
  intro pins s σ H Q I h
  obtain ⟨v, e, h⟩ := h
  obtain ⟨m, hn, hl⟩ := I.loc
  obtain ⟨u, r, l⟩ := hl i x v hN e hv
  have fin : EP X pins σ Q u s := ⟨v, H, I, r, h⟩
  rcases l with ⟨hk, hm⟩ | ⟨hk, c, hc, hcell⟩
  · exact wpAny_Name (wpAny_loadName_local I.ok.kind hk hn hm fin) hd
  · rcases hk with hk | hk
    · exact wpAny_Name (wpAny_loadName_cell I.ok.kind hk hc hcell fin) hd
    · exact wpAny_Name (wpAny_loadName_free I.ok.kind hk hc hcell fin hcd) hd
theorem pe_int {i j pos} : PE X (.Constant (.int i) j pos) (tC (.int i)) := fun _ _ _ H _ I h => wpAny_Constant_int ⟨.int i, H, I.tok _, ⟨_, rfl⟩, h⟩
theorem pe_bl {b j pos} : PE X (.Constant (.bool b) j pos) (tC (.bl b)) := fun _ _ _ H _ I h => Constant_bool ⟨.bl b, H, I, rfl, h⟩
theorem pe_non {j pos} : PE X (.Constant .none j pos) (tC .non) := fun _ _ _ H _ I h => Constant_none ⟨.non, H, I, rfl, h⟩
theorem pe_str {x j pos} : PE X (.Constant (.str x) j pos) (tC (.str x)) := fun _ _ _ H _ I h => Calls.Constant_str ⟨.str x, H, I.tok _, ⟨_, rfl⟩, h⟩

/-- a global name of the def -/
def Gl (X : Cx) (x : Str) : Prop := X.env.kindOf x = some .globalImplicit
theorem ld_glob {E : Value → Shared → Prop} {pins : List (Addr × Obj)} {s : Shared} {σ : St} {H : Hp} {x : Str} {u : Value} {pos : Pos} {Q : Value → Shared → Prop} (I : Inv X pins σ H s) (hg : Gl X x) (hm : X.mg x = some u) (h : Q u s)
    (hd : (x == ("__debug__" : Str)) = false := by decide) : wpAny (model X.prog X.w) X.A (eval (.Name x pos) X.env) Q E s :=
  Calls.Name_function_global I.ok.kind hg (Calls.loadGlobal_global (by rw [I.ok.glob]; exact I.mod.glob.keeps I.bk) hm h) hd
theorem ld_blt {E : Value → Shared → Prop} {pins : List (Addr × Obj)} {s : Shared} {σ : St} {H : Hp} {x : Str} {u : Value} {pos : Pos} {Q : Value → Shared → Prop} (I : Inv X pins σ H s) (hg : Gl X x) (hm : X.mg x = none) (hv : bootBuiltins x = some u) (h : Q u s)
    (hn : x ≠ "__name__" := by decide) (hd : (x == ("__debug__" : Str)) = false := by decide) : wpAny (model X.prog X.w) X.A (eval (.Name x pos) X.env) Q E s := by
  obtain ⟨mb, h1, h2⟩ := I.mod.blt
  exact Calls.Name_function_global I.ok.kind hg (Calls.loadGlobal_builtin (by rw [I.ok.glob]; exact I.mod.glob.keeps I.bk) hm (by rw [I.ok.blt]; exact h1.keeps I.bk) ((h2 x hn).trans hv) h) hd
/-- a module's constant, a class, a function, as a value -/
theorem pe_glob {x : Str} {v : V} {u : Value} {pos : Pos} (hg : Gl X x) (hm : X.mg x = some u) (r : RelV v u) (hd : (x == ("__debug__" : Str)) = false := by decide) : PE X (.Name x pos) (tC v) :=
  fun _ _ _ H _ I h => ld_glob I hg hm ⟨v, H, I, r, h⟩ hd
theorem pe_bltn {x : Str} {v : V} {u : Value} {pos : Pos} (hg : Gl X x) (hm : X.mg x = none) (hv : bootBuiltins x = some u) (r : RelV v u) (hn : x ≠ "__name__" := by decide) (hd : (x == ("__debug__" : Str)) = false := by decide) : PE X (.Name x pos) (tC v) :=
  fun _ _ _ H _ I h => ld_blt I hg hm hv ⟨v, H, I, r, h⟩ hn hd

/-! ### arithmetic -/
/-- two ints -/
def t2I (ta tb : TE) (k : Int → Int → Hp → Prop) : St → Hp → Prop := fun σ H => ta σ H fun x H1 => tb σ H1 fun y H2 => ∃ i j, x = .int i ∧ y = .int j ∧ k i j H2
def tAdd (ta tb : TE) : TE := fun σ H Q => t2I ta tb (fun i j H2 => Q (.int (i + j)) H2) σ H
def tSub (ta tb : TE) : TE := fun σ H Q => t2I ta tb (fun i j H2 => Q (.int (i - j)) H2) σ H
/-- the left factor below 2^64 -/
def tMul (ta tb : TE) : TE := fun σ H Q => t2I ta tb (fun i j H2 => (-(2 ^ 64) < i ∧ i < 2 ^ 64) ∧ Q (.int (i * j)) H2) σ H
variable {a b : Expr} {ta tb : TE} {pos : Pos}
/-! ### comparisons -/
def PC (X : Cx) (op : CmpOp) (a b : Expr) (t : TE) : Prop :=
  ∀ (pins : List (Addr × Obj)) (s : Shared) (σ : St) (H : Hp) (Q : VK), Inv X pins σ H s → t σ H Q →
    wpAny (model X.prog X.w) X.A (eval a X.env) (fun v s₁ => wpAny (model X.prog X.w) X.A (eval b X.env) (fun u s₂ => wpAny (model X.prog X.w) X.A (compareOp op v u) (EP X pins σ Q) X.xe s₂) X.xe s₁) X.xe s
def tCmp (p : Int → Int → Bool) (ta tb : TE) : TE := fun σ H Q => t2I ta tb (fun i j H2 => Q (.bl (p i j)) H2) σ H
abbrev tLt : TE → TE → TE := tCmp fun i j => decide (i < j)
abbrev tLe : TE → TE → TE := tCmp fun i j => decide (i ≤ j)
abbrev tGt : TE → TE → TE := tCmp fun i j => decide (j < i)
abbrev tGe : TE → TE → TE := tCmp fun i j => decide (j ≤ i)
abbrev tEqI : TE → TE → TE := tCmp fun i j => decide (i = j)
abbrev tNeI : TE → TE → TE := tCmp fun i j => !decide (i = j)
/-- is None -/
def tIsN (ta : TE) : TE := fun σ H Q => ta σ H fun x H1 => Q (.bl (decide (x = .non))) H1
def tNotN (ta : TE) : TE := fun σ H Q => ta σ H fun x H1 => Q (.bl (!decide (x = .non))) H1
/-- a comparison as a value, as a test -/
def tB (t : TE) : TT := fun σ H Q => t σ H fun x H1 => ∃ c, x = .bl c ∧ Q c H1
/-! ### and, or, not -/
variable {tA tB' : TT} {rest : List Expr}
def tAnd (t u : TT) : TT := fun σ H Q => t σ H fun c H1 => if c = true then u σ H1 Q else Q false H1
def tOr (t u : TT) : TT := fun σ H Q => t σ H fun c H1 => if c = true then Q true H1 else u σ H1 Q
def tNot (t : TT) : TT := fun σ H Q => t σ H fun c H1 => Q (!c) H1
theorem pw_and1 (ha : PT X a tA) : PW X (.BoolOp .And [a] pos) tA := by
  intro wh pins s σ H Q I h
  refine isTrue_and (thn (ha pins s σ H Q I h) fun c s1 e => ?_)
  cases c with
  | true => exact isTrue_and_nil e
  | false => exact e
theorem pw_or1 (ha : PT X a tA) : PW X (.BoolOp .Or [a] pos) tA := by
  intro wh pins s σ H Q I h
  refine isTrue_or (thn (ha pins s σ H Q I h) fun c s1 e => ?_)
  cases c with
  | false => exact isTrue_or_nil e
  | true => exact e
theorem pw_and (ha : PT X a tA) (hb : PW X (.BoolOp .And (b :: rest) pos) tB') : PW X (.BoolOp .And (a :: b :: rest) pos) (tAnd tA tB') := by
  intro wh pins s σ H Q I h
  refine isTrue_and (thn (ha pins s σ H _ I h) fun c s1 ⟨H1, I1, q1⟩ => ?_)
  cases c with
  | true => exact hb wh pins s1 σ H1 Q I1 q1
  | false => exact ⟨H1, I1, q1⟩
theorem pw_or (ha : PT X a tA) (hb : PW X (.BoolOp .Or (b :: rest) pos) tB') : PW X (.BoolOp .Or (a :: b :: rest) pos) (tOr tA tB') := by
  intro wh pins s σ H Q I h
  refine isTrue_or (thn (ha pins s σ H _ I h) fun c s1 ⟨H1, I1, q1⟩ => ?_)
  cases c with
  | true => exact ⟨H1, I1, q1⟩
  | false => exact hb wh pins s1 σ H1 Q I1 q1
theorem pt_not (ha : PT X a tA) : PT X (.UnaryOp .Not a pos) (tNot tA) := by
  intro pins s σ H Q I h
  exact isTrue_not (ha pins s σ H (fun c H1 => Q (!c) H1) I h)
/-- .. as values (bools) -/
def tAndV (ta tb : TE) : TE := fun σ H Q => ta σ H fun x H1 => ∃ c, x = .bl c ∧ if c = true then tb σ H1 Q else Q (.bl false) H1
def tOrV (ta tb : TE) : TE := fun σ H Q => ta σ H fun x H1 => ∃ c, x = .bl c ∧ if c = true then Q (.bl true) H1 else tb σ H1 Q
def tNotV (ta : TE) : TE := fun σ H Q => ta σ H fun x H1 => ∃ c, x = .bl c ∧ Q (.bl (!c)) H1
theorem pe_one {op} {t : TE} (h : PE X a t) : PE X (.BoolOp op [a] pos) t := fun pins s σ H Q I hw => BoolOp_one (h pins s σ H Q I hw)
theorem pe_and (ha : PE X a ta) (hb : PE X (.BoolOp .And (b :: rest) pos) tb) : PE X (.BoolOp .And (a :: b :: rest) pos) (tAndV ta tb) := by
  intro pins s σ H Q I h
  refine BoolOp_and (thn (ha pins s σ H _ I h) fun v s1 ⟨x, H1, I1, r1, q1⟩ => ?_)
  obtain ⟨c, rfl, q1⟩ := q1
  cases r1
  refine wpAny_truthy_bool ?_
  cases c with
  | true => exact hb pins s1 σ H1 Q I1 q1
  | false => exact ⟨.bl false, H1, I1, rfl, q1⟩
/-- a if t else b -/
def tIf (t : TT) (ta tb : TE) : TE := fun σ H Q => t σ H fun c H1 => if c = true then ta σ H1 Q else tb σ H1 Q
theorem pe_ifExp {c : Expr} (hc : PT X c tA) (ha : PE X a ta) (hb : PE X b tb) : PE X (.IfExp c a b pos) (tIf tA ta tb) := by
  intro pins s σ H Q I h
  refine wpAny_IfExp (thn (hc pins s σ H _ I h) fun d s1 ⟨H1, I1, q1⟩ => ?_)
  cases d with
  | true => exact ha pins s1 σ H1 Q I1 q1
  | false => exact hb pins s1 σ H1 Q I1 q1
end
end L2

namespace L2
open PySem PySem.Spec PyProof.Rows

/-! ### a list, a tuple that is read: tracked, frozen, or an object of the module -/
def SqL (K : PySem.W.Frag) (H : Hp) (a : Addr) (xs : List V) : Prop :=
  Rd H a (.lst xs) ∨
    ∃ (o : Obj) (its : Array Value) (n : Nat), K.lookup a = some o ∧ o.cls = .type "list" ∧ o.dict = none ∧ o.data = .seq its n ∧ its.size ≤ sizeLine ∧ Vals xs its.toList
def SqT (K : PySem.W.Frag) (H : Hp) (a : Addr) (xs : List V) : Prop :=
  Rd H a (.tup xs) ∨
    ∃ (o : Obj) (its : Array Value) (n : Nat), K.lookup a = some o ∧ o.cls = .type "tuple" ∧ o.data = .seq its n ∧ its.size ≤ sizeLine ∧ Vals xs its.toList
def absV : Value → Option V
  | .none => some .non
  | .bool b => some (.bl b)
  | .int i _ => some (.int i)
  | .str x _ => some (.str x)
  | .bytes b _ => some (.byt b)
  | .float b _ => some (.flt b)
  | .ref a => some (.ref a)
  | .type n => some (.ty n)
  | _ => none
theorem RelV.abs {x : V} {u : Value} (r : RelV x u) : absV u = some x := by
  cases x with
  | non => cases r; rfl
  | bl _ => cases r; rfl
  | int _ => obtain ⟨t, rfl⟩ := r; rfl
  | str _ => obtain ⟨t, rfl⟩ := r; rfl
  | byt _ => obtain ⟨t, rfl⟩ := r; rfl
  | flt _ => obtain ⟨t, rfl⟩ := r; rfl
  | ref _ => cases r; rfl
  | ty _ => cases r; rfl
theorem RelV.inj {x y : V} {u : Value} (r : RelV x u) (q : RelV y u) : x = y := Option.some.inj (r.abs.symm.trans q.abs)
theorem Vals.inj : ∀ {xs ys : List V} {us : List Value}, Vals xs us → Vals ys us → xs = ys
  | _, _, _, .nil, .nil => rfl
  | _, _, _, .cons r t, .cons r' t' => by rw [r.inj r', Vals.inj t t']
section
variable {X : Cx} {pins : List (Addr × Obj)} {σ : St} {H : Hp} {s : Shared} {a : Addr} {xs ys : List V}
theorem SqL.of {K : PySem.W.Frag} (h : H a = some (.lst xs)) : SqL K H a xs := .inl (.inl h)
theorem SqT.of {K : PySem.W.Frag} (h : H a = some (.tup xs)) : SqT K H a xs := .inl (.inl h)
theorem Inv.list (I : Inv X pins σ H s) (h : SqL X.K H a xs) : ∃ its : List Value, Vals xs its ∧ PlainL s.heap a its.toArray ∧ xs.length ≤ sizeLine := by
  rcases h with h | ⟨o, its, n, hk, hc, hd, hs, hz, r⟩
  · obtain ⟨z, its, n, r, e⟩ := h.ok I.hok
    exact ⟨its, r, ⟨_, n, e, rfl, rfl, rfl⟩, z⟩
  · refine ⟨its.toList, r, ⟨o, n, I.kIn a o hk, hc, hd, by simpa using hs⟩, ?_⟩
    have e := r.length
    simp only [Array.length_toList] at e
    omega
theorem Inv.tuple (I : Inv X pins σ H s) (h : SqT X.K H a xs) : ∃ its : List Value, Vals xs its ∧ IsTup s.heap a its.toArray ∧ xs.length ≤ sizeLine := by
  rcases h with h | ⟨o, its, n, hk, hc, hs, hz, r⟩
  · obtain ⟨z, its, r, p⟩ := h.ok I.hok
    exact ⟨its, r, p, z⟩
  · refine ⟨its.toList, r, ⟨o, I.kIn a o hk, hc, n, by simpa using hs⟩, ?_⟩
    have e := r.length
    simp only [Array.length_toList] at e
    omega
end

/-! ### another wish about exceptions -/
abbrev Cx.wish (X : Cx) (E : Value → Shared → Prop) : Cx := { X with xe := E }
/-- no exception leaves -/
abbrev Cx.nox (X : Cx) : Cx := X.wish fun _ _ => False
theorem Cx.Ok.wish {X : Cx} (ok : X.Ok) (E : Value → Shared → Prop) : (X.wish E).Ok :=
  ⟨ok.mod, ok.kind, ok.glob, ok.blt, ok.above, ok.inj, ok.has, ok.cab, ok.hd, ok.frames, ok.stk, ok.exf, ok.bs, ok.bsz, ok.noex, ok.exfs, ok.funs, ok.frf⟩
theorem Cx.Ok.unwish {X : Cx} {E : Value → Shared → Prop} (ok : (X.wish E).Ok) : X.Ok :=
  ⟨ok.mod, ok.kind, ok.glob, ok.blt, ok.above, ok.inj, ok.has, ok.cab, ok.hd, ok.frames, ok.stk, ok.exf, ok.bs, ok.bsz, ok.noex, ok.exfs, ok.funs, ok.frf⟩
section
variable {X : Cx} {pins : List (Addr × Obj)} {σ : St} {H : Hp} {s : Shared} {E : Value → Shared → Prop}
theorem Inv.wish (I : Inv X pins σ H s) (E : Value → Shared → Prop) : Inv (X.wish E) pins σ H s := ⟨I.ok.wish E, I.os, I.bare, I.base, I.loc, I.cell, I.free, I.freeC, I.pin, I.hok, I.len⟩
theorem Inv.unwish (I : Inv (X.wish E) pins σ H s) : Inv X pins σ H s := ⟨I.ok.unwish, I.os, I.bare, I.base, I.loc, I.cell, I.free, I.freeC, I.pin, I.hok, I.len⟩
theorem SP.unwish {D : Ends} {f : Flow} {s' : Shared} (h : SP (X.wish E) pins D f s') : SP X pins D f s' := by
  cases f with
  | next => obtain ⟨σ', H', I, q⟩ := h; exact ⟨σ', H', I.unwish, q⟩
  | brk => obtain ⟨σ', H', I, q⟩ := h; exact ⟨σ', H', I.unwish, q⟩
  | cont => obtain ⟨σ', H', I, q⟩ := h; exact ⟨σ', H', I.unwish, q⟩
  | ret u => obtain ⟨v, σ', H', I, r, q⟩ := h; exact ⟨v, σ', H', I.unwish, r, q⟩
theorem PE.nox {e : Expr} {t : TE} (h : PE X.nox e t) : PE X e t := fun pins s σ H Q I hw =>
  wpAny_mono (h pins s σ H Q (I.wish _) hw) (fun _ _ ⟨v, H', I', r, q⟩ => ⟨v, H', I'.unwish, r, q⟩) fun _ _ z => False.elim z
theorem PT.nox {e : Expr} {t : TT} (h : PT X.nox e t) : PT X e t := fun pins s σ H Q I hw =>
  wpAny_mono (h pins s σ H Q (I.wish _) hw) (fun _ _ ⟨H', I', q⟩ => ⟨H', I'.unwish, q⟩) fun _ _ z => False.elim z
theorem PSs.nox {st : List Stmt} {t : TS} (h : PSs X.nox st t) : PSs X st t := fun pins s σ H D I hw =>
  wpAny_mono (h pins s σ H D (I.wish _) hw) (fun _ _ q => q.unwish) fun _ _ z => False.elim z
end

/-! ### blocks and small statements -/
section
variable {X : Cx} {st : Stmt} {rest : List Stmt} {t u : TS} {e : Expr} {te : TE} {pos : Pos}
def tNext : TS := fun D σ H => D.nx σ H
def tSeq (t u : TS) : TS := fun D σ H => t { D with nx := u D } σ H
theorem pss_nil : PSs X [] tNext := fun _ _ σ H _ I h => wpAny_execs_nil ⟨σ, H, I, h⟩
theorem pss_cons (h1 : PS X st t) (h2 : PSs X rest u) : PSs X (st :: rest) (tSeq t u) := by
  intro pins s σ H D I h
  refine wpAny_execs_cons (thn (h1 pins s σ H { D with nx := u D } I h) fun f s1 q => ?_)
  cases f with
  | next =>
    obtain ⟨σ', H', I', q⟩ := q
    exact h2 pins s1 σ' H' D I' q
  | ret v => exact q
  | brk => exact q
  | cont => exact q
theorem pss_one (h1 : PS X st t) : PSs X [st] t := by
  intro pins s σ H D I h
  refine wpAny_execs_cons (thn (h1 pins s σ H D I h) fun f s1 q => ?_)
  cases f with
  | next => exact wpAny_execs_nil q
  | ret v => exact q
  | brk => exact q
  | cont => exact q
def tBreak : TS := fun D σ H => D.bk σ H
def tCont : TS := fun D σ H => D.ct σ H
/-- in a def's body nothing is shown -/
theorem Inv.quiet {pins : List (Addr × Obj)} {σ : St} {H : Hp} {s : Shared} (I : Inv X pins σ H s) : interactive X.env = false := by simp [interactive, I.ok.kind]
/-- an expression whose value is dropped -/
def tDrop (te : TE) : TS := fun D σ H => te σ H fun _ H1 => D.nx σ H1
theorem ps_expr (he : PE X e te) (hs : swapsWith e none pos.line X.env = pure false := by rfl) : PS X (.Expr e pos) (tDrop te) := by
  intro pins s σ H D I h
  exact wpAny_Expr_any (thn (he pins s σ H _ I h) fun v s1 ⟨x, H1, I1, r1, q1⟩ => ⟨σ, H1, I1, q1⟩) I.quiet hs
def tRet (te : TE) : TS := fun D σ H => te σ H D.rt
theorem ps_ret (he : PE X e te) : PS X (.Return (some e) pos) (tRet te) := by
  intro pins s σ H D I h
  exact wpAny_Return_some (thn (he pins s σ H _ I h) fun v s1 ⟨x, H1, I1, r1, q1⟩ => ⟨x, σ, H1, I1, r1, q1⟩)
def tRetN : TS := fun D _ H => D.rt .non H
def tIfS (c : TT) (t u : TS) : TS := fun D σ H => c σ H fun b H1 => if b = true then t D σ H1 else u D σ H1
theorem ps_if {c : Expr} {a b : List Stmt} {tc : TT} (hc : PT X c tc) (ha : PSs X a t) (hb : PSs X b u) : PS X (.If c a b pos) (tIfS tc t u) := by
  intro pins s σ H D I h
  refine wpAny_If (thn (hc pins s σ H _ I h) fun d s1 ⟨H1, I1, q1⟩ => ?_)
  cases d with
  | true => exact ha pins s1 σ H1 D I1 q1
  | false => exact hb pins s1 σ H1 D I1 q1
/-- code that the proof never comes to -/
def tNever : TS := fun _ _ _ => False
end

/-! ### targets -/
abbrev TG := V → St → Hp → (St → Hp → Prop) → Prop
abbrev TGs := List V → St → Hp → (St → Hp → Prop) → Prop
def PG (X : Cx) (target : Expr) (t : TG) : Prop :=
  ∀ (pins : List (Addr × Obj)) (s : Shared) (σ : St) (H : Hp) (v : V) (u : Value) (Q : St → Hp → Prop), Inv X pins σ H s → RelV v u → t v σ H Q →
    wpAny (model X.prog X.w) X.A (assign target X.env u) (fun _ s' => ∃ σ' H', Inv X pins σ' H' s' ∧ Q σ' H') X.xe s
/-- several targets, one after another -/
def PGs (X : Cx) (ts : List Expr) (t : TGs) : Prop :=
  ∀ (pins : List (Addr × Obj)) (s : Shared) (σ : St) (H : Hp) (vs : List V) (us : List Value) (Q : St → Hp → Prop), Inv X pins σ H s → Vals vs us → t vs σ H Q →
    wpAny (model X.prog X.w) X.A (assignInOrder ((assignEach ts X.env).map (·.2)) us) (fun _ s' => ∃ σ' H', Inv X pins σ' H' s' ∧ Q σ' H') X.xe s
/-- o[i] = v, by values -/
abbrev TSet := V → V → V → Hp → (Hp → Prop) → Prop
def PSet (X : Cx) (t : TSet) : Prop :=
  ∀ (pins : List (Addr × Obj)) (s : Shared) (σ : St) (H : Hp) (o i v : V) (ov iv u : Value) (Q : Hp → Prop), Inv X pins σ H s → RelV o ov → RelV i iv → RelV v u → t o i v H Q →
    wpAny (model X.prog X.w) X.A (setItem ov iv u) (fun _ s' => ∃ H', Inv X pins σ H' s' ∧ Q H') X.xe s
/-- a op= b, by values -/
abbrev TIp := V → V → Hp → VK → Prop
def PIp (X : Cx) (op : Operator) (t : TIp) : Prop :=
  ∀ (pins : List (Addr × Obj)) (s : Shared) (σ : St) (H : Hp) (x y : V) (v u : Value) (Q : VK), Inv X pins σ H s → RelV x v → RelV y u → t x y H Q →
    wpAny (model X.prog X.w) X.A (inplaceOp op v u) (EP X pins σ Q) X.xe s
section
variable {X : Cx} {pos : Pos}
def gName (i : Nat) : TG := fun v σ H Q => Q (σ.set i (some v)) H
theorem pg_name {i : Nat} {x : Str} (hN : X.N.Nodup) (hi : X.N[i]? = some x) (hx : Loc X.env.scope x) (hf : X.fn x = true ∨ X.env.scope.names.lookup x = some .local := by first | exact .inl rfl | exact .inr rfl | assumption) : PG X (.Name x pos) (gName i) := by
  intro pins s σ H v u Q I r h
  exact wpAny_assign_Name (store_ok I hN hi hx r (fun s' I' => ⟨_, H, I', h⟩) hf)
def gNil : TGs := fun vs σ H Q => vs = [] ∧ Q σ H
def gCons (t : TG) (u : TGs) : TGs := fun vs σ H Q => ∃ v r, vs = v :: r ∧ t v σ H fun σ' H' => u r σ' H' Q
/-- (a, b, ..) = a tuple of that length -/
def gTup (K : PySem.W.Frag) (n : Nat) (t : TGs) : TG := fun v σ H Q => ∃ a xs, v = .ref a ∧ SqT K H a xs ∧ xs.length = n ∧ t xs σ H Q
/-- o[i] = .. -/
def gSub (to ti : TE) (t : TSet) : TG := fun v σ H Q => to σ H fun o H1 => ti σ H1 fun i H2 => t o i v H2 fun H3 => Q σ H3
theorem pg_sub {o i : Expr} {to ti : TE} {t : TSet} (ho : PE X o to) (hi : PE X i ti) (hs : PSet X t)
    (ha : ∀ v, assign (.Subscript o i pos) X.env v = (do
      let ov ← holding [v] (eval o X.env)
      let iv ← holding [v, ov] (eval i X.env)
      standAt pos
      holding [v, ov, iv] (setItem ov iv v)
      release [v, ov, iv] []) := by intro _; rfl) : PG X (.Subscript o i pos) (gSub to ti t) := by
  intro pins s σ H v u Q I r h
  rw [ha]
  refine wpAny_bind (wpAny_holding (thn (ho pins s σ H _ I h) fun ov s1 ⟨x, H1, I1, r1, q1⟩ => ?_))
  refine wpAny_bind (wpAny_holding (thn (hi pins s1 σ H1 _ I1 q1) fun iv s2 ⟨y, H2, I2, r2, q2⟩ => ?_))
  refine wpAny_bind (wpAny_standAt (wpAny_bind (wpAny_holding (thn (hs pins s2 σ H2 x y v ov iv u _ I2 r1 r2 r q2) fun _ s3 ⟨H3, I3, q3⟩ => ?_))))
  exact wpAny_release ⟨σ, H3, I3, q3⟩
/-- target = value -/
def tAsg (te : TE) (g : TG) : TS := fun D σ H => te σ H fun x H1 => g x σ H1 D.nx
theorem ps_asg {tg e : Expr} {te : TE} {g : TG} (he : PE X e te) (hg : PG X tg g) (hs : swapsWithSole [tg] e pos.line X.env = pure false := by rfl) (hw : swappedStores [tg] e X.env = pure none := by rfl)
    (h1 : (assignEach [tg] X.env).map (·.2) = [assign tg X.env] := by rfl) : PS X (.Assign [tg] e pos) (tAsg te g) := by
  intro pins s σ H D I h
  refine wpAny_Assign_stores (thn (he pins s σ H _ I h) fun v s1 ⟨x, H1, I1, r1, q1⟩ => ?_) hs hw
  rw [h1]
  exact thn (hg pins s1 σ H1 x v _ I1 r1 q1) fun _ s2 q => q
/-- name = value -/
theorem ps_set {i : Nat} {x : Str} {e : Expr} {te : TE} {pos' : Pos} (hN : X.N.Nodup) (hi : X.N[i]? = some x) (hx : Loc X.env.scope x) (he : PE X e te) (hs : swapsWith e (some (.Name x pos')) pos.line X.env = pure false := by rfl) (hf : X.fn x = true ∨ X.env.scope.names.lookup x = some .local := by first | exact .inl rfl | exact .inr rfl | assumption) :
    PS X (.Assign [.Name x pos'] e pos) (tAsg te (gName i)) := by
  intro pins s σ H D I h
  refine wpAny_Assign_Name (thn (he pins s σ H _ I h) fun v s1 ⟨y, H1, I1, r1, q1⟩ => ?_) hs
  exact store_ok I1 hN hi hx r1 (fun s2 I2 => ⟨_, H1, I2, q1⟩) hf
/-- a, b = x, y with plain local names: stored from the right; the pair itself is not tracked (the opening rows as in PyProof/Rows/TupAssign.lean:23) -/
def tPar (i j : Nat) (ta : TA) : TS := fun D σ H => ta σ H fun vs H1 => ∃ v w, vs = [v, w] ∧ D.nx ((σ.set i (some v)).set j (some w)) H1
/-- name op= e -/
def tAug (i : Nat) (te : TE) (ti : TIp) : TS := fun D σ H => ∃ x, σ[i]? = some (some x) ∧ te σ H fun y H1 => ti x y H1 fun z H2 => D.nx (σ.set i (some z)) H2
/-- o[i] op= e -/
def tAugS (to ti te : TE) (tget : V → V → Hp → VK → Prop) (tip : TIp) (tset : TSet) : TS := fun D σ H => to σ H fun o H1 => ti σ H1 fun i H2 => tget o i H2 fun x H3 => te σ H3 fun y H4 => tip x y H4 fun z H5 => tset o i z H5 fun H6 => D.nx σ H6
/-- o[i], by values -/
def PGet (X : Cx) (t : V → V → Hp → VK → Prop) : Prop :=
  ∀ (pins : List (Addr × Obj)) (s : Shared) (σ : St) (H : Hp) (o i : V) (ov iv : Value) (Q : VK), Inv X pins σ H s → RelV o ov → RelV i iv → t o i H Q →
    wpAny (model X.prog X.w) X.A (getItem ov iv) (EP X pins σ Q) X.xe s
theorem ps_augS {o i e : Expr} {to ti te : TE} {tget : V → V → Hp → VK → Prop} {tip : TIp} {tset : TSet} {op : Operator} {tpos : Pos} (ho : PE X o to) (hi : PE X i ti) (hg : PGet X tget) (he : PE X e te) (hp : PIp X op tip) (hs : PSet X tset)
    (ha : ∀ ov iv new, augStore i ov iv new = (do holding [new, ov, iv] (setItem ov iv new); release [new, ov, iv] []; pure .next) := by intros; rfl) : PS X (.AugAssign (.Subscript o i tpos) op e pos) (tAugS to ti te tget tip tset) := by
  intro pins s σ H D I h
  refine wpAny_AugAssign_SubscriptAny (thn (ho pins s σ H _ I h) fun ov s1 ⟨x1, H1, I1, r1, q1⟩ => ?_) ha
  refine thn (hi pins s1 σ H1 _ I1 q1) fun iv s2 ⟨x2, H2, I2, r2, q2⟩ => ?_
  refine thn (hg pins s2 σ H2 x1 x2 ov iv _ I2 r1 r2 q2) fun old s3 ⟨x3, H3, I3, r3, q3⟩ => ?_
  refine thn (he pins s3 σ H3 _ I3 q3) fun v s4 ⟨x4, H4, I4, r4, q4⟩ => ?_
  refine thn (hp pins s4 σ H4 x3 x4 old v _ I4 r3 r4 q4) fun new s5 ⟨x5, H5, I5, r5, q5⟩ => ?_
  exact thn (hs pins s5 σ H5 x1 x2 x5 ov iv new _ I5 r1 r2 r5 q5) fun _ s6 ⟨H6, I6, q6⟩ => ⟨σ, H6, I6, q6⟩
/-- ints -/
def ipI (f : Int → Int → Int) : TIp := fun x y H Q => ∃ i j, x = .int i ∧ y = .int j ∧ Q (.int (f i j)) H
theorem ip_add : PIp X .Add (ipI fun i j => i + j) := by
  intro pins s σ H x y v u Q I r1 r2 h
  obtain ⟨i, j, e1, e2, q⟩ := h
  subst e1; subst e2
  obtain ⟨t, rfl⟩ := r1
  obtain ⟨t', rfl⟩ := r2
  exact iadd_int ⟨.int _, H, I.tok _, ⟨_, rfl⟩, q⟩
end

/-! ### while -/
section
variable {X : Cx} {pos : Pos}
/-- the invariant W with its measure -/
def tWhile (c : TT) (tb : TS) : TS := fun D σ H => ∃ W : Nat → St → Hp → Prop, (∃ m, W m σ H) ∧ ∀ m σ H, W m σ H →
  c σ H fun b H1 => if b = true then ∃ N : St → Hp → Prop, (∀ σ' H', N σ' H' → ∃ m', m' < m ∧ W m' σ' H') ∧ tb { D with nx := N, ct := N, bk := D.nx } σ H1 else D.nx σ H1
end

/-! ### what a loop or a comprehension walks -/
/-- at turn i: it yields x (the heap may grow), or it stops -/
structure It where
  go : Nat → Hp → Prop
  yld : Nat → Hp → V → Hp → Prop
  stop : Nat → Hp → Prop
/-- the iterator's own objects may turn: they are not the frame's, not pinned, younger than the entry (or a comprehension's own) -/
def FpOk (X : Cx) (pins : List (Addr × Obj)) (H : Hp) (b : Addr) : Prop :=
  H b = none ∧ b ≠ X.env.locals ∧ b ∉ X.fs ∧ (b ∈ X.ex ∨ X.s₀.heap.objs.size ≤ b) ∧ (∀ x c, X.env.cells.lookup x = some c → c ≠ b) ∧ ∀ p ∈ X.pn ++ pins, p.1 ≠ b
theorem Inv.fpOk {X : Cx} {pins : List (Addr × Obj)} {σ : St} {H H' : Hp} {s : Shared} {b : Addr} (I : Inv X pins σ H s) (hb : s.heap.objs.size ≤ b) (hn : H' b = none) : FpOk X pins H' b := by
  refine ⟨hn, Nat.ne_of_gt (Nat.lt_of_lt_of_le I.lt hb), I.nofs hb, .inr (Nat.le_trans I.sz hb), fun x c e z => ?_, fun p hp z => ?_⟩
  · obtain ⟨v, q⟩ := I.cell x c e
    exact absurd (Nat.lt_of_lt_of_le q.lt (by rw [z]; exact hb)) (Nat.lt_irrefl _)
  · exact absurd (Nat.lt_of_lt_of_le (Heap.lt_size (I.pin p hp).1) (by rw [z]; exact hb)) (Nat.lt_irrefl _)
structure Turn (P : Program) (w : World) (K : PySem.W.Frag) (tg : Expr) (J : It) (fp : List Addr) (it : Addr) (tn : Nat → Heap → Prop) : Prop where
  mem : it ∈ fp
  obj : ∀ i h, tn i h → ∀ b ∈ fp, ∃ o, h.get? b = some o ∧ ∀ v, o.data ≠ .cell v
  keep : ∀ i h h', tn i h → (∀ b ∈ fp, ∀ o, h.get? b = some o → h'.get? b = some o) → tn i h'
  item : ∀ (X : Cx), X.prog = P → X.w = w → X.K = K → X.calm = true → ∀ (i : Nat) (pins : List (Addr × Obj)) (s : Shared) (σ : St) (H : Hp) (E : Value → Shared → Prop), Inv X pins σ H s → (∀ b ∈ fp, FpOk X pins H b) → tn i s.heap → J.go i H →
    wpAny (model P w) X.A (pyNext (.ref it)) (fun r s1 => ∃ u, r = some u ∧
      wpAny (model P w) X.A (letOwnedTupleGo tg (.ref it) u) (fun _ s2 => ∃ x H', Inv X pins σ H' s2 ∧ RelV x u ∧ J.yld i H x H' ∧ tn (i + 1) s2.heap ∧ ∀ b ∈ fp, H' b = none) E s1) E s
  done : ∀ (X : Cx), X.prog = P → X.w = w → X.K = K → X.calm = true → ∀ (i : Nat) (pins : List (Addr × Obj)) (s : Shared) (σ : St) (H : Hp) (E : Value → Shared → Prop), Inv X pins σ H s → (∀ b ∈ fp, FpOk X pins H b) → tn i s.heap → J.stop i H →
    wpAny (model P w) X.A (pyNext (.ref it)) (fun r s1 => r = none ∧ Inv X pins σ H s1) E s
  self : ∀ (A : Around) (i : Nat) (s : Shared) (Q : Value → Shared → Prop) (E : Value → Shared → Prop), tn i s.heap → Q (.ref it) s → wpAny (model P w) A (pyIter (.ref it)) Q E s
abbrev TI := St → Hp → (It → Hp → Prop) → Prop
/-- an iterator has come -/
def PIE (X : Cx) (pins : List (Addr × Obj)) (σ : St) (tg : Expr) (R : It → Hp → Prop) (itv : Value) (s2 : Shared) : Prop :=
  ∃ (it : Addr) (fp : List Addr) (tn : Nat → Heap → Prop) (J : It) (H' : Hp), itv = .ref it ∧ Inv X pins σ H' s2 ∧ Turn X.prog X.w X.K tg J fp it tn ∧ tn 0 s2.heap ∧ (∀ b ∈ fp, FpOk X pins H' b) ∧ R J H'
def PI (X : Cx) (tg iter : Expr) (wi : TI) : Prop :=
  ∀ (pins : List (Addr × Obj)) (s : Shared) (σ : St) (H : Hp) (R : It → Hp → Prop), Inv X pins σ H s → wi σ H R →
    wpAny (model X.prog X.w) X.A (eval iter X.env) (fun v s1 => wpAny (model X.prog X.w) X.A (pyIter v) (PIE X pins σ tg R) X.xe s1) X.xe s

/-- the step ahead of the store is nothing for an iterator that keeps no tuple -/
theorem go_of {M : Model} {A : Around} {E : Value → Shared → Prop} {s : Shared} {tg : Expr} {it : Addr} {u : Value} {o : Obj} {n : String} {vs : Array Value} {Q : Unit → Shared → Prop} (ho : s.heap.get? it = some o) (hc : o.cls = .type n) (hd : o.data = .fields vs)
    (hn : ["enumerate", "zip", "dict_itemiterator", "dict_reverseitemiterator", "odict_iterator", "itertools.zip_longest", "itertools.pairwise"].contains n = false) (hQ : Q () s) : wpAny M A (letOwnedTupleGo tg (.ref it) u) Q E s := by
  unfold letOwnedTupleGo
  cases tg <;> first
    | exact wpAny_pure hQ
    | (cases u <;> first
        | exact wpAny_pure hQ
        | (refine wpAny_bind (wpAny_load ho ?_)
           rw [hc, hd]
           show wpAny M A (if (["enumerate", "zip", "dict_itemiterator", "dict_reverseitemiterator", "odict_iterator", "itertools.zip_longest", "itertools.pairwise"].contains n && vs[0]? == some (rawInt _)) = true then _ else _) Q E s
           rw [if_neg (by intro h; rw [hn, Bool.false_and] at h; cases h)]
           exact wpAny_pure hQ))

/-- the list at a, as it stands at each turn (a loop may append to it) -/
def Itl (K : PySem.W.Frag) (a : Addr) : It :=
  ⟨fun i H => ∃ xs x, SqL K H a xs ∧ xs[i]? = some x, fun i H x H' => H' = H ∧ ∀ xs, SqL K H a xs → xs[i]? = some x, fun i H => ∃ xs, SqL K H a xs ∧ xs.length ≤ i⟩
def Itt (K : PySem.W.Frag) (a : Addr) : It :=
  ⟨fun i H => ∃ xs x, SqT K H a xs ∧ xs[i]? = some x, fun i H x H' => H' = H ∧ ∀ xs, SqT K H a xs → xs[i]? = some x, fun i H => ∃ xs, SqT K H a xs ∧ xs.length ≤ i⟩
/-- lo, lo + 1, .. (n of them) -/
def Itr (lo : Int) (n : Nat) : It := ⟨fun i _ => i < n, fun i H x H' => H' = H ∧ x = .int (lo + i), fun i _ => n ≤ i⟩
theorem turn_range {P : Program} {w : World} {K : PySem.W.Frag} {tg : Expr} (it : Addr) (lo : Int) (n : Nat) : Turn P w K tg (Itr lo n) [it] it (fun i h => IsRangeIter h it (lo + (i : Nat) * 1) ((n : Int) - (i : Nat)) 1) where
  mem := by simp
  obj := fun i h st b hb => by
    have e : b = it := by simpa using hb
    subst e
    exact ⟨_, st, fun v z => by
      have z' : Data.fields _ = Data.cell v := z
      cases z'⟩
  keep := fun i h h' st k => k it (by simp) _ st
  item := by
    intro X hP hw hK hc i pins s σ H E I hf st hg
    subst hP hw hK
    obtain ⟨f0, f1, f2, f3, f4, f5⟩ := hf it (by simp)
    have W := Walks.range (prog := X.prog) (w := X.w) (I.ok.hd hc) it lo 1 n
    refine W.item i s _ _ hg st fun v h' tk hv st' kk => ?_
    obtain ⟨t, rfl⟩ := hv
    have I1 : Inv X pins σ H { s with heap := h', toks := tk } := I.turned (fun b o hb e => kk b o (by simpa using hb) e) f0 f1 f3 f4 f5
    refine ⟨_, rfl, go_of (s := { s with heap := h', toks := tk }) (n := "range_iterator") st' rfl rfl (by decide) ⟨.int (lo + i), H, I1, ⟨t, ?_⟩, ⟨rfl, rfl⟩, st', fun b hb => (hf b hb).1⟩⟩
    rw [Int.mul_one]
  done := by
    intro X hP hw hK hc i pins s σ H E I hf st hg
    subst hP hw hK
    obtain ⟨f0, f1, f2, f3, f4, f5⟩ := hf it (by simp)
    exact wpAny_pyNext_range_end (I.ok.hd hc) st (by have : n ≤ i := hg; omega) fun h' eb => ⟨rfl, I.turned (t' := s.toks) (fun b o hb e => eb b o hb e) f0 f1 f3 f4 f5⟩
  self := fun _ _ _ _ _ st h => wpAny_pyIter_rangeiter st h
end L2

namespace L2
open PySem PySem.Spec PyProof.Rows
section
variable {X : Cx} {tg : Expr}
def iList (K : PySem.W.Frag) (tl : TE) : TI := fun σ H R => tl σ H fun x H1 => ∃ a, x = .ref a ∧ (∃ xs, SqL K H1 a xs) ∧ R (Itl K a) H1
def iTup (K : PySem.W.Frag) (tl : TE) : TI := fun σ H R => tl σ H fun x H1 => ∃ a, x = .ref a ∧ (∃ xs, SqT K H1 a xs) ∧ R (Itt K a) H1
/-- a range object just made, walked -/
theorem range_it {pins : List (Addr × Obj)} {σ : St} {H : Hp} {s : Shared} {R : It → Hp → Prop} {E : Value → Shared → Prop} {lo hi : Int} {t u v : Tok} {tk : Nat} (I : Inv X pins σ H s) (h1 : -(2 ^ 62) ≤ lo) (h2 : lo < 2 ^ 62) (h3 : -(2 ^ 62) ≤ hi) (h4 : hi < 2 ^ 62)
    (q : R (Itr lo (hi - lo).toNat) H) : wpAny (model X.prog X.w) X.A (pyIter (.ref s.heap.objs.size)) (PIE X pins σ tg R) E { s with heap := s.heap.push { cls := .type "range", data := .fields #[.int lo t, .int hi u, .int 1 v] }, toks := tk } := by
  refine wpAny_pyIter_range (IsRange.new ..) (small_one h1 h2 h3 h4) ?_
  have I1 : Inv X pins σ H { s with heap := s.heap.push { cls := .type "range", data := .fields #[.int lo t, .int hi u, .int 1 v] }, toks := tk } := I.kept fun b o e => Heap.get?_push_of_some _ e
  refine ⟨(s.heap.push { cls := .type "range", data := .fields #[.int lo t, .int hi u, .int 1 v] }).objs.size, [(s.heap.push { cls := .type "range", data := .fields #[.int lo t, .int hi u, .int 1 v] }).objs.size], _, _, H, rfl,
    I1.kept (t' := tk) fun b o e => Heap.get?_push_of_some _ e, turn_range _ lo (hi - lo).toNat, ?_, fun b hb => ?_, q⟩
  · have e1 : lo + ((0 : Nat) : Int) * 1 = lo := by simp
    have e2 : (((hi - lo).toNat : Nat) : Int) - ((0 : Nat) : Int) = Builtin.Range.rangeSize lo hi 1 := by rw [rangeSize_one]; split <;> omega
    show IsRangeIter _ _ (lo + ((0 : Nat) : Int) * 1) ((((hi - lo).toNat : Nat) : Int) - ((0 : Nat) : Int)) 1
    rw [e1, e2]
    exact Heap.get?_push_size _ rfl
  · have e : b = (s.heap.push { cls := .type "range", data := .fields #[.int lo t, .int hi u, .int 1 v] }).objs.size := by simpa using hb
    subst e
    exact I1.fpOk (Nat.le_refl _) (I1.hok.fresh (Nat.le_refl _))
def iRng1 (ta : TA) : TI := fun σ H R => ta σ H fun vs H1 => ∃ j : Int, vs = [.int j] ∧ -(2 ^ 62) ≤ j ∧ j < 2 ^ 62 ∧ R (Itr 0 j.toNat) H1
def iRng2 (ta : TA) : TI := fun σ H R => ta σ H fun vs H1 => ∃ i j : Int, vs = [.int i, .int j] ∧ (-(2 ^ 62) ≤ i ∧ i < 2 ^ 62 ∧ -(2 ^ 62) ≤ j ∧ j < 2 ^ 62) ∧ R (Itr i (j - i).toNat) H1
theorem pi_range1 {a : Expr} {ta : TA} {p pos : Pos} (hg : Gl X "range") (hm : X.mg "range" = none) (ha : PA X [a] ta) (hs : starEach [a] X.env = [(false, eval a X.env)] := by rfl) : PI X tg (.Call (.Name "range" p) [a] [] pos) (iRng1 ta) := by
  intro pins s σ H R I h
  refine Call_ (ld_blt I hg hm boot_range (PyProof.Rows.callWith_type1 (thn (ha pos pins s σ H _ I h) fun us s1 ⟨vs, H1, I1, r1, q1⟩ => ?_) hs rfl))
  obtain ⟨j, e, q1, q2, q⟩ := q1
  subst e
  cases r1 with
  | cons r rr =>
    cases rr
    obtain ⟨t, rfl⟩ := r
    exact call_range_1 (range_it I1 (by omega) (by omega) q1 q2 (by simpa using q))
/-! ### for -/
/-- W: the invariant by the turn and a measure; N: what the body is to reach -/
def tFor (wi : TI) (g : TG) (tb : TS) : TS := fun D σ H => wi σ H fun J H1 => ∃ W : Nat → Nat → St → Hp → Prop, (∃ m, W 0 m σ H1) ∧ ∀ i m σ H, W i m σ H →
  (J.stop i H ∧ D.nx σ H) ∨ (J.go i H ∧ ∃ N : St → Hp → Prop, (∀ σ' H', N σ' H' → ∃ m', m' < m ∧ W (i + 1) m' σ' H') ∧ ∀ x H', J.yld i H x H' → g x σ H' fun σ2 H2 => tb { D with nx := N, ct := N, bk := D.nx } σ2 H2)
/-- the records at fp as they stand -/
def pinsAt (fp : List Addr) (h : Heap) : List (Addr × Obj) := fp.filterMap fun b => (h.get? b).map fun o => (b, o)
theorem mem_pinsAt {fp : List Addr} {h : Heap} {b : Addr} {o : Obj} (hb : b ∈ fp) (e : h.get? b = some o) : (b, o) ∈ pinsAt fp h := List.mem_filterMap.mpr ⟨b, hb, by rw [e]; rfl⟩
theorem of_pinsAt {fp : List Addr} {h : Heap} {p : Addr × Obj} (hp : p ∈ pinsAt fp h) : p.1 ∈ fp ∧ h.get? p.1 = some p.2 := by
  obtain ⟨b, hb, e⟩ := List.mem_filterMap.mp hp
  cases q : h.get? b with
  | none => rw [q] at e; cases e
  | some o =>
    rw [q] at e
    have e' : (b, o) = p := Option.some.inj e
    subst e'
    exact ⟨hb, q⟩
theorem Inv.pinned {pins : List (Addr × Obj)} {σ : St} {H : Hp} {s : Shared} {fp : List Addr} (I : Inv X pins σ H s) (hf : ∀ b ∈ fp, FpOk X pins H b) (ho : ∀ b ∈ fp, ∃ o, s.heap.get? b = some o ∧ ∀ v, o.data ≠ .cell v) : Inv X (pins ++ pinsAt fp s.heap) σ H s :=
  I.pins_of fun p hp => (List.mem_append.mp hp).elim (fun z => I.pin p (List.mem_append_right _ z)) fun z => by
    obtain ⟨hb, e⟩ := of_pinsAt z
    obtain ⟨f0, f1, f2, _⟩ := hf p.1 hb
    obtain ⟨o, e', d⟩ := ho p.1 hb
    rw [e] at e'; cases e'
    exact ⟨e, f0, f1, f2, d⟩
theorem Inv.unpinned {pins pl : List (Addr × Obj)} {σ : St} {H : Hp} {s : Shared} (I : Inv X (pins ++ pl) σ H s) : Inv X pins σ H s := I.pins_of fun p hp => I.pin p (List.mem_append_right _ (List.mem_append_left _ hp))
theorem ps_for {iter : Expr} {body : List Stmt} {wi : TI} {g : TG} {tb : TS} {pos : Pos} (hp : PassesOwn (model X.prog X.w) X.A X.env X.xe) (hc : X.calm = true) (hi : PI X tg iter wi) (hg : PG X tg g) (hb : PSs X body tb)
    (hs : ∀ x, foldedSetIterable iter X.env x = pure x := by intro _; rfl) : PS X (.For tg iter body [] pos) (tFor wi g tb) := by
  intro pins s σ H D I h
  refine wpAny_For (thn (hi pins s σ H _ I h) fun v s1 h1 => thn h1 fun itv s2 h2 => ?_) hs
  obtain ⟨it, fp, tn, J, H2, e, I2, T, st2, f2, W, ⟨m0, w0⟩, turn⟩ := h2
  subst e
  -- what stays true of the iterator's objects through the loop
  have stat : ∀ {H' : Hp}, (∀ b ∈ fp, H' b = none) → ∀ b ∈ fp, FpOk X pins H' b := fun hn b hb => ⟨hn b hb, (f2 b hb).2⟩
  refine codeAny_forLoop_any (fun n s' => ∃ i σ' H', Inv X pins σ' H' s' ∧ tn i s'.heap ∧ (∀ b ∈ fp, H' b = none) ∧ W i n σ' H') ?_ m0 ⟨0, σ, H2, I2, st2, fun b hb => (f2 b hb).1, w0⟩
  rintro n s3 ⟨i, σ3, H3, I3, st3, fr3, w3⟩
  rcases turn i n σ3 H3 w3 with ⟨stop, qn⟩ | ⟨go, N, hN, step⟩
  · refine wpAny_passesOwn hp (thn (T.done X rfl rfl rfl hc i pins s3 σ3 H3 X.xe I3 (stat fr3) st3 stop) fun r s4 ⟨hr, I4⟩ => ?_)
    subst hr
    exact wpAny_execs_nil ⟨σ3, H3, I4, qn⟩
  · refine wpAny_passesOwn hp (thn (T.item X rfl rfl rfl hc i pins s3 σ3 H3 X.xe I3 (stat fr3) st3 go) fun r s4 ⟨u, hr, h4⟩ => ?_)
    subst hr
    refine wpAny_passesOwn hp (thn h4 fun _ s5 ⟨x, H5, I5, r5, y5, st5, fr5⟩ => ?_)
    have I5' := I5.pinned (stat fr5) (T.obj _ _ st5)
    refine wpAny_passesOwn hp (thn (hg _ s5 σ3 H5 x u _ I5' r5 (step x H5 y5)) fun _ s6 ⟨σ6, H6, I6, q6⟩ => ?_)
    refine wpAny_passesOwn hp (thn (hb _ s6 σ6 H6 _ I6 q6) fun f s7 q7 => ?_)
    have again : ∀ {σ7 : St} {H7 : Hp}, Inv X (pins ++ pinsAt fp s5.heap) σ7 H7 s7 → N σ7 H7 → ∃ m, m < n ∧ ∃ i σ' H', Inv X pins σ' H' s7 ∧ tn i s7.heap ∧ (∀ b ∈ fp, H' b = none) ∧ W i m σ' H' := fun {σ7 H7} I7 n7 => by
      obtain ⟨m', hm, w7⟩ := hN σ7 H7 n7
      refine ⟨m', hm, i + 1, σ7, H7, I7.unpinned, T.keep _ _ _ st5 fun b hb o e => (I7.pin (b, o) (List.mem_append_right _ (List.mem_append_right _ (mem_pinsAt hb e)))).1, fun b hb => ?_, w7⟩
      obtain ⟨o, e, d⟩ := T.obj _ _ st5 b hb
      exact (I7.pin (b, o) (List.mem_append_right _ (List.mem_append_right _ (mem_pinsAt hb e)))).2.1
    cases f with
    | next => obtain ⟨σ7, H7, I7, n7⟩ := q7; exact again I7 n7
    | cont => obtain ⟨σ7, H7, I7, n7⟩ := q7; exact again I7 n7
    | brk => obtain ⟨σ7, H7, I7, q7⟩ := q7; exact ⟨σ7, H7, I7.unpinned, q7⟩
    | ret v => obtain ⟨x7, σ7, H7, I7, r7, q7⟩ := q7; exact ⟨x7, σ7, H7, I7.unpinned, r7, q7⟩
end

end L2

namespace L2
open PySem PySem.Spec PyProof.Rows

abbrev R2 := V → V → Hp → VK → Prop
/-- a two-place operation on values: f is binaryOp op, inplaceOp op or compareOp op -/
def OpR (X : Cx) (f : Value → Value → Sem Value) (r : R2) : Prop :=
  ∀ (pins : List (Addr × Obj)) (s : Shared) (σ : St) (H : Hp) (x y : V) (v u : Value) (Q : VK), Inv X pins σ H s → RelV x v → RelV y u → r x y H Q →
    wpAny (model X.prog X.w) X.A (f v u) (EP X pins σ Q) X.xe s
/-- a one-place operation -/
def UnR (X : Cx) (f : Value → Sem Value) (r : V → Hp → VK → Prop) : Prop :=
  ∀ (pins : List (Addr × Obj)) (s : Shared) (σ : St) (H : Hp) (x : V) (v : Value) (Q : VK), Inv X pins σ H s → RelV x v → r x H Q →
    wpAny (model X.prog X.w) X.A (f v) (EP X pins σ Q) X.xe s
/-- a call of a value that is known (a builtin, a type) with values -/
def CallR (X : Cx) (f : Value) (r : List V → Hp → VK → Prop) : Prop :=
  ∀ (pins : List (Addr × Obj)) (s : Shared) (σ : St) (H : Hp) (xs : List V) (us : List Value) (Q : VK), Inv X pins σ H s → Vals xs us → r xs H Q →
    wpAny (model X.prog X.w) X.A (call f us) (EP X pins σ Q) X.xe s
/-- a value's truth -/
def TruR (X : Cx) (r : V → Hp → (Bool → Hp → Prop) → Prop) : Prop :=
  ∀ (pins : List (Addr × Obj)) (s : Shared) (σ : St) (H : Hp) (x : V) (v : Value) (Q : Bool → Hp → Prop), Inv X pins σ H s → RelV x v → r x H Q →
    wpAny (model X.prog X.w) X.A (truthy v) (TP X pins σ Q) X.xe s

def tOp (r : R2) (ta tb : TE) : TE := fun σ H Q => ta σ H fun x H1 => tb σ H1 fun y H2 => r x y H2 Q
def tUn (r : V → Hp → VK → Prop) (ta : TE) : TE := fun σ H Q => ta σ H fun x H1 => r x H1 Q
/-- ints in, under C, and a value out -/
def rI (C : Int → Int → Prop) (g : Int → Int → V) : R2 := fun x y H Q => ∃ i j, x = .int i ∧ y = .int j ∧ C i j ∧ Q (g i j) H
def rI0 (g : Int → Int → V) : R2 := fun x y H Q => ∃ i j, x = .int i ∧ y = .int j ∧ Q (g i j) H
def rU (g : Int → V) : V → Hp → VK → Prop := fun x H Q => ∃ i, x = .int i ∧ Q (g i) H

section
variable {X : Cx} {a b c : Expr} {ta tb tc : TE} {pos : Pos}

theorem binT (ha : PE X a ta) (hb : PE X b tb) {pins : List (Addr × Obj)} {s : Shared} {σ : St} {H : Hp} {R : V → V → Hp → Prop} (I : Inv X pins σ H s)
    (h : ta σ H fun x H1 => tb σ H1 fun y H2 => R x y H2) {Q : Value → Shared → Prop} {f : Value → Value → Sem Value}
    (hf : ∀ v u s2 x y H2, Inv X pins σ H2 s2 → RelV x v → RelV y u → R x y H2 → wpAny (model X.prog X.w) X.A (f v u) Q X.xe s2) :
    wpAny (model X.prog X.w) X.A (eval a X.env) (fun v s₁ => wpAny (model X.prog X.w) X.A (eval b X.env) (fun u s₂ => wpAny (model X.prog X.w) X.A (f v u) Q X.xe s₂) X.xe s₁) X.xe s := by
  refine thn (ha pins s σ H _ I h) fun v s1 ⟨x, H1, I1, r1, q1⟩ => ?_
  refine thn (hb pins s1 σ H1 _ I1 q1) fun u s2 ⟨y, H2, I2, r2, q2⟩ => ?_
  exact hf v u s2 x y H2 I2 r1 r2 q2

theorem pe_op {op : Operator} {r : R2} (ho : OpR X (binaryOp op) r) (ha : PE X a ta) (hb : PE X b tb) : PE X (.BinOp a op b pos) (tOp r ta tb) := by
  intro pins s σ H Q I h
  exact wpAny_BinOp (binT ha hb I h fun v u s2 x y H2 I2 rx ry q => ho pins s2 σ H2 x y v u Q I2 rx ry q)
theorem pe_un {op : UnaryOp} {r : V → Hp → VK → Prop} (ho : UnR X (unaryOp op) r) (ha : PE X a ta) : PE X (.UnaryOp op a pos) (tUn r ta) := by
  intro pins s σ H Q I h
  exact UnaryOp_ (thn (ha pins s σ H _ I h) fun v s1 ⟨x, H1, I1, r1, q1⟩ => ho pins s1 σ H1 x v Q I1 r1 q1)
/-! ### ints -/
theorem opI {f : Value → Value → Sem Value} {C : Int → Int → Prop} {g : Int → Int → Int}
    (rule : ∀ (i j : Int) (t u : Tok) (s : Shared) (Q : Value → Shared → Prop) (E : Value → Shared → Prop), C i j → Q (.int (g i j) s.toks) { s with toks := s.toks + 1 } → wpAny (model X.prog X.w) X.A (f (.int i t) (.int j u)) Q E s) :
    OpR X f (rI C fun i j => .int (g i j)) := by
  intro pins s σ H x y v u Q I rx ry h
  obtain ⟨i, j, rfl, rfl, hc, q⟩ := h
  obtain ⟨t, rfl⟩ := rx
  obtain ⟨t', rfl⟩ := ry
  exact rule i j t t' s _ _ hc ⟨.int (g i j), H, I.tok _, ⟨_, rfl⟩, q⟩
theorem opI0 {f : Value → Value → Sem Value} {g : Int → Int → Int}
    (rule : ∀ (i j : Int) (t u : Tok) (s : Shared) (Q : Value → Shared → Prop) (E : Value → Shared → Prop), Q (.int (g i j) s.toks) { s with toks := s.toks + 1 } → wpAny (model X.prog X.w) X.A (f (.int i t) (.int j u)) Q E s) :
    OpR X f (rI0 fun i j => .int (g i j)) := by
  intro pins s σ H x y v u Q I rx ry h
  obtain ⟨i, j, rfl, rfl, q⟩ := h
  obtain ⟨t, rfl⟩ := rx
  obtain ⟨t', rfl⟩ := ry
  exact rule i j t t' s _ _ ⟨.int (g i j), H, I.tok _, ⟨_, rfl⟩, q⟩
theorem opB0 {f : Value → Value → Sem Value} {g : Int → Int → Bool}
    (rule : ∀ (i j : Int) (t u : Tok) (s : Shared) (Q : Value → Shared → Prop) (E : Value → Shared → Prop), Q (.bool (g i j)) s → wpAny (model X.prog X.w) X.A (f (.int i t) (.int j u)) Q E s) :
    OpR X f (rI0 fun i j => .bl (g i j)) := by
  intro pins s σ H x y v u Q I rx ry h
  obtain ⟨i, j, rfl, rfl, q⟩ := h
  obtain ⟨t, rfl⟩ := rx
  obtain ⟨t', rfl⟩ := ry
  exact rule i j t t' s _ _ ⟨.bl (g i j), H, I, rfl, q⟩

def CDiv (i j : Int) : Prop := 0 < j ∧ j < 1073741824
def CDivN (i j : Int) : Prop := j ≠ 0 ∧ j.natAbs < 1073741824
def CPow (i j : Int) : Prop := 0 ≤ j ∧ j ≤ 1000000 ∧ i.natAbs < 2 ^ 64
def CMul (i j : Int) : Prop := (-(2 ^ 64) < i ∧ i < 2 ^ 64) ∨ (-(2 ^ 64) < j ∧ j < 2 ^ 64)
theorem CMul.ok {i j : Int} (h : CMul i j) : IntMulOk i j := by
  rcases h with ⟨h1, h2⟩ | ⟨h1, h2⟩
  · exact .of_left (intBits_le_64 h1 h2)
  · exact .of_right (intBits_le_64 h1 h2)
theorem op_add : OpR X (binaryOp .Add) (rI0 fun i j => .int (i + j)) := opI0 fun _ _ _ _ _ _ _ q => add_int q
theorem op_sub : OpR X (binaryOp .Sub) (rI0 fun i j => .int (i - j)) := opI0 fun _ _ _ _ _ _ _ q => sub_int q
theorem op_mul : OpR X (binaryOp .Mult) (rI CMul fun i j => .int (i * j)) := opI fun _ _ _ _ _ _ _ hc q => mul_int q hc.ok
/-- // by a positive divisor -/
theorem op_fdiv : OpR X (binaryOp .FloorDiv) (rI CDiv fun i j => .int (i / j)) := opI fun i j _ _ _ _ _ hc q => by
  have h1 : (0 : Int) < j := hc.1
  have h2 : j < 1073741824 := hc.2
  exact floordiv_int (by omega) (by rw [Int.fdiv_eq_ediv_of_nonneg i (by omega)]; exact q) (.inl (PyProof.noPylong_small (by omega)))
/-- % by a positive divisor of any size -/
theorem op_mod : OpR X (binaryOp .Mod) (rI (fun _ j => 0 < j) fun i j => .int (i % j)) := opI fun i j _ _ _ _ _ hc q => by
  have h1 : (0 : Int) < j := hc
  exact mod_int' (by omega) (by rw [Int.fmod_eq_emod_of_nonneg i (by omega)]; exact q)
theorem unI {f : Value → Sem Value} {g : Int → Int}
    (rule : ∀ (i : Int) (t : Tok) (s : Shared) (Q : Value → Shared → Prop) (E : Value → Shared → Prop), Q (.int (g i) s.toks) { s with toks := s.toks + 1 } → wpAny (model X.prog X.w) X.A (f (.int i t)) Q E s) :
    UnR X f (rU fun i => .int (g i)) := by
  intro pins s σ H x v Q I rx h
  obtain ⟨i, rfl, q⟩ := h
  obtain ⟨t, rfl⟩ := rx
  exact rule i t s _ _ ⟨.int (g i), H, I.tok _, ⟨_, rfl⟩, q⟩
theorem un_neg : UnR X (unaryOp .USub) (rU fun i => .int (-i)) := unI fun _ _ _ _ _ q => neg_int q
end

/-! ### comparisons -/
/-- the scalars that == tells apart as data does -/
def scal : V → V → Bool
  | .non, .non => true | .non, .int _ => true | .int _, .non => true | .non, .bl _ => true | .bl _, .non => true | .non, .str _ => true | .str _, .non => true
  | .int _, .int _ => true | .bl _, .bl _ => true | .str _, .str _ => true | .byt _, .byt _ => true
  | .int _, .str _ => true | .str _, .int _ => true | .bl _, .str _ => true | .str _, .bl _ => true
  | _, _ => false
def rEq : R2 := fun x y H Q => scal x y = true ∧ Q (.bl (decide (x = y))) H
def rNe : R2 := fun x y H Q => scal x y = true ∧ Q (.bl (!decide (x = y))) H

section
variable {X : Cx} {a b c : Expr} {ta tb tc : TE} {pos : Pos}
theorem fin_bl {pins : List (Addr × Obj)} {σ : St} {H : Hp} {s : Shared} {Q : VK} {k k' : Bool} (I : Inv X pins σ H s) (q : Q (.bl k) H) (e : k = k') : EP X pins σ Q (.bool k') s := by
  subst e
  exact ⟨.bl k, H, I, rfl, q⟩
theorem op_lt : OpR X (compareOp .Lt) (rI0 fun i j => .bl (decide (i < j))) := opB0 fun _ _ _ _ _ _ _ q => lt_int q
theorem op_le : OpR X (compareOp .LtE) (rI0 fun i j => .bl (decide (i ≤ j))) := opB0 fun _ _ _ _ _ _ _ q => le_int q
theorem op_gt : OpR X (compareOp .Gt) (rI0 fun i j => .bl (decide (j < i))) := opB0 fun _ _ _ _ _ _ _ q => gt_int q
theorem op_ge : OpR X (compareOp .GtE) (rI0 fun i j => .bl (decide (j ≤ i))) := opB0 fun _ _ _ _ _ _ _ q => ge_int q
/-- is None, is not None: the right side a value none -/
theorem op_isN : OpR X (compareOp .Is) (fun x y H Q => y = .non ∧ Q (.bl (decide (x = .non))) H) := by
  intro pins s σ H x y v u Q I rx ry h
  obtain ⟨rfl, q⟩ := h
  cases ry
  refine is_none_gen (fin_bl I q ?_)
  cases x <;> first
    | (cases rx; rfl)
    | (obtain ⟨t, rfl⟩ := rx; rfl)
theorem op_notN : OpR X (compareOp .IsNot) (fun x y H Q => y = .non ∧ Q (.bl (!decide (x = .non))) H) := by
  intro pins s σ H x y v u Q I rx ry h
  obtain ⟨rfl, q⟩ := h
  cases ry
  refine isnot_none_gen (fin_bl I q ?_)
  cases x <;> first
    | (cases rx; rfl)
    | (obtain ⟨t, rfl⟩ := rx; rfl)

/-- is, is not of two objects that are tracked lists or instances -/
def isObj : HO → Bool
  | .lst _ => true
  | .ins _ _ _ => true
  | _ => false
/-- two rules for one operation: by cases -/
theorem OpR.or {f : Value → Value → Sem Value} {r r' : R2} (h : OpR X f r) (h' : OpR X f r') : OpR X f (fun x y H Q => r x y H Q ∨ r' x y H Q) := by
  intro pins s σ H x y v u Q I rx ry q
  rcases q with q | q
  · exact h pins s σ H x y v u Q I rx ry q
  · exact h' pins s σ H x y v u Q I rx ry q

theorem nomark (b : Expr) {op : CmpOp} (h : op ≠ .In := by decide) (h2 : op ≠ .NotIn := by decide) : behindInMarks op b = false := by
  have e1 : (op == CmpOp.In) = false := by cases op <;> first | rfl | exact absurd rfl h
  have e2 : (op == CmpOp.NotIn) = false := by cases op <;> first | rfl | exact absurd rfl h2
  cases b <;> simp [behindInMarks, e1, e2]
/-- a comparison as a value; hm: nomark b, or (for in, not in) by with_unfolding_all rfl -/
theorem pe_cmpR {op : CmpOp} {r : R2} (ho : OpR X (compareOp op) r) (ha : PE X a ta) (hb : PE X b tb) (hm : behindInMarks op b = false) : PE X (.Compare a [op] [b] pos) (tOp r ta tb) := by
  intro pins s σ H Q I h
  exact wpAny_Compare1 (binT ha hb I h fun v u s2 x y H2 I2 rx ry q => ho pins s2 σ H2 x y v u Q I2 rx ry q) hm
/-- a reading of a value as a test -/
def tTest (t : TE) : TT := fun σ H Q => t σ H fun x H' => ∃ k, x = .bl k ∧ Q k H'
theorem pt_cmpR {op : CmpOp} {r : R2} (ho : OpR X (compareOp op) r) (ha : PE X a ta) (hb : PE X b tb) (hm : behindInMarks op b = false) : PT X (.Compare a [op] [b] pos) (tTest (tOp r ta tb)) := by
  intro pins s σ H Q I h
  refine wpAny_isTrue_Compare1 (thn (ha pins s σ H _ I h) fun v s1 ⟨x, H1, I1, r1, q1⟩ => thn (hb pins s1 σ H1 _ I1 q1) fun u s2 ⟨y, H2, I2, r2, q2⟩ =>
    thn (ho pins s2 σ H2 x y v u _ I2 r1 r2 q2) fun c s3 ⟨z, H3, I3, r3, k, e, q3⟩ => ?_) hm
  subst e
  cases r3
  exact wpAny_truthy_bool ⟨H3, I3, q3⟩
/-- a op1 b op2 c -/
def tChain (r r' : R2) (ta tb tc : TE) : TE := fun σ H Q => ta σ H fun x H1 => tb σ H1 fun y H2 => r x y H2 fun z H3 => ∃ k, z = .bl k ∧
  (if k = true then tc σ H3 fun w' H4 => r' y w' H4 Q else Q (.bl false) H3)
/-! ### truth -/
/-- a value's truth by the abstract heap -/
def TruV (K : PySem.W.Frag) (x : V) (H : Hp) (k : Bool) : Prop :=
  match x with
  | .non => k = false
  | .bl b => k = b
  | .int i => k = (i != 0)
  | .str y => y.length ≤ sizeLine ∧ k = ((y.length : Int) != 0)
  | .byt y => y.size ≤ sizeLine ∧ k = ((y.size : Int) != 0)
  | .ref p => (∃ xs, SqL K H p xs ∧ k = !xs.isEmpty) ∨ (∃ xs, SqT K H p xs ∧ k = !xs.isEmpty) ∨ ∃ kvs, H p = some (.dK kvs) ∧ k = !kvs.isEmpty
  | _ => False
theorem isEmpty_kv {κ : Type} {kvs : List (κ × V)} {vs : List (κ × Value)} (r : KV kvs vs) : (!vs.isEmpty) = !kvs.isEmpty := by
  cases r <;> rfl
theorem isEmpty_of {xs : List V} {its : List Value} (r : Vals xs its) : (!its.toArray.isEmpty) = !xs.isEmpty := by
  cases r <;> simp
theorem line63 : (sizeLine : Nat) < 2 ^ 63 := by rw [sizeLine_eq]; decide
theorem tru_ok : TruR X (fun x H Q => ∃ k, TruV X.K x H k ∧ Q k H) := by
  intro pins s σ H x v Q I rx h
  obtain ⟨k, e, q⟩ := h
  have hl := line63
  have hs : sizeLine = 16777216 := sizeLine_eq
  cases x with
  | non =>
    cases rx
    have e' : k = false := e
    subst e'
    exact truthy_none ⟨H, I, q⟩
  | bl b =>
    cases rx
    have e' : k = b := e
    subst e'
    exact wpAny_truthy_bool ⟨H, I, q⟩
  | int i =>
    obtain ⟨t, rfl⟩ := rx
    have e' : k = (i != 0) := e
    subst e'
    exact PySem.P.truthy_int ⟨H, I, q⟩
  | str y =>
    obtain ⟨t, rfl⟩ := rx
    obtain ⟨hy, e'⟩ : y.length ≤ sizeLine ∧ k = ((y.length : Int) != 0) := e
    subst e'
    exact PySem.P.truthy_str (by omega) ⟨H, I.tok _, q⟩
  | byt y =>
    obtain ⟨t, rfl⟩ := rx
    obtain ⟨hy, e'⟩ : y.size ≤ sizeLine ∧ k = ((y.size : Int) != 0) := e
    subst e'
    exact PySem.W.truthy_bytes (by omega) ⟨H, I.tok _, q⟩
  | ref p =>
    cases rx
    have e' : (∃ xs, SqL X.K H p xs ∧ k = !xs.isEmpty) ∨ (∃ xs, SqT X.K H p xs ∧ k = !xs.isEmpty) ∨ ∃ kvs, H p = some (.dK kvs) ∧ k = !kvs.isEmpty := e
    rcases e' with ⟨xs, hx, e'⟩ | ⟨xs, hx, e'⟩ | ⟨kvs, hx, e'⟩
    · subst e'
      obtain ⟨its, r, pl, hz⟩ := I.list hx
      have hlen := r.length
      exact wpAny_truthy_list pl.isList (by simp only [List.size_toArray]; omega) ⟨H, I.tok _, by rw [isEmpty_of r]; exact q⟩
    · subst e'
      obtain ⟨its, r, pl, hz⟩ := I.tuple hx
      have hlen := r.length
      exact truthy_tuple pl (by simp only [List.size_toArray]; omega) ⟨H, I.tok _, by rw [isEmpty_of r]; exact q⟩
    · subst e'
      obtain ⟨hz, hS, vs, r, m⟩ : kvs.length ≤ sizeLine ∧ (p == sysModules) = false ∧ ∃ vs, KV kvs vs ∧ s.heap.DictOf (mixKind X.prog X.w) p vs := I.hok p _ hx
      have hlen : kvs.length = vs.length := Paired.length r
      exact wpAny_truthy_dict hS m (by omega) ⟨H, I.tok _, by rw [isEmpty_kv r]; exact q⟩
  | _ => exact (show False from e).elim
/-- any expression whose test is its value's truth (a name, a call, a subscript, a field ..: he by fun _ => rfl) -/
theorem pt_truth (ha : PE X a ta) (he : ∀ whole, isTrue a X.env whole = (do let v ← whole; standAt a.pos; holding [v] (truthy v))) :
    PT X a (fun σ H Q => ta σ H fun x H' => ∃ k, TruV X.K x H' k ∧ Q k H') := by
  intro pins s σ H Q I h
  exact isTrue_plain (thn (ha pins s σ H _ I h) fun v s1 ⟨x, H1, I1, r1, q1⟩ => tru_ok pins s1 σ H1 x v Q I1 r1 q1) (he _)

theorem op_add_str : OpR X (binaryOp .Add) (fun x y H Q => ∃ i j, x = .str i ∧ y = .str j ∧ i.length + j.length ≤ sizeLine ∧ Q (.str (i ++ j)) H) := by
  intro pins s σ H x y v u Q I rx ry h
  obtain ⟨i, j, rfl, rfl, hz, q⟩ := h
  obtain ⟨t, rfl⟩ := rx
  obtain ⟨t', rfl⟩ := ry
  exact add_str (fun t' tk => ⟨.str (i ++ j), H, I.tok _, ⟨_, rfl⟩, q⟩) hz
def PlainIxT (b : Expr) : Prop := ∀ o i, subscripted b false o i = operate [o, i] (getItem o i)
/-! ### scalar builtins, by CallR -/
theorem vals1 {x : V} {us : List Value} (r : Vals [x] us) : ∃ u, us = [u] ∧ RelV x u := by
  cases r with
  | cons r1 r2 => cases r2; exact ⟨_, rfl, r1⟩
theorem vals2 {x y : V} {us : List Value} (r : Vals [x, y] us) : ∃ u w', us = [u, w'] ∧ RelV x u ∧ RelV y w' := by
  cases r with
  | cons r1 r2 =>
    cases r2 with
    | cons r3 r4 => cases r4; exact ⟨_, _, rfl, r1, r3⟩
theorem call_max2 (hc : X.calm = true) : CallR X (.builtin "max") (fun xs H Q => ∃ i j, xs = [.int i, .int j] ∧ Q (.int (if j > i then j else i)) H) := by
  intro pins s σ H xs us Q I r h
  obtain ⟨i, j, rfl, q⟩ := h
  obtain ⟨u, w', rfl, ⟨t, rfl⟩, ⟨t', rfl⟩⟩ := vals2 r
  refine max_two_ints (I.ok.hd hc) fun h' tk k => ⟨_, H, I.kept k, ?_, q⟩
  by_cases hj : j > i
  · rw [if_pos hj, if_pos hj]; exact ⟨_, rfl⟩
  · rw [if_neg hj, if_neg hj]; exact ⟨_, rfl⟩
theorem call_min2 (hc : X.calm = true) : CallR X (.builtin "min") (fun xs H Q => ∃ i j, xs = [.int i, .int j] ∧ Q (.int (if j < i then j else i)) H) := by
  intro pins s σ H xs us Q I r h
  obtain ⟨i, j, rfl, q⟩ := h
  obtain ⟨u, w', rfl, ⟨t, rfl⟩, ⟨t', rfl⟩⟩ := vals2 r
  refine min_two_ints (I.ok.hd hc) fun h' tk k => ⟨_, H, I.kept k, ?_, q⟩
  by_cases hj : j < i
  · rw [if_pos hj, if_pos hj]; exact ⟨_, rfl⟩
  · rw [if_neg hj, if_neg hj]; exact ⟨_, rfl⟩
/-- len of a str, a bytes, a list, a tuple -/
def LenV (K : PySem.W.Frag) (x : V) (H : Hp) (n : Nat) : Prop :=
  match x with
  | .str y => y.length ≤ sizeLine ∧ n = y.length
  | .byt y => y.size ≤ sizeLine ∧ n = y.size
  | .ref p => (∃ xs, SqL K H p xs ∧ n = xs.length) ∨ ∃ xs, SqT K H p xs ∧ n = xs.length
  | _ => False
end
end L2

namespace L2
open PySem PySem.Spec PyProof.Rows

/-! ### an instance, its attributes a map -/
structure ObjM (h : Heap) (x dx C : Addr) (mA : Str → Option Value) : Prop where
  obj : h.get? x = some (PySem.W.instObj C dx)
  ns : h.Ns1 dx mA
  ne : dx ≠ x

theorem lookIn_ns {h : Heap} {dx : Addr} {mA : Str → Option Value} (n : h.Ns1 dx mA) : ∃ od, h.get? dx = some od ∧ ∀ name, PySem.W.lookIn name od = some (mA name) := by
  obtain ⟨o, es, ep, ho, hd, hk, _, hm⟩ := n
  refine ⟨o, ho, fun name => ?_⟩
  have e := hm name
  unfold nsFind findBy at e
  rw [← Array.find?_toList] at e
  unfold PySem.W.lookIn
  rw [hd]
  dsimp only
  split
  · rename_i y q
    rw [q] at e
    exact congrArg some e
  · rename_i q
    rw [q] at e
    have a : es.toList.any (·.refKey) = false := by
      rw [List.any_eq_false]
      intro y hy
      obtain ⟨z, t, hkey⟩ := hk y (Array.mem_toList_iff.mp hy)
      simp [DictEntry.refKey, hkey]
    have a' : ¬ es.toList.any (·.refKey) = true := by rw [a]; exact Bool.false_ne_true
    rw [if_neg a']
    exact congrArg some e

theorem ObjM.look {h : Heap} {x dx C : Addr} {mA : Str → Option Value} (I : ObjM h x dx C mA) : ∃ od, PySem.W.InstAt h x (PySem.W.instObj C dx) C (some od) ∧ ∀ name, PySem.W.lookIn name od = some (mA name) :=
  let ⟨od, ho, hl⟩ := lookIn_ns I.ns
  ⟨od, ⟨I.obj, rfl, rfl, ho⟩, hl⟩

section
variable {prog : Program} {w : World} {A : Around} {E : Value → Shared → Prop} {s : Shared} {K : PySem.W.Frag} {x dx C f : Addr} {mA : Str → Option Value} {name : Str} {v : Value}

theorem get_map {expr : Bool} {Q : Value → Shared → Prop} (X : K.In s.heap) (I : ObjM s.heap x dx C mA) (hg : PySem.W.plainGet K C name = true) (hh : PySem.W.hasDictIn K C = true)
    (ha : PySem.W.findIn K (.ref C) name = some none) (hv : mA name = some v) (hv' : PySem.W.handedIn v = true) (h : Q v { s with toks := s.toks + 1 }) :
    wpAny (model prog w) A (getAttr (.ref x) name expr) Q E s := by
  obtain ⟨od, J, hl⟩ := I.look
  exact PySem.W.get_value X J (PySem.W.plainGet_of hg).1 (PySem.W.findObj_own hh ha rfl (by rw [hl, hv])) hv' h

theorem get_meth {pl : Sem Bool} {Q : Value × List Value → Shared → Prop} (X : K.In s.heap) (I : ObjM s.heap x dx C mA) (hg : PySem.W.plainGet K C name = true)
    (hf : PySem.W.findIn K (.ref C) name = some (some (.ref f))) (ht : PySem.W.isFn K (.ref f) = true) (hv : mA name = none) (h : Q (.ref f, [.ref x]) s) :
    wpAny (model prog w) A (getMethod (.ref x) name pl) Q E s := by
  obtain ⟨od, J, hl⟩ := I.look
  exact PySem.W.method_fn X J (PySem.W.plainGet_of hg).1 (PySem.W.plainGet_of hg).2 hf (beq_iff_eq.mp ht) (by show (PySem.W.lookIn name od).map (·.isSome) = some false; rw [hl, hv]; rfl) h

theorem set_map {ns : List Str} {Q : Unit → Shared → Prop} (X : K.In s.heap) (I : ObjM s.heap x dx C mA)
    (hs : PySem.W.findIn K (.ref C) "__setattr__" = some (some (.builtin "object.__setattr__"))) (hp : PySem.W.plainOver K C = true) (ht : PySem.W.takerIn K C name = some none) (hh : PySem.W.hasDictIn K C = true)
    (hw : PySem.Within mA ns) (hsz : ns.length ≤ sizeLine)
    (h : ∀ h', ObjM h' x dx C (fun y => if y = name then some v else mA y) → Heap.SameBut dx s.heap h' → Q () { s with heap := h', toks := s.toks + 2 }) :
    wpAny (model prog w) A (setAttr (.ref x) name v) Q E s := by
  obtain ⟨od, J, hl⟩ := I.look
  refine PySem.W.set_plain X J hs (PySem.W.osa_open (s := { s with toks := s.toks + 1 }) (r := none) X J hp ht fun b => ?_)
  obtain ⟨cd, hc, hd'⟩ := PySem.W.any_some hh
  have hx : s.heap.get? x = some ⟨.ref C, some dx, .plain, #[]⟩ := I.obj
  refine wpAny_bind (wpAny_pure (wpAny_bind (wpAny_bind (wpAny_loadPart hx (wpAny_bind (PySem.W.Looks.here (s := { s with toks := s.toks + 1 }) (PySem.W.looks_clsIn X hc) ?_))))))
  rw [hd']
  refine wpAny_pure (a := some dx) (wpAny_bind (wpAny_pure (wpAny_bind ?_)))
  refine wpAny_nsSet1 (s := { s with toks := s.toks + 1 }) I.ns fun h' hn2 hs2 => ?_
  obtain ⟨oD, esD, epD, hoD, hdD, hcD⟩ := hn2.count (PySem.Within.cons name v hw)
  refine wpAny_bind (wpAny_lookBehind hoD (by rw [hdD]; exact pastItsLine_dict (Nat.le_trans hcD (by rw [List.length_cons]; omega))) ?_)
  exact wpAny_pure (h _ ⟨(hs2.2 _ (Ne.symm I.ne)).trans I.obj, hn2, I.ne⟩ hs2)

/-- C(..): the dict at the heap's end, the instance behind it; then its __init__ -/
theorem make_map {R : Result → Shared → Prop} {vs : List Value} {kw : List (Str × Value)} (X : K.In s.heap) (hm : PySem.W.makesIn K C = true)
    (hi : PySem.W.findIn K (.ref C) "__init__" = some (some (.ref f))) (hf : PySem.W.typeIn K (.ref f) = some (.type "function"))
    (h : codeAny (model prog w) (A.under (.builtin "type.__call__" ⟨.ref C :: vs, kw⟩)) (.call (.ref f) ⟨.ref (s.heap.objs.size + 1) :: vs, kw⟩) (PySem.W.InitBack (s.heap.objs.size + 1) R)
      { s with heap := (s.heap.push PySem.W.emptyDict).push (PySem.W.instObj C s.heap.objs.size) }) :
    codeAny (model prog w) A (.call (.ref C) ⟨vs, kw⟩) R s := by
  obtain ⟨hh, g, d, t, os⟩ := s
  exact PySem.W.make_core (PySem.W.makes_of X hm) (PySem.W.looks_findIn X hi) (fun self => PySem.W.bind_fn X self hf) (.inl rfl) h
end

/-! ### the attributes as a list of pairs -/
def putF (f : Str) (v : V) : List (Str × V) → List (Str × V)
  | [] => [(f, v)]
  | (g, x) :: r => if g = f then (g, v) :: r else (g, x) :: putF f v r
theorem lookup_putF (f g : Str) (v : V) : ∀ fs : List (Str × V), (putF f v fs).lookup g = if g = f then some v else fs.lookup g
  | [] => by
    show List.lookup g [(f, v)] = _
    by_cases h : g = f
    · have hb : (g == f) = true := beq_iff_eq.mpr h
      simp only [List.lookup, hb, if_pos h]
    · have hb : (g == f) = false := beq_eq_false_iff_ne.mpr h
      simp only [List.lookup, hb, if_neg h]
  | (k, x) :: r => by
    have ih := lookup_putF f g v r
    rw [show putF f v ((k, x) :: r) = (if k = f then (k, v) :: r else (k, x) :: putF f v r) from rfl]
    by_cases hk : k = f
    · rw [if_pos hk]
      by_cases h : g = k
      · have hb : (g == k) = true := beq_iff_eq.mpr h
        simp only [List.lookup, hb, if_pos (h.trans hk)]
      · have hb : (g == k) = false := beq_eq_false_iff_ne.mpr h
        simp only [List.lookup, hb, if_neg (fun e : g = f => h (e.trans hk.symm))]
    · rw [if_neg hk]
      by_cases h : g = k
      · have hb : (g == k) = true := beq_iff_eq.mpr h
        simp only [List.lookup, hb, if_neg (fun e : g = f => hk (h.symm.trans e))]
      · have hb : (g == k) = false := beq_eq_false_iff_ne.mpr h
        simp only [List.lookup, hb]
        exact ih
theorem keys_putF (f : Str) (v : V) : ∀ fs : List (Str × V), f ∈ (putF f v fs).map (·.1) ∧ ∀ g, g ∈ fs.map (·.1) → g ∈ (putF f v fs).map (·.1)
  | [] => ⟨by simp [putF], fun g h => by simp at h⟩
  | (k, x) :: r => by
    obtain ⟨i1, i2⟩ := keys_putF f v r
    rw [show putF f v ((k, x) :: r) = (if k = f then (k, v) :: r else (k, x) :: putF f v r) from rfl]
    by_cases hk : k = f
    · rw [if_pos hk]
      subst hk
      exact ⟨by simp, fun g h => by simpa using h⟩
    · rw [if_neg hk]
      refine ⟨?_, fun g h => ?_⟩
      · rw [List.map_cons]
        exact List.mem_cons_of_mem _ i1
      · rw [List.map_cons] at h ⊢
        rcases List.mem_cons.mp h with e | e
        · exact List.mem_cons.mpr (.inl e)
        · exact List.mem_cons_of_mem _ (i2 g e)
theorem length_putF (f : Str) (v : V) : ∀ fs : List (Str × V), (putF f v fs).length ≤ fs.length + 1
  | [] => by simp [putF]
  | (k, x) :: r => by
    have ih := length_putF f v r
    rw [show putF f v ((k, x) :: r) = (if k = f then (k, v) :: r else (k, x) :: putF f v r) from rfl]
    by_cases hk : k = f
    · rw [if_pos hk, List.length_cons, List.length_cons]; omega
    · rw [if_neg hk, List.length_cons, List.length_cons]; omega

theorem RelO.some_of {v : V} {o : Option Value} (r : RelO (some v) o) : ∃ u, o = some u ∧ RelV v u := by
  cases o with
  | none => exact (show False from r).elim
  | some u => exact ⟨u, rfl, r⟩
theorem RelO.none_of {o : Option Value} (r : RelO none o) : o = none := by
  cases o with
  | none => rfl
  | some u => exact (show False from r).elim
theorem handed_of {v : V} {u : Value} (r : RelV v u) : PySem.W.handedIn u = true := by
  cases v with
  | non => cases (show u = Value.none from r); rfl
  | bl b => cases (show u = Value.bool b from r); rfl
  | int i => obtain ⟨t, e⟩ := (show ∃ t, u = Value.int i t from r); cases e; rfl
  | str x => obtain ⟨t, e⟩ := (show ∃ t, u = Value.str x t from r); cases e; rfl
  | byt b => obtain ⟨t, e⟩ := (show ∃ t, u = Value.bytes b t from r); cases e; rfl
  | flt b => obtain ⟨t, e⟩ := (show ∃ t, u = Value.float b t from r); cases e; rfl
  | ref a => cases (show u = Value.ref a from r); rfl
  | ty n => cases (show u = Value.type n from r); rfl

section
variable {P : Program} {w : World} {H H' : Hp} {h h' : Heap} {a C dx : Addr} {fs fs' : List (Str × V)}
theorem ins_get (hok : HOk P w H h) (e : H a = some (.ins C dx fs)) : ∃ mA, ObjM h a dx C mA ∧ (∀ f, RelO (fs.lookup f) (mA f)) ∧ PySem.Within mA (fs.map (·.1)) ∧ fs.length ≤ 1000 ∧ H dx = some (.own a) := by
  obtain ⟨d, z, ne, ob, mA, n, r, q⟩ := (show ObjOk P w H h a (.ins C dx fs) from hok a _ e)
  exact ⟨mA, ⟨ob, n, ne⟩, r, q, z, d⟩
end

/-! ### what of the text a class must have -/
structure Cls (K : PySem.W.Frag) (C : Addr) : Prop where
  pg : PySem.W.plainGet K C Str.empty = true
  hd : PySem.W.hasDictIn K C = true
  po : PySem.W.plainOver K C = true
  sa : PySem.W.findIn K (.ref C) "__setattr__" = some (some (.builtin "object.__setattr__"))
theorem Cls.get {K : PySem.W.Frag} {C : Addr} (c : Cls K C) (f : Str) : PySem.W.plainGet K C f = true := c.pg
/-- no class of it has the name -/
def NoAttr (K : PySem.W.Frag) (C : Addr) (f : Str) : Prop := PySem.W.findIn K (.ref C) f = some none
theorem NoAttr.taker {K : PySem.W.Frag} {C : Addr} {f : Str} (n : NoAttr K C f) : PySem.W.takerIn K C f = some none := by
  unfold PySem.W.takerIn
  rw [show PySem.W.findIn K (.ref C) f = some none from n]
  rfl
/-- a constant of the class -/
structure Con (K : PySem.W.Frag) (C : Addr) (f : Str) (v : V) (u : Value) : Prop where
  at_ : PySem.W.findIn K (.ref C) f = some (some u)
  rel : RelV v u
  get : PySem.W.specialIn K u "__get__" = some none
  cp : PySem.W.copiedNames.contains f = false
/-- a method: a plain def of the class or of one above it -/
structure Meth (K : PySem.W.Frag) (C : Addr) (m : Str) (f : Addr) : Prop where
  at_ : PySem.W.findIn K (.ref C) m = some (some (.ref f))
  fn : PySem.W.isFn K (.ref f) = true
  kp : PySem.W.keepIn K (.ref f) = true

section
variable {X : Cx} {pins : List (Addr × Obj)} {σ : St} {H : Hp} {s : Shared} {a C dx : Addr} {fs : List (Str × V)} {f : Str} {v : V} {A : Around} {E : Value → Shared → Prop}

theorem getattr_ok {b : Bool} {Q : Value → Shared → Prop} (I : Inv X pins σ H s) (e : H a = some (.ins C dx fs)) (c : Cls X.K C) (n : NoAttr X.K C f) (l : fs.lookup f = some v)
    (h : ∀ u s', Inv X pins σ H s' → RelV v u → Q u s') : wpAny (model X.prog X.w) A (getAttr (.ref a) f b) Q E s := by
  obtain ⟨mA, O, r, _, _, _⟩ := ins_get I.hok e
  obtain ⟨u, hu, ru⟩ := RelO.some_of (v := v) (o := mA f) (by rw [← l]; exact r f)
  exact get_map I.kIn O (c.get f) c.hd n hu (handed_of ru) (h u _ (I.tok _) ru)

theorem getmeth_ok {m : Str} {g : Addr} {pl : Sem Bool} {Q : Value × List Value → Shared → Prop} (I : Inv X pins σ H s) (e : H a = some (.ins C dx fs)) (c : Cls X.K C) (k : Meth X.K C m g) (l : fs.lookup m = none)
    (h : Q (.ref g, [.ref a]) s) : wpAny (model X.prog X.w) A (getMethod (.ref a) m pl) Q E s := by
  obtain ⟨mA, O, r, _, _, _⟩ := ins_get I.hok e
  have hn : mA m = none := RelO.none_of (by rw [← l]; exact r m)
  exact get_meth I.kIn O (c.get m) k.at_ k.fn hn h

theorem setattr_ok {y : V} {u : Value} {Q : Unit → Shared → Prop} (I : Inv X pins σ H s) (e : H a = some (.ins C dx fs)) (c : Cls X.K C) (n : NoAttr X.K C f) (hl : fs.length < 1000) (ry : RelV y u)
    (h : ∀ s', Inv X pins σ (upd H a (.ins C dx (putF f y fs))) s' → Q () s') : wpAny (model X.prog X.w) A (setAttr (.ref a) f u) Q E s := by
  obtain ⟨mA, O, r, wi, _, ho⟩ := ins_get I.hok e
  have hz : (fs.map (·.1)).length ≤ sizeLine := by rw [List.length_map, sizeLine_eq]; omega
  refine set_map I.kIn O c.sa c.po n.taker c.hd wi hz fun h' O' sb => h _ ?_
  have hd : ∃ o, h'.get? dx = some o := let ⟨o, _, _, e', _⟩ := O'.ns; ⟨o, e'⟩
  refine I.write (x := a) (e := dx) (by rw [e]; exact True.intro) (.inr ho) (fun b q hb z => (sb.2 b hb).trans z) hd ?_
  refine ⟨by rw [upd_ne O.ne]; exact ho, ?_, O.ne, O'.obj, _, O'.ns, fun g => ?_, fun g hg => ?_⟩
  · have := length_putF f y fs; omega
  · show RelO ((putF f y fs).lookup g) (if g = f then some u else mA g)
    rw [lookup_putF]
    by_cases q : g = f
    · rw [if_pos q, if_pos q]; exact ry
    · rw [if_neg q, if_neg q]; exact r g
  · by_cases q : g = f
    · rw [q]; exact (keys_putF f y fs).1
    · refine (keys_putF f y fs).2 g (wi g fun z => hg ?_)
      show (if g = f then some u else mA g) = none
      rw [if_neg q]; exact z

/-- a new instance, tracked, without attributes -/
theorem Inv.made (I : Inv X pins σ H s) : Inv X pins σ (upd (upd H s.heap.objs.size (.own (s.heap.objs.size + 1))) (s.heap.objs.size + 1) (.ins C s.heap.objs.size []))
    { s with heap := (s.heap.push PySem.W.emptyDict).push (PySem.W.instObj C s.heap.objs.size) } := by
  have e1 : (s.heap.push PySem.W.emptyDict).get? s.heap.objs.size = some PySem.W.emptyDict := Heap.get?_push_size s.heap rfl
  have e2 : ((s.heap.push PySem.W.emptyDict).push (PySem.W.instObj C s.heap.objs.size)).get? (s.heap.objs.size + 1) = some (PySem.W.instObj C s.heap.objs.size) := by
    have := Heap.get?_push_size (s.heap.push PySem.W.emptyDict) (o := PySem.W.instObj C s.heap.objs.size) rfl
    rwa [Heap.size_push] at this
  have e3 : (s.heap.push PySem.W.emptyDict).Ns s.heap.objs.size (fun _ => none) := ⟨PySem.W.emptyDict, #[], _, e1, rfl, (fun e he => absurd he (by simp)), fun _ => rfl⟩
  have I1 := I.laid (a := s.heap.objs.size) (o := .own (s.heap.objs.size + 1)) (h' := s.heap.push PySem.W.emptyDict) (t' := s.toks) (fun b u q => Heap.get?_push_of_some _ q) (Nat.le_refl _) ⟨_, e1⟩
  refine I1.laid (a := s.heap.objs.size + 1) (o := .ins C s.heap.objs.size []) (t' := s.toks) (fun b u q => Heap.get?_push_of_some _ q) (Nat.le_of_eq (Heap.size_push _ _)) ?_
  have ne : s.heap.objs.size ≠ s.heap.objs.size + 1 := Nat.ne_of_lt (Nat.lt_succ_self _)
  refine ⟨by rw [upd_ne ne, upd_same], Nat.zero_le _, ne, e2, fun _ => none, (Heap.Ns1.of_empty e3).at fun o q => Heap.get?_push_of_some _ q, fun _ => True.intro, fun y hy => absurd rfl hy⟩

/-- e.f where nothing but the object is asked: through attributeBase (super) and the last hold -/
theorem attr_of {prog : Program} {w : World} {env : Env} {e : Expr} {f : Str} {pos : Pos} {s : Shared} {Q : Value → Shared → Prop} (hb : attributeBase e f env (eval e env) = eval e env)
    (h : wpAny (model prog w) A (eval e env) (fun o s₁ => wpAny (model prog w) A (getAttr o f true) Q E s₁) E s) : wpAny (model prog w) A (eval (.Attribute e f pos) env) Q E s :=
  Attribute_any_ h (by rw [arm_eval_Attribute, hb])
end

/-! ### readings and rules -/
/-- e.f, an attribute of the instance -/
def tFld (K : PySem.W.Frag) (ta : TE) (f : Str) : TE := fun σ H Q => ta σ H fun x H1 => ∃ a C dx fs v, x = .ref a ∧ H1 a = some (.ins C dx fs) ∧ Cls K C ∧ NoAttr K C f ∧ fs.lookup f = some v ∧ Q v H1
/-- e.f, a constant of the class -/
def tCon (K : PySem.W.Frag) (ta : TE) (f : Str) : TE := fun σ H Q => ta σ H fun x H1 => ∃ a C dx fs v u, x = .ref a ∧ H1 a = some (.ins C dx fs) ∧ Cls K C ∧ Con K C f v u ∧ fs.lookup f = none ∧ Q v H1
/-- e.f = value -/
def sFld (K : PySem.W.Frag) (ta tv : TE) (f : Str) : TS := fun D σ H => tv σ H fun y H1 => ta σ H1 fun x H2 => ∃ a C dx fs, x = .ref a ∧ H2 a = some (.ins C dx fs) ∧ Cls K C ∧ NoAttr K C f ∧ fs.length < 1000 ∧
  D.nx σ (upd H2 a (.ins C dx (putF f y fs)))
/-- an augmented operator on two values -/
def InOp (X : Cx) (op : Operator) (rd : V → V → Hp → VK → Prop) : Prop :=
  ∀ (pins : List (Addr × Obj)) (s : Shared) (σ : St) (H : Hp) (x y : V) (u v : Value) (Q : VK), Inv X pins σ H s → RelV x u → RelV y v → rd x y H Q → wpAny (model X.prog X.w) X.A (inplaceOp op u v) (EP X pins σ Q) X.xe s
/-- e.f op= value -/
def sFldAug (K : PySem.W.Frag) (ta tv : TE) (rd : V → V → Hp → VK → Prop) (f : Str) : TS := fun D σ H => ta σ H fun x H1 => ∃ a C dx fs v, x = .ref a ∧ H1 a = some (.ins C dx fs) ∧ Cls K C ∧ NoAttr K C f ∧ fs.lookup f = some v ∧
  tv σ H1 fun y H2 => rd v y H2 fun z H3 => ∃ dx' fs', H3 a = some (.ins C dx' fs') ∧ fs'.length < 1000 ∧ D.nx σ (upd H3 a (.ins C dx' (putF f z fs')))

section
variable {X : Cx} {o e value : Expr} {f : Str} {pos pos' tpos : Pos} {ta tv : TE}
theorem pe_fld (he : PE X e ta) (hb : attributeBase e f X.env (eval e X.env) = eval e X.env) : PE X (.Attribute e f pos) (tFld X.K ta f) := by
  intro pins s σ H Q I h
  refine attr_of hb (thn (he pins s σ H _ I h) fun u s1 ⟨x, H1, I1, rx, a, C, dx, fs, v, ex, ea, c, n, l, q⟩ => ?_)
  subst ex
  obtain rfl : u = Value.ref a := rx
  exact getattr_ok I1 ea c n l fun u' s2 I2 ru => ⟨v, H1, I2, ru, q⟩
theorem ps_fld (ha : PE X o ta) (hv : PE X value tv) (hs : swapsWith value (some (.Attribute o f pos')) pos.line X.env = pure false) : PS X (.Assign [.Attribute o f pos'] value pos) (sFld X.K ta tv f) := by
  intro pins s σ H D I h
  refine plainObj_wpAny_Assign_Attribute (thn (hv pins s σ H _ I h) fun u s1 ⟨y, H1, I1, ry, q⟩ => thn (ha pins s1 σ H1 _ I1 q) fun ov s2 ⟨x, H2, I2, rx, a, C, dx, fs, ex, ea, c, n, l, q2⟩ => ?_) hs
  subst ex
  obtain rfl : ov = Value.ref a := rx
  exact setattr_ok I2 ea c n l ry fun s3 I3 => ⟨σ, _, I3, q2⟩
def rAdd : V → V → Hp → VK → Prop := fun x y H Q => ∃ i j, x = .int i ∧ y = .int j ∧ Q (.int (i + j)) H
def rSub : V → V → Hp → VK → Prop := fun x y H Q => ∃ i j, x = .int i ∧ y = .int j ∧ Q (.int (i - j)) H
end

/-! ### isinstance -/
section
variable {X : Cx} {pins : List (Addr × Obj)} {σ : St} {H : Hp} {s : Shared} {A : Around} {E : Value → Shared → Prop} {Q : Value → Shared → Prop} {c : Value} {b : Bool}
/-- the type of a value, as the fragment's deciders take it; for an instance its class -/
inductive TyOf (K : PySem.W.Frag) (H : Hp) : V → Value → Prop where
  | non : TyOf K H .non (.type "NoneType")
  | bl (x : Bool) : TyOf K H (.bl x) (.type "bool")
  | int (i : Int) : TyOf K H (.int i) (.type "int")
  | str (x : Str) : TyOf K H (.str x) (.type "str")
  | flt (x : UInt64) : TyOf K H (.flt x) (.type "float")
  | lst {a : Addr} {xs : List V} (e : H a = some (.lst xs)) : TyOf K H (.ref a) (.type "list")
  | frz {a : Addr} {o : Obj} {xs : List V} (e : H a = some (.frz o (.lst xs))) : TyOf K H (.ref a) (.type "list")
  | tup {a : Addr} {xs : List V} (e : H a = some (.tup xs)) : TyOf K H (.ref a) (.type "tuple")
  | dK {a : Addr} {kvs : List (Key × V)} (e : H a = some (.dK kvs)) : TyOf K H (.ref a) (.type "dict")
  | dT {a : Addr} {kvs : List (List Key × V)} (e : H a = some (.dT kvs)) : TyOf K H (.ref a) (.type "dict")
  | ins {a C dx : Addr} {fs : List (Str × V)} (e : H a = some (.ins C dx fs)) (cl : Cls K C) (ha : PySem.W.findIn K (.ref C) "__class__" = some (some (.builtin "object.__class__")))
      (hn : PySem.W.specialIn K (.builtin "object.__class__") "__get__" = some (some (.builtin "getset_descriptor.__get__"))) (htk : PySem.W.takesIn K (.builtin "object.__class__") = some true)
      (hm : PySem.W.mroIn K C (.type "object") = some true) : TyOf K H (.ref a) (.ref C)
end
end L2

namespace L2
open PySem PySem.Spec PyProof.Rows

/-! ### room -/
structure Room (k : Nat) (A : Around) : Prop where
  hd : A.handled = none
  dp : A.depth + 3 * k + 5 < recursionLimit
  un : A.units + 16 * k + 200 < cLine
theorem Room.mono {j k : Nat} {A : Around} (r : Room k A) (h : j ≤ k) : Room j A := ⟨r.hd, by have := r.dp; omega, by have := r.un; omega⟩
theorem Room.deeper {k : Nat} {A : Around} (r : Room (k + 1) A) (env : Env) : Room k (A.deeper env) :=
  ⟨r.hd, by have := r.dp; show A.depth + 1 + 3 * k + 5 < _; omega, by have := r.un; show A.units + 3 + 16 * k + 200 < _; omega⟩
theorem make_depth {A : Around} {C : Addr} {us : List Value} {kw : List (Str × Value)} : (A.under (.builtin "type.__call__" ⟨.ref C :: us, kw⟩)).depth = A.depth + 1 := by
  first | rfl | simp [Around.under, Code.weight, Code.isCreation, Code.isGuard, Code.isCaller, Code.frames, Code.isFrame, guardIds]
theorem make_units {A : Around} {C : Addr} {us : List Value} {kw : List (Str × Value)} : (A.under (.builtin "type.__call__" ⟨.ref C :: us, kw⟩)).units = A.units + 1 := by
  first | rfl | simp [Around.under, Code.cUnits, Code.frames, Code.isFrame]
theorem Room.make {k : Nat} {A : Around} (r : Room (k + 1) A) (C : Addr) (us : List Value) (kw : List (Str × Value)) : Room k (A.under (.builtin "type.__call__" ⟨.ref C :: us, kw⟩)) :=
  ⟨r.hd, by have := r.dp; rw [make_depth]; omega, by have := r.un; rw [make_units]; omega⟩
theorem Room.depth {k : Nat} {A : Around} (r : Room k A) : A.depth < recursionLimit := by have := r.dp; omega
theorem Room.units {k : Nat} {A : Around} (r : Room k A) : A.units + 64 < cLine := by have := r.un; omega
/-! ### argument lists and displays -/
def tNil : TA := fun _ H Q => Q [] H
def tCons (ta : TE) (tr : TA) : TA := fun σ H Q => ta σ H fun x H1 => tr σ H1 fun xs H2 => Q (x :: xs) H2
section
variable {X : Cx} {e : Expr} {es : List Expr} {te : TE} {t : TA} {pos : Pos}
theorem pa_nil : PA X [] tNil := fun _ _ _ _ H Q I h => Calls.spliced_nil ⟨[], H, I, .nil, h⟩
theorem pa_cons (ha : PE X e te) (hr : PA X es t) (hs : starEach (e :: es) X.env = (false, eval e X.env) :: starEach es X.env := by rfl) : PA X (e :: es) (tCons te t) := by
  intro pos pins s σ H Q I h
  rw [hs]
  show wpAny _ _ (spliced ((false, eval e X.env) :: backTo pos (starEach es X.env))) _ _ s
  refine Calls.spliced_cons (thn (ha pins s σ H _ I h) fun u s1 ⟨x, H1, I1, r1, q1⟩ => ?_)
  exact thn (hr pos pins s1 σ H1 _ I1 q1) fun us s2 ⟨xs, H2, I2, r2, q2⟩ => ⟨x :: xs, H2, I2, .cons r1 r2, q2⟩

/-- a tuple, a list of written items -/
def tTup (t : TA) : TE := fun σ H Q => t σ H fun xs H1 => xs.length ≤ sizeLine ∧ ∀ p, H1 p = none → Q (.ref p) (upd H1 p (.tup xs))
def tLst (t : TA) : TE := fun σ H Q => t σ H fun xs H1 => xs.length ≤ sizeLine ∧ ∀ p, H1 p = none → Q (.ref p) (upd H1 p (.lst xs))
theorem pe_tup {x1} (h : PA X es t) : PE X (.Tuple es x1 pos) (tTup t) := by
  intro pins s σ H Q I hq
  refine wpAny_Tuple_spliced (thn (h pos pins s σ H _ I hq) fun us s1 ⟨xs, H1, I1, r, z, q⟩ => ⟨by rw [← r.length]; exact z, ?_⟩)
  have hf : H1 s1.heap.objs.size = none := I1.hok.fresh (Nat.le_refl _)
  refine ⟨.ref s1.heap.objs.size, upd H1 s1.heap.objs.size (.tup xs), I1.laid (t' := s1.toks) (fun b u e => Heap.get?_push_of_some _ e) (Nat.le_refl _) ?_, rfl, q _ hf⟩
  exact ⟨z, us, r, ⟨_, Heap.get?_push_size _ rfl, rfl, _, rfl⟩⟩
theorem pe_lst (h : PA X es t) : PE X (.List es pos) (tLst t) := by
  intro pins s σ H Q I hq
  refine wpAny_List_spliced (thn (h pos pins s σ H _ I hq) fun us s1 ⟨xs, H1, I1, r, z, q⟩ => ⟨by rw [← r.length]; exact z, ?_⟩)
  have hf : H1 s1.heap.objs.size = none := I1.hok.fresh (Nat.le_refl _)
  refine ⟨.ref s1.heap.objs.size, upd H1 s1.heap.objs.size (.lst xs), I1.laid (t' := s1.toks) (fun b u e => Heap.get?_push_of_some _ e) (Nat.le_refl _) ?_, rfl, q _ hf⟩
  exact ⟨z, us, 0, r, Heap.get?_push_size _ rfl⟩
end

/-! ### what a def promises -/
/-- a def's promise: the bound arguments in the parameters' order, the heap, the wanted end, the wanted exception -/
abbrev Sp := List V → Hp → VK → XK → Prop
/-- how an exception lies behind a call (file 08 gives it): the callers' frames, abstract heap and state ahead of the call, the wish, the exception, the state -/
abbrev CXT := List Env → Hp → Shared → XK → Value → Shared → Prop

/-- the state at a call -/
structure Env0 (P : Program) (w : World) (K : PySem.W.Frag) (mg : Str → Option Value) (base : Heap) (A : Around) (outer : List Env) (s : Shared) (H : Hp) : Prop where
  frames : A.frames = some outer
  mod : Mod K mg base
  bs : ∀ b o, base.get? b = some o → s.heap.get? b = some o ∧ H b = none
  bsz : base.objs.size ≤ s.heap.objs.size
  funs : s.heap.FunFrames base outer
  frf : ∀ b ∈ frs outer, H b = none
  hok : HOk P w H s.heap
  bare : AllBare s.gens
/-- a call's end -/
def CE (outer : List Env) (P : Program) (w : World) (H : Hp) (s : Shared) (Q : VK) (u : Value) (s' : Shared) : Prop :=
  ∃ v H', s'.os = s.os ∧ AllBare s'.gens ∧ Un (frs outer) [] H H' s.heap s'.heap ∧ HOk P w H' s'.heap ∧ RelV v u ∧ Q v H'
def CR (CX : CXT) (outer : List Env) (P : Program) (w : World) (H : Hp) (s : Shared) (Q : VK) (E : XK) (r : Result) (s' : Shared) : Prop :=
  match r with
  | .ok (.ret u) => CE outer P w H s Q u s'
  | .ok _ => False
  | .error e => CX outer H s E e s'
structure FnOk (P : Program) (w : World) (K : PySem.W.Frag) (mg : Str → Option Value) (base : Heap) (CX : CXT) (k : Nat) (f : Addr) (fd : FuncData) (ps : List Str) (sp : Sp) : Prop where
  len : ∀ vs H Q E, sp vs H Q E → vs.length = ps.length
  run : ∀ (A : Around) (outer : List Env) (s : Shared) (H : Hp) (args : Args) (us : List Value) (vs : List V) (Q : VK) (E : XK), Room k A → Env0 P w K mg base A outer s H → BindsTo s fd args (ps.zip us) → Vals vs us → sp vs H Q E →
    codeAny (model P w) A (.call (.ref f) args) (CR CX outer P w H s Q E) s
theorem FnOk.mono {P : Program} {w : World} {K : PySem.W.Frag} {mg : Str → Option Value} {base : Heap} {CX : CXT} {j k : Nat} {f : Addr} {fd : FuncData} {ps : List Str} {sp : Sp} (F : FnOk P w K mg base CX j f fd ps sp) (h : j ≤ k) :
    FnOk P w K mg base CX k f fd ps sp := ⟨F.len, fun A outer s H args us vs Q E hr => F.run A outer s H args us vs Q E (hr.mono h)⟩
theorem Env0.make {P : Program} {w : World} {K : PySem.W.Frag} {mg : Str → Option Value} {base : Heap} {A : Around} {outer : List Env} {s : Shared} {H : Hp} (e : Env0 P w K mg base A outer s H) (C : Addr) (us : List Value) (kw : List (Str × Value)) :
    Env0 P w K mg base (A.under (.builtin "type.__call__" ⟨.ref C :: us, kw⟩)) outer s H := ⟨by first | exact e.frames | (simpa [Around.under, Code.envs, Code.isFrame, pushEnvs] using e.frames), e.mod, e.bs, e.bsz, e.funs, e.frf, e.hok, e.bare⟩
section
variable {X : Cx} {pins : List (Addr × Obj)} {σ : St} {H : Hp} {s s' : Shared}
/-- from a body: what a callee wants -/
theorem Inv.env0 (I : Inv X pins σ H s) : Env0 X.prog X.w X.K X.mg X.base X.A X.stack s H :=
  ⟨I.ok.frames, I.ok.mod, I.bs, Nat.le_trans I.ok.bsz I.sz, I.stack, I.stkFree, I.hok, I.bare⟩
/-- behind a call -/
theorem Inv.after {Q : VK} {u : Value} (I : Inv X pins σ H s) (h : CE X.stack X.prog X.w H s Q u s') : EP X pins σ Q u s' := by
  obtain ⟨v, H', os, bare, un, hok, r, q⟩ := h
  obtain ⟨hh, g, d, t, os'⟩ := s'
  obtain rfl : os' = s.os := os
  exact ⟨v, H', I.call (h' := hh) (g' := g) (d' := d) (t' := t) (ch := []) un hok bare (fun b z => absurd z (by simp)), r, q⟩
end

/-! ### calls -/
/-- f(..): the written arguments, then the defaults dvs; E: what is wanted of an exception -/
def tCall (sp : Sp) (dvs : List V) (E : XK) (t : TA) : TE := fun σ H Q => t σ H fun vs H1 => sp (vs ++ dvs) H1 Q E
/-- o.m(..) of an instance of the class at C -/
def tMeth (C : Addr) (m : Str) (sp : Sp) (dvs : List V) (E : XK) (ta : TE) (t : TA) : TE := fun σ H Q => ta σ H fun x H1 => ∃ a dx fs, x = .ref a ∧ H1 a = some (.ins C dx fs) ∧ fs.lookup m = none ∧
  t σ H1 fun vs H2 => sp (x :: (vs ++ dvs)) H2 Q E
/-- C(..): a new instance and its dict, then __init__ -/
def tMake (C : Addr) (sp : Sp) (dvs : List V) (E : XK) (t : TA) : TE := fun σ H Q => t σ H fun vs H1 => ∀ x dx, H1 x = none → H1 dx = none → dx ≠ x →
  sp (.ref x :: (vs ++ dvs)) (upd (upd H1 dx (.own x)) x (.ins C dx [])) (fun v H2 => v = .non ∧ Q (.ref x) H2) E

/-- how the parameters are bound: us the positional arguments, kw the keywords' values by name, ds the defaults that fill up -/
def Binds (K : PySem.W.Frag) (fd : FuncData) (ps : List Str) (ds : List Value) : Prop :=
  ∀ (s : Shared) (us : List Value), K.In s.heap → (us ++ ds).length = ps.length → BindsTo s fd ⟨us, []⟩ (ps.zip (us ++ ds))
/-- every parameter is given -/
theorem Binds.all {K : PySem.W.Frag} {fd : FuncData} {ps : List Str} (h : ∀ us : List Value, us.length = ps.length → bindArgs fd ⟨us, []⟩ = pure (ps.zip us)) : Binds K fd ps [] := fun s us _ hl => by
  rw [List.append_nil] at hl ⊢
  exact .of_eq (h us hl)

/-- an exception of a callee reaches what this body wants of exceptions -/
def Passes (CX : CXT) (X : Cx) (E : XK) : Prop := ∀ (pins : List (Addr × Obj)) (σ : St) (H : Hp) (s : Shared) (e : Value) (s' : Shared), Inv X pins σ H s → CX X.stack H s E e s' → X.xe e s'

section
variable {X : Cx} {CX : CXT} {k : Nat} {f C : Addr} {fd : FuncData} {ps : List Str} {sp : Sp} {dvs : List V} {ds : List Value} {E : XK} {x m : Str} {p pos apos : Pos} {e o : Expr} {es : List Expr} {ta : TE} {t : TA}

/-- the callee runs -/
theorem run_fn {pins : List (Addr × Obj)} {σ : St} {H : Hp} {s : Shared} {Q : VK} {us : List Value} {vs : List V} (F : FnOk X.prog X.w X.K X.mg X.base CX k f fd ps sp) (hr : Room k X.A) (hb : Binds X.K fd ps ds) (hd : Vals dvs ds) (hx : Passes CX X E)
    (I : Inv X pins σ H s) (r : Vals vs us) (h : sp (vs ++ dvs) H Q E) : wpAny (model X.prog X.w) X.A (call (.ref f) us) (EP X pins σ Q) X.xe s := by
  have r2 : Vals (vs ++ dvs) (us ++ ds) := r.append hd
  have hl : (us ++ ds).length = ps.length := by rw [← r2.length]; exact F.len _ _ _ _ h
  refine wpAny_call (codeAny_mono (F.run X.A X.stack s H ⟨us, []⟩ (us ++ ds) (vs ++ dvs) Q E hr I.env0 (hb s us I.kIn hl) r2 h) fun r s' hq => ?_)
  cases r with
  | error e => exact hx pins σ H s e s' I hq
  | ok fl =>
    cases fl with
    | ret u => exact I.after hq
    | next => exact False.elim hq
    | brk => exact False.elim hq
    | cont => exact False.elim hq

theorem pe_call (F : FnOk X.prog X.w X.K X.mg X.base CX k f fd ps sp) (hr : Room k X.A) (hg : Gl X x) (hm : X.mg x = some (.ref f)) (hk : PySem.W.keepIn X.K (.ref f) = true) (hb : Binds X.K fd ps ds) (hd : Vals dvs ds) (hx : Passes CX X E)
    (ha : PA X (e :: es) t) (hdb : (x == ("__debug__" : Str)) = false := by decide) (he : starEach (e :: es) X.env = (false, eval e X.env) :: starEach es X.env := by rfl) (hpl : (backTo pos (starEach es X.env)).any (·.1) = false := by rfl) :
    PE X (.Call (.Name x p) (e :: es) [] pos) (tCall sp dvs E t) := by
  intro pins s σ H Q I h
  refine wpAny_Call_Name_kw (ld_glob I hg hm ?_ hdb)
  refine PySem.W.callWith_K (h₀ := X.base) I.ok.mod.kin hk (thn (ha pos pins s σ H _ I h) fun us s1 ⟨vs, H1, I1, r, q⟩ => ⟨I1.kIn, ?_⟩) he hpl
  exact run_fn F hr hb hd hx I1 r q
/-- o.m(e, ..) -/
theorem pe_meth {pl : Sem Bool} (he : PE X o ta) (c : Cls X.K C) (hm : Meth X.K C m f) (F : FnOk X.prog X.w X.K X.mg X.base CX k f fd ps sp) (hr : Room k X.A) (hb : Binds X.K fd ps ds) (hd : Vals dvs ds) (hx : Passes CX X E) (ha : PA X (e :: es) t)
    (hst : starEach (e :: es) X.env = (false, eval e X.env) :: starEach es X.env := by rfl) (hpl : (backTo pos (starEach es X.env)).any (·.1) = false := by rfl)
    (ht : eval (.Call (.Attribute o m apos) (e :: es) [] pos) X.env = (do
      let ov ← eval o X.env
      standAt apos.atName
      let (f, first) ← holding [ov] (getMethod ov m pl)
      callWith pos f first (backTo pos (starEach (e :: es) X.env)) (backToKw pos (keywordEach [] X.env))) := by rfl) :
    PE X (.Call (.Attribute o m apos) (e :: es) [] pos) (tMeth C m sp dvs E ta t) := by
  intro pins s σ H Q I h
  refine PySem.W.methodCall_KW (pl := pl) (thn (he pins s σ H _ I h) fun u s1 ⟨x, H1, I1, rx, a, dx, fs, ex, ea, l, q⟩ => ?_) ht
  subst ex
  obtain rfl : u = Value.ref a := rx
  refine getmeth_ok I1 ea c hm l ?_
  refine PySem.W.callWith_K (first := [.ref a]) (h₀ := X.base) I.ok.mod.kin hm.kp (thn (ha pos pins s1 σ H1 _ I1 q) fun us s2 ⟨vs, H2, I2, r, q2⟩ => ⟨I2.kIn, ?_⟩) hst hpl
  exact run_fn (us := .ref a :: us) (vs := .ref a :: vs) F hr hb hd hx I2 (.cons rfl r) q2
/-- o.m() -/
theorem pe_meth0 {pl : Sem Bool} (he : PE X o ta) (c : Cls X.K C) (hm : Meth X.K C m f) (F : FnOk X.prog X.w X.K X.mg X.base CX k f fd ps sp) (hr : Room k X.A) (hb : Binds X.K fd ps ds) (hd : Vals dvs ds) (hx : Passes CX X E)
    (ht : eval (.Call (.Attribute o m apos) [] [] pos) X.env = (do
      let ov ← eval o X.env
      standAt apos.atName
      let (f, first) ← holding [ov] (getMethod ov m pl)
      callWith pos f first (backTo pos (starEach [] X.env)) (backToKw pos (keywordEach [] X.env))) := by rfl) :
    PE X (.Call (.Attribute o m apos) [] [] pos) (tMeth C m sp dvs E ta tNil) := by
  intro pins s σ H Q I h
  refine PySem.W.methodCall_KW (pl := pl) (thn (he pins s σ H _ I h) fun u s1 ⟨x, H1, I1, rx, a, dx, fs, ex, ea, l, q⟩ => ?_) ht
  subst ex
  obtain rfl : u = Value.ref a := rx
  refine getmeth_ok I1 ea c hm l ?_
  exact PySem.W.callWith_K0 (first := [.ref a]) I1.kIn hm.kp (run_fn (us := [.ref a]) (vs := [.ref a]) F hr hb hd hx I1 (.cons rfl .nil) q)

/-- what a class must have to be made -/
structure Mk (K : PySem.W.Frag) (C f : Addr) : Prop where
  makes : PySem.W.makesIn K C = true
  init : PySem.W.findIn K (.ref C) "__init__" = some (some (.ref f))
  fn : PySem.W.isFn K (.ref f) = true
  kp : PySem.W.keepIn K (.ref C) = true

theorem run_make {pins : List (Addr × Obj)} {σ : St} {H : Hp} {s : Shared} {Q : VK} {us : List Value} {vs : List V} (M : Mk X.K C f) (F : FnOk X.prog X.w X.K X.mg X.base CX k f fd ps sp) (hr : Room (k + 1) X.A) (hb : Binds X.K fd ps ds) (hd : Vals dvs ds)
    (hx : Passes CX X E) (I : Inv X pins σ H s) (r : Vals vs us)
    (h : ∀ x dx, H x = none → H dx = none → dx ≠ x → sp (.ref x :: (vs ++ dvs)) (upd (upd H dx (.own x)) x (.ins C dx [])) (fun v H2 => v = .non ∧ Q (.ref x) H2) E) :
    wpAny (model X.prog X.w) X.A (call (.ref C) us) (EP X pins σ Q) X.xe s := by
  have hq := h (s.heap.objs.size + 1) s.heap.objs.size (I.hok.fresh (Nat.le_succ _)) (I.hok.fresh (Nat.le_refl _)) (Nat.ne_of_lt (Nat.lt_succ_self _))
  have I2 := Inv.made (C := C) I
  have r2 : Vals (V.ref (s.heap.objs.size + 1) :: (vs ++ dvs)) (Value.ref (s.heap.objs.size + 1) :: (us ++ ds)) := .cons rfl (r.append hd)
  have hl : (Value.ref (s.heap.objs.size + 1) :: us ++ ds).length = ps.length := by
    have e := r2.length
    rw [F.len _ _ _ _ hq] at e
    exact e.symm
  refine wpAny_call (make_map (f := f) I.kIn M.makes M.init (beq_iff_eq.mp M.fn) (codeAny_mono (F.run _ X.stack _ _ ⟨Value.ref (s.heap.objs.size + 1) :: us, []⟩ (Value.ref (s.heap.objs.size + 1) :: (us ++ ds)) _ _ E (hr.make C us [])
    (I2.env0.make C us []) (hb _ (Value.ref (s.heap.objs.size + 1) :: us) I2.kIn hl) r2 hq) fun r s' hq' => ?_))
  cases r with
  | error e => exact hx pins σ _ _ e s' I2 hq'
  | ok fl =>
    cases fl with
    | ret u =>
      obtain ⟨v, H', I3, rv, ev, q3⟩ := I2.after hq'
      subst ev
      exact ⟨rv, ⟨V.ref (s.heap.objs.size + 1), H', I3, rfl, q3⟩⟩
    | next => exact False.elim hq'
    | brk => exact False.elim hq'
    | cont => exact False.elim hq'
theorem pe_make (M : Mk X.K C f) (F : FnOk X.prog X.w X.K X.mg X.base CX k f fd ps sp) (hr : Room (k + 1) X.A) (hg : Gl X x) (hm : X.mg x = some (.ref C)) (hb : Binds X.K fd ps ds) (hd : Vals dvs ds) (hx : Passes CX X E)
    (ha : PA X (e :: es) t) (hdb : (x == ("__debug__" : Str)) = false := by decide) (he : starEach (e :: es) X.env = (false, eval e X.env) :: starEach es X.env := by rfl) (hpl : (backTo pos (starEach es X.env)).any (·.1) = false := by rfl) :
    PE X (.Call (.Name x p) (e :: es) [] pos) (tMake C sp dvs E t) := by
  intro pins s σ H Q I h
  refine wpAny_Call_Name_kw (ld_glob I hg hm ?_ hdb)
  refine PySem.W.callWith_K (h₀ := X.base) I.ok.mod.kin M.kp (thn (ha pos pins s σ H _ I h) fun us s1 ⟨vs, H1, I1, r, q⟩ => ⟨I1.kIn, ?_⟩) he hpl
  exact run_make M F hr hb hd hx I1 r q
end

/-! ### keywords -/
/-- the values of the keywords, from the left -/
def PK (X : Cx) (kws : List Keyword) (t : TA) : Prop :=
  ∀ (pos : Pos) (pins : List (Addr × Obj)) (s : Shared) (σ : St) (H : Hp) (Q : List V → Hp → Prop), Inv X pins σ H s → t σ H Q → wpAny (model X.prog X.w) X.A (evalAll ((backToKw pos (keywordEach kws X.env)).map (·.2))) (AP X pins σ Q) X.xe s
section
variable {X : Cx} {CX : CXT} {k : Nat} {f C : Addr} {fd : FuncData} {ps ks : List Str} {sp : Sp} {E : XK} {x m : Str} {p pos apos kpos : Pos} {e o : Expr} {es : List Expr} {kws : List Keyword} {te ta : TE} {t tk : TA} {nm : Option Str}
/-- how a call with keywords binds: g puts the positional values us and the keywords' values ws (names ks) in the parameters' order, defaults among them -/
structure KBinds (K : PySem.W.Frag) (fd : FuncData) (ps ks : List Str) (g : List Value → List Value → List Value) (gV : List V → List V → List V) : Prop where
  to : ∀ (s : Shared) (us ws : List Value), K.In s.heap → (g us ws).length = ps.length → BindsTo s fd ⟨us, ks.zip ws⟩ (ps.zip (g us ws))
  rel : ∀ {vs : List V} {us : List Value} {zs : List V} {ws : List Value}, Vals vs us → Vals zs ws → Vals (gV vs zs) (g us ws)
def tCallK (sp : Sp) (gV : List V → List V → List V) (E : XK) (t tk : TA) : TE := fun σ H Q => t σ H fun vs H1 => tk σ H1 fun zs H2 => sp (gV vs zs) H2 Q E
variable {g : List Value → List Value → List Value} {gV : List V → List V → List V}
end

/-! ### a def's body keeps its promise -/
/-- names: the parameters first -/
structure FnScope (N P : List Str) (sc : Scope) : Prop where
  kind : sc.kind = .function
  co : sc.isCoroutine = false
  gen : sc.isGenerator = false
  nd : N.Nodup
  pre : N.take P.length = P
  par : ∀ x ∈ P, sc.names.lookup x = some .local ∨ sc.names.lookup x = some .cell
  nofree : ∀ y ∈ sc.names, y.2 ≠ .free

theorem bindL_out {kindOf : Str → Option NameKind} {x : Str} : ∀ {binds : List (Str × Value)} {m : Str → Option Value}, (∀ v, (x, v) ∉ binds) → bindL kindOf binds m x = m x
  | [], _, _ => rfl
  | (n, v) :: r, m, h => by
    unfold bindL
    rw [bindL_out fun w hw => h w (List.mem_cons_of_mem _ hw)]
    split
    · have : x ≠ n := by rintro rfl; exact h v List.mem_cons_self
      simp [this]
    · rfl
theorem bindC_out {kindOf : Str → Option NameKind} {x : Str} : ∀ {binds : List (Str × Value)} {m : Str → Option Value}, (∀ v, (x, v) ∉ binds) → bindC kindOf binds m x = m x
  | [], _, _ => rfl
  | (n, v) :: r, m, h => by
    unfold bindC
    rw [bindC_out fun w hw => h w (List.mem_cons_of_mem _ hw)]
    split
    · rfl
    · have : x ≠ n := by rintro rfl; exact h v List.mem_cons_self
      simp [this]
theorem bindL_get {kindOf : Str → Option NameKind} {x : Str} {v : Value} : ∀ {P : List Str} {vs : List Value} {i : Nat} {m : Str → Option Value}, P.Nodup → P[i]? = some x → vs[i]? = some v → kindOf x = some .local →
    bindL kindOf (P.zip vs) m x = some v
  | [], _, _, _, _, h, _, _ => by simp at h
  | _ :: _, [], _, _, _, _, h, _ => by simp at h
  | p :: P, w :: vs, 0, m, nd, h1, h2, hk => by
    simp at h1 h2; subst h1; subst h2
    show bindL kindOf ((p, w) :: P.zip vs) m p = _
    unfold bindL
    rw [bindL_out fun v hv => (List.nodup_cons.mp nd).1 (List.of_mem_zip hv).1, if_pos hk]
    simp
  | p :: P, w :: vs, i + 1, m, nd, h1, h2, hk => by
    show bindL kindOf ((p, w) :: P.zip vs) m x = _
    unfold bindL
    exact bindL_get (i := i) (List.nodup_cons.mp nd).2 (by simpa using h1) (by simpa using h2) hk
theorem bindC_get {kindOf : Str → Option NameKind} {x : Str} {v : Value} : ∀ {P : List Str} {vs : List Value} {i : Nat} {m : Str → Option Value}, P.Nodup → P[i]? = some x → vs[i]? = some v → kindOf x ≠ some .local →
    bindC kindOf (P.zip vs) m x = some v
  | [], _, _, _, _, h, _, _ => by simp at h
  | _ :: _, [], _, _, _, _, h, _ => by simp at h
  | p :: P, w :: vs, 0, m, nd, h1, h2, hk => by
    simp at h1 h2; subst h1; subst h2
    show bindC kindOf ((p, w) :: P.zip vs) m p = _
    unfold bindC
    rw [bindC_out fun v hv => (List.nodup_cons.mp nd).1 (List.of_mem_zip hv).1, if_neg hk]
    simp
  | p :: P, w :: vs, i + 1, m, nd, h1, h2, hk => by
    show bindC kindOf ((p, w) :: P.zip vs) m x = _
    unfold bindC
    exact bindC_get (i := i) (List.nodup_cons.mp nd).2 (by simpa using h1) (by simpa using h2) hk

/-- the names' values at the entry -/
def start (N : List Str) (vs : List V) : St := vs.map some ++ List.replicate (N.length - vs.length) none

/-- the context of a def's body, at its entry; an exception leaves the frame, then lies as CX says -/
def cxOf (CX : CXT) (P : Program) (w : World) (K : PySem.W.Frag) (mg : Str → Option Value) (base : Heap) (N : List Str) (qual : Str) (scope : Scope) (f : Addr) (cd : Value) (A : Around) (outer : List Env) (s : Shared) (H : Hp) (E : XK) : Cx where
  prog := P
  w := w
  K := K
  mg := mg
  base := base
  A := A.deeper (envOfC qual scope s.heap.objs.size f cd)
  N := N
  s₀ := s
  H₀ := H
  env := envOfC qual scope s.heap.objs.size f cd
  outer := outer
  stack := envOfC qual scope s.heap.objs.size f cd :: outer
  ex := []
  calm := true
  fn := fun _ => true
  pn := []
  xe := fun e s' => wpAny (model P w) (A.deeper (envOfC qual scope s.heap.objs.size f cd)) (leaving (envOfC qual scope s.heap.objs.size f cd) e) (fun _ s'' => CX outer H s E e s'') (fun e' s'' => CX outer H s E e' s'') s'

theorem cell_has {sc : Scope} {n : Nat} {x : Str} (h : sc.names.lookup x = some .cell) : ∃ c, (cellsFrom n sc.names []).lookup x = some c := by
  have q := PySem.W.cellsFrom_some sc.names n [] (.inl h)
  exact Option.isSome_iff_exists.mp q

theorem inv_start {CX : CXT} {P : Program} {w : World} {K : PySem.W.Frag} {mg : Str → Option Value} {base : Heap} {N ps : List Str} {qual : Str} {scope : Scope} {f : Addr} {cd : Value} {A : Around} {outer : List Env} {s s1 : Shared} {H : Hp} {E : XK} {us : List Value} {vs : List V}
    (S : FnScope N ps scope) (hd : A.handled = none) (e0 : Env0 P w K mg base A outer s H) (hl : vs.length = ps.length) (r : Vals vs us)
    (x : InCallC s s.heap.objs.size (bindL (envOfC qual scope s.heap.objs.size f cd).kindOf (ps.zip us) fun _ => none) (cellsFrom (s.heap.objs.size + 1) scope.names []) (bindC (envOfC qual scope s.heap.objs.size f cd).kindOf (ps.zip us) fun _ => none) s1) :
    Inv (cxOf CX P w K mg base N qual scope f cd A outer s H E) [] (start N vs) H s1 := by
  have hpl : ps.length ≤ N.length := by have := congrArg List.length S.pre; rw [List.length_take] at this; omega
  obtain ⟨h1, tk, rfl, hk⟩ := x.done
  have noA : ∀ b : Addr, b ∉ (cxOf CX P w K mg base N qual scope f cd A outer s H E).ex := fun b z => absurd (show b ∈ ([] : List Addr) from z) (by simp)
  refine ⟨⟨e0.mod, S.kind, rfl, rfl, Nat.le_refl _, fun y z c h1 h2 => ?_, fun y hy => ?_, fun y c _ h => ?_, fun _ => hd, Around.frames_deeper e0.frames, .inr ⟨rfl, rfl⟩, fun b z => absurd z (noA b), e0.bs, e0.bsz, fun b _ _ => noA b, fun b z => absurd z (noA b), e0.funs, e0.frf⟩,
    rfl, e0.bare, Un.kept hk, ⟨_, x.toInCall.ns, fun i y v h1 h2 h3 => ?_⟩, fun y c h => ⟨_, x.cell y c h⟩, e0.hok.fresh (Nat.le_refl _), fun y c h => ?_, fun p hp => absurd (show p ∈ ([] : List (Addr × Obj)) from hp) (by simp), e0.hok.kept hk, ?_⟩
  · exact name_of_addr x.apart (PySem.mem_of_lookup h1) (PySem.mem_of_lookup h2)
  · have hy : scope.names.lookup y = some .cell ∨ scope.names.lookup y = some .free := hy
    rcases hy with hy | hy
    · exact cell_has hy
    · exact absurd rfl (S.nofree _ (PySem.mem_of_lookup hy))
  · exact Nat.le_of_lt (x.above y c (PySem.mem_of_lookup h))
  · have hi : i < vs.length := by
      unfold start at h2
      by_cases hi : i < vs.length
      · exact hi
      · rw [List.getElem?_append_right (by simpa using hi)] at h2
        rw [List.getElem?_replicate] at h2
        split at h2 <;> cases h2
    have ha : vs[i]? = some v := by
      unfold start at h2
      rw [List.getElem?_append_left (by simpa using hi), List.getElem?_map] at h2
      cases e : vs[i]? with
      | none => rw [e] at h2; cases h2
      | some a => rw [e] at h2; cases h2; rfl
    obtain ⟨u, hu, rv⟩ := r.get ha
    have hp : ps[i]? = some y := by
      rw [← S.pre, List.getElem?_take_of_lt (by omega)]; exact h1
    have ndP : ps.Nodup := by rw [← S.pre]; exact S.nd.sublist (List.take_sublist _ _)
    refine ⟨u, rv, ?_⟩
    rcases S.par y (List.mem_of_getElem? hp) with k | k
    · exact .inl ⟨k, bindL_get ndP hp hu k⟩
    · obtain ⟨c, e⟩ := cell_has (n := s.heap.objs.size + 1) k
      refine .inr ⟨.inl k, c, e, ?_⟩
      have q := x.cell y c e
      rw [bindC_get ndP hp hu (by show scope.names.lookup y ≠ _; rw [k]; decide)] at q
      exact q
  · exact e0.hok.fresh (Nat.le_of_lt (x.above y c (PySem.mem_of_lookup h)))
  · unfold start
    show _ = N.length
    rw [List.length_append, List.length_map, List.length_replicate]
    omega

/-- THE RULE: a def (or a method) of the text, by its body. The body's reading t is chosen for each entry; it is run at the parameters' values -/
theorem fn_of {CX : CXT} {P : Program} {w : World} {K : PySem.W.Frag} {mg : Str → Option Value} {base : Heap} {k : Nat} {f : Addr} {name qual : Str} {params : Arguments} {body : List Stmt} {scope : Scope} {dV kV doc pm cdv ct oc : Value} {an od : Option Addr}
    {osl : Array (Option Value)} {N ps : List Str} {sp : Sp} (lk : K.lookup f = some ⟨oc, od, .func (PySem.W.fnOf name qual params body scope dV kV doc pm an cdv ct), osl⟩) (hcd : PySem.W.codeIn K cdv qual = true) (S : FnScope N ps scope)
    (len : ∀ vs H Q E, sp vs H Q E → vs.length = ps.length)
    (hbody : ∀ (A : Around) (outer : List Env) (s : Shared) (H : Hp) (vs : List V) (Q : VK) (E : XK), Room k (A.deeper (envOfC qual scope s.heap.objs.size f cdv)) → sp vs H Q E →
      ∃ t, PSs (cxOf CX P w K mg base N qual scope f cdv A outer s H E) body t ∧ t { nx := fun _ H' => Q .non H', rt := Q } (start N vs) H) :
    FnOk P w K mg base CX (k + 1) f (PySem.W.fnOf name qual params body scope dV kV doc pm an cdv ct) ps sp := by
  refine ⟨len, fun A outer s H args us vs Q E hr e0 hb r hsp => ?_⟩
  have hl := len _ _ _ _ hsp
  have KX : K.In s.heap := e0.mod.kin.keeps fun b o e => (e0.bs b o e).1
  have lim : s.heap.NoLimit := e0.mod.nolimit.keeps fun b o e => (e0.bs b o e).1
  have hkind : ∀ y ∈ ps.zip us, scope.names.lookup y.1 = some .local ∨ (scope.names.lookup y.1 = some .cell ∧ ((cellsFrom (s.heap.objs.size + 1) scope.names []).lookup y.1).isSome = true) := fun ⟨n, v⟩ hy => by
    rcases S.par n (List.of_mem_zip hy).1 with q | q
    · exact .inl q
    · exact .inr ⟨q, PySem.W.cellsFrom_some _ _ _ (.inl q)⟩
  refine codeAny_call_function hr.depth (KX _ _ lk) rfl S.co S.gen rfl (PySem.W.codeRec_of KX hcd) (hb _ _ _ _ ?_)
  refine wpAny_newFunctionEnv_cells S.kind hkind fun env he s1 x => ?_
  subst he
  refine ⟨lim.keeps x.toInCall.keep, codeAny_func ?_⟩
  obtain ⟨t, ht, hq⟩ := hbody A outer s H vs Q E (hr.deeper _) hsp
  have I : Inv (cxOf CX P w K mg base N qual scope f cdv A outer s H E) [] (start N vs) H s1 := inv_start S hr.hd e0 hl r x
  refine wpAny_mono (ht [] s1 (start N vs) H _ I hq) (fun fl s' hs => ?_) fun e s' hs => hs
  have fin : ∀ {σ' : St} {H' : Hp} {v : V} {u : Value}, Inv (cxOf CX P w K mg base N qual scope f cdv A outer s H E) [] σ' H' s' → RelV v u → Q v H' → CE outer P w H s Q u s' :=
    fun {σ' H' v u} J rv q => ⟨v, H', J.os, J.bare, J.base, J.hok, rv, q⟩
  cases fl with
  | ret u =>
    obtain ⟨v, σ', H', J, rv, q⟩ := hs
    exact fin J rv q
  | next =>
    obtain ⟨σ', H', J, q⟩ := hs
    exact fin (v := V.non) (u := Value.none) J rfl q
  | brk =>
    obtain ⟨_, _, _, q⟩ := hs
    exact False.elim q
  | cont =>
    obtain ⟨_, _, _, q⟩ := hs
    exact False.elim q
end L2

namespace L2
open PySem PySem.Spec PyProof.Rows
section
variable {X : Cx} {x : Str} {p pos : Pos} {e : Expr} {es : List Expr} {t : TA} {id T : String} {r : List V → Hp → VK → Prop}

def tCB (r : List V → Hp → VK → Prop) (t : TA) : TE := fun σ H Q => t σ H fun vs H1 => r vs H1 Q
/-- f(e, ..), f a built-in function -/
theorem pe_callB (hc : CallR X (.builtin id) r) (hg : Gl X x) (hm : X.mg x = none) (hv : bootBuiltins x = some (.builtin id)) (ha : PA X (e :: es) t) (hn : x ≠ "__name__" := by decide) (hdb : (x == ("__debug__" : Str)) = false := by decide)
    (he : starEach (e :: es) X.env = (false, eval e X.env) :: starEach es X.env := by rfl) (hpl : (backTo pos (starEach es X.env)).any (·.1) = false := by rfl) : PE X (.Call (.Name x p) (e :: es) [] pos) (tCB r t) := by
  intro pins s σ H Q I h
  refine wpAny_Call_Name_kw (ld_blt I hg hm hv ?_ hn hdb)
  exact PyProof.Rows.callWith_builtin1 (thn (ha pos pins s σ H _ I h) fun us s1 ⟨vs, H1, I1, r1, q1⟩ => hc pins s1 σ H1 vs us Q I1 r1 q1) he hpl
/-- T(e, ..), T a built-in type -/
theorem pe_callTy (hc : CallR X (.type T) r) (hg : Gl X x) (hm : X.mg x = none) (hv : bootBuiltins x = some (.type T)) (ha : PA X (e :: es) t) (hn : x ≠ "__name__" := by decide) (hdb : (x == ("__debug__" : Str)) = false := by decide)
    (he : starEach (e :: es) X.env = (false, eval e X.env) :: starEach es X.env := by rfl) (hpl : (backTo pos (starEach es X.env)).any (·.1) = false := by rfl) : PE X (.Call (.Name x p) (e :: es) [] pos) (tCB r t) := by
  intro pins s σ H Q I h
  refine wpAny_Call_Name_kw (ld_blt I hg hm hv ?_ hn hdb)
  exact PyProof.Rows.callWith_type1 (thn (ha pos pins s σ H _ I h) fun us s1 ⟨vs, H1, I1, r1, q1⟩ => hc pins s1 σ H1 vs us Q I1 r1 q1) he hpl
end
end L2

namespace HT
open PySem PyProof.Rows

/-- t < u of tuples of ints -/
def lexLt : List Int → List Int → Bool
  | [], [] => false
  | [], _ :: _ => true
  | _ :: _, [] => false
  | x :: xs, y :: ys => if x = y then lexLt xs ys else decide (x < y)
section
open PySem.SeqAt
open PySem.AutoSeq1 (wpAny_loadPart')
open PySem.MeetsSeq PySem.MeetsSeq2 PySem.MeetsSeq3

end

section
variable {prog : Program} {w : World} {A : Around} {E : Value → Shared → Prop} {s : Shared}

/-- t + u, t not empty -/
theorem cat_tup {t b : Addr} {vs ws : List Value} {Q : Value → Shared → Prop} (ht : IsTup s.heap t vs.toArray) (hb : IsTup s.heap b ws.toArray) (hv : vs ≠ [])
    (h1 : ws = [] → Q (.ref t) s) (h2 : ws ≠ [] → Q (.ref s.heap.objs.size) { s with heap := s.heap.push { cls := .type "tuple", data := .seq (vs ++ ws).toArray } })
    (hsz : vs.length + ws.length ≤ sizeLine) : wpAny (model prog w) A (binaryOp .Add (.ref t) (.ref b)) Q E s := by
  obtain ⟨⟨cls, dd, data, sl⟩, ho, hc, n, hd⟩ := id ht
  obtain ⟨⟨cls2, dd2, data2, sl2⟩, ho2, hc2, n2, hd2⟩ := id hb
  simp only at hc hd hc2 hd2
  subst hc hd hc2 hd2
  have e : vs.toArray ++ ws.toArray = (vs ++ ws).toArray := by simp
  by_cases hw : ws = []
  · exact concat_meets ⟨_, ho, rfl⟩ ⟨_, ho2, rfl⟩ noFill_tuple_add seq_tuple_add PySem.F.slot_tuple_add PySem.F.entry_tuple_add (PySem.F.args_tuple_add_2 _ _)
      (tuple_addW1 t b vs.toArray ws.toArray n n2 dd dd2 sl sl2 (by simpa using hv) (by simp [hw])) ⟨ho, ho2, h1 hw⟩
  · refine concat_meets ⟨_, ho, rfl⟩ ⟨_, ho2, rfl⟩ noFill_tuple_add seq_tuple_add PySem.F.slot_tuple_add PySem.F.entry_tuple_add (PySem.F.args_tuple_add_2 _ _)
      (tuple_addW2 t b vs.toArray ws.toArray n n2 dd dd2 sl sl2 (by simpa using hv) (by simpa using hw) (by rw [List.size_toArray, List.size_toArray]; exact hsz)) ⟨ho, ho2, ?_⟩
    rw [e]
    exact h2 hw

/-! ### t[a:b], not the whole -/
/-- a slice's bound as a place among n (d where it is left out) -/
def sIx (n d : Nat) : Option Int → Nat
  | none => d
  | some v => if v < 0 then (v + (n : Int)).toNat else min v.toNat n
end
end HT

namespace L2
open PySem PySem.Spec PyProof.Rows

/-! ### the parts of a slice -/
abbrev TO := St → Hp → (Option Int → Hp → Prop) → Prop
/-- a slice's part (left out, or an int) -/
def PO (X : Cx) (e : Option Expr) (t : TO) : Prop :=
  ∀ (pins : List (Addr × Obj)) (s : Shared) (σ : St) (H : Hp) (Q : Option Int → Hp → Prop), Inv X pins σ H s → t σ H Q →
    wpAny (model X.prog X.w) X.A (evalPart e X.env) (fun u s' => ∃ o H', Inv X pins σ H' s' ∧ IsPart u o ∧ Q o H') X.xe s
def tNoPart : TO := fun _ H Q => Q none H
def tPart (t : TE) : TO := fun σ H Q => t σ H fun x H1 => ∃ i, x = .int i ∧ Q (some i) H1

section
variable {X : Cx} {e : Expr} {te : TE} {lo hi : Option Expr} {tl th : TO} {pos p2 : Pos}

/-- what a slice of a value is, by values: the slice object stands at sl -/
def SlR (X : Cx) (r : V → Option Int → Option Int → Hp → VK → Prop) : Prop :=
  ∀ (pins : List (Addr × Obj)) (s : Shared) (σ : St) (H : Hp) (x : V) (v vl vu : Value) (lo hi : Option Int) (sl : Addr) (Q : VK), Inv X pins σ H s → RelV x v → s.heap.IsSliceOf sl vl vu .none → IsPart vl lo → IsPart vu hi → r x lo hi H Q →
    ∃ T id, typeLookup (.type T) "__getitem__" = pure (some (.builtin id)) ∧ s.TypeIs v T ∧ wpAny (model X.prog X.w) X.A (getItem v (.ref sl)) (EP X pins σ Q) X.xe s
theorem SlR.or {r r' : V → Option Int → Option Int → Hp → VK → Prop} (h : SlR X r) (h' : SlR X r') : SlR X (fun x lo hi H Q => r x lo hi H Q ∨ r' x lo hi H Q) := by
  intro pins s σ H x v vl vu lo hi sl Q I rx hs pl pu q
  rcases q with q | q
  · exact h pins s σ H x v vl vu lo hi sl Q I rx hs pl pu q
  · exact h' pins s σ H x v vl vu lo hi sl Q I rx hs pl pu q
def tSl (r : V → Option Int → Option Int → Hp → VK → Prop) (te : TE) (tl th : TO) : TE := fun σ H Q => te σ H fun x H1 => tl σ H1 fun l H2 => th σ H2 fun u H3 => r x l u H3 Q
/-- the items of xs[lo:hi] -/
def cutV (xs : List V) (lo hi : Option Int) : List V := (xs.drop (HT.sIx xs.length 0 lo)).take (HT.sIx xs.length xs.length hi - HT.sIx xs.length 0 lo)
/-- t[lo:hi], not the whole of it (the whole would be t itself) -/
def rSlT (K : PySem.W.Frag) : V → Option Int → Option Int → Hp → VK → Prop := fun x lo hi H Q => ∃ a xs, x = .ref a ∧ SqT K H a xs ∧
  ¬ (HT.sIx xs.length 0 lo = 0 ∧ HT.sIx xs.length xs.length hi = xs.length) ∧ ∀ p, H p = none → Q (.ref p) (upd H p (.tup (cutV xs lo hi)))
/-! ### t < u, t + u -/
def rLtT (K : PySem.W.Frag) : R2 := fun x y H Q => ∃ a b ns ms, x = .ref a ∧ y = .ref b ∧ SqT K H a (ns.map V.int) ∧ SqT K H b (ms.map V.int) ∧ Q (.bl (HT.lexLt ns ms)) H
/-- t + u, t not empty: u empty gives t itself -/
def rCatT (K : PySem.W.Frag) : R2 := fun x y H Q => ∃ a b xs ys, x = .ref a ∧ y = .ref b ∧ SqT K H a xs ∧ SqT K H b ys ∧ xs ≠ [] ∧ xs.length + ys.length ≤ sizeLine ∧
  (ys = [] → Q (.ref a) H) ∧ (ys ≠ [] → ∀ p, H p = none → Q (.ref p) (upd H p (.tup (xs ++ ys))))
theorem Vals.nil_iff {xs : List V} {us : List Value} (r : Vals xs us) : us = [] ↔ xs = [] := by
  cases r with
  | nil => simp
  | cons _ _ => simp
theorem op_catT : OpR X (binaryOp .Add) (rCatT X.K) := by
  intro pins s σ H x y v u Q I rx ry h
  obtain ⟨a, b, xs, ys, rfl, rfl, ha, hb, hx, hz, q1, q2⟩ := h
  cases rx
  cases ry
  obtain ⟨its, r1, p1, _⟩ := I.tuple ha
  obtain ⟨its2, r2, p2, _⟩ := I.tuple hb
  refine HT.cat_tup p1 p2 (fun z => hx (r1.nil_iff.mp z)) (fun z => ⟨.ref a, H, I, rfl, q1 (r2.nil_iff.mp z)⟩) (fun z => ?_) (by rw [← r1.length, ← r2.length]; exact hz)
  refine ⟨.ref s.heap.objs.size, _, I.laid (t' := s.toks) (o := .tup (xs ++ ys)) (fun b ob q => Heap.get?_push_of_some _ q) (Nat.le_refl _) ?_, rfl, q2 (fun w => z (r2.nil_iff.mpr w)) _ (I.hok.fresh (Nat.le_refl _))⟩
  exact ⟨by rw [List.length_append]; exact hz, _, r1.append r2, IsTup.new _ _⟩
end
end L2

namespace L2
open PySem PySem.Spec PyProof.Rows

/-! ### places -/
/-- the place that an index of any sign means -/
def ixN (n : Nat) (i : Int) : Option Nat := if 0 ≤ i then (if i < n then some i.toNat else none) else if -(n : Int) ≤ i then some (i + n).toNat else none
def atI {α : Type} (xs : List α) (i : Int) : Option α := (ixN xs.length i).bind fun j => xs[j]?
theorem ixN_seq {n : Nat} {i : Int} {j : Nat} (h : ixN n i = some j) : seqIndex? i n = some j ∧ j < n ∧ -(n : Int) ≤ i ∧ i < n := by
  unfold ixN at h
  by_cases h0 : 0 ≤ i
  · rw [if_pos h0] at h
    by_cases h1 : i < n
    · rw [if_pos h1] at h
      have e : i.toNat = j := Option.some.inj h
      exact ⟨by rw [seqIndex_of h0 h1, e], by omega, by omega, h1⟩
    · rw [if_neg h1] at h; cases h
  · rw [if_neg h0] at h
    by_cases h1 : -(n : Int) ≤ i
    · rw [if_pos h1] at h
      have e : (i + n).toNat = j := Option.some.inj h
      exact ⟨by rw [seqIndex_neg (by omega) h1, e], by omega, h1, by omega⟩
    · rw [if_neg h1] at h; cases h
theorem atI_get {α : Type} {xs : List α} {i : Int} {v : α} (h : atI xs i = some v) : ∃ j, seqIndex? i xs.length = some j ∧ xs[j]? = some v ∧ j < xs.length ∧ -(xs.length : Int) ≤ i ∧ i < xs.length := by
  unfold atI at h
  cases e : ixN xs.length i with
  | none => rw [e] at h; cases h
  | some j =>
    rw [e] at h
    obtain ⟨h1, h2, h3, h4⟩ := ixN_seq e
    exact ⟨j, h1, h, h2, h3, h4⟩
theorem atI_nat {α : Type} {xs : List α} {j : Nat} {v : α} (h : xs[j]? = some v) : atI xs (j : Int) = some v := by
  have hj : j < xs.length := (List.getElem?_eq_some_iff.mp h).1
  have e : ixN xs.length (j : Int) = some j := by
    unfold ixN
    rw [if_pos (by omega), if_pos (by omega)]; simp
  unfold atI; rw [e]; exact h
theorem atI_last {α : Type} (xs : List α) (v : α) : atI (xs ++ [v]) (-1) = some v := by
  have hl : (xs ++ [v]).length = xs.length + 1 := by simp
  have e : ixN (xs ++ [v]).length (-1) = some xs.length := by
    unfold ixN
    rw [hl, if_neg (by decide), if_pos (by omega)]
    congr 1
    omega
  unfold atI
  rw [e]
  show (xs ++ [v])[xs.length]? = some v
  simp

/-! ### what may be subscripted -/
/-- what stands as an index of a plain subscript -/
def PlainIx (b : Expr) : Prop := ∀ o i, subscripted b false o i = operate [o, i] (getItem o i)
/-- a subscript by values -/
def IxR (X : Cx) (r : R2) : Prop :=
  ∀ (value slice : Expr) (pins : List (Addr × Obj)) (s : Shared) (σ : St) (H : Hp) (x y : V) (v u : Value) (Q : VK), Inv X pins σ H s → RelV x v → RelV y u → r x y H Q →
    subscripted slice false v u = operate [v, u] (getItem v u) → wpAny (model X.prog X.w) X.A (subscriptTail value slice v u) (EP X pins σ Q) X.xe s
/-- a call of a builtin's method by values: the receiver, the arguments -/
def MtR (X : Cx) (id : String) (r : V → List V → Hp → VK → Prop) : Prop :=
  ∀ (pins : List (Addr × Obj)) (s : Shared) (σ : St) (H : Hp) (x : V) (xs : List V) (v : Value) (us : List Value) (Q : VK), Inv X pins σ H s → RelV x v → Vals xs us → r x xs H Q →
    wpAny (model X.prog X.w) X.A (call (.builtin id) (v :: us)) (EP X pins σ Q) X.xe s
section
variable {X : Cx} {a b : Expr} {ta tb : TE} {pos : Pos}
theorem IxR.or {r r' : R2} (h : IxR X r) (h' : IxR X r') : IxR X (fun x y H Q => r x y H Q ∨ r' x y H Q) := by
  intro value slice pins s σ H x y v u Q I rx ry q hs
  rcases q with q | q
  · exact h value slice pins s σ H x y v u Q I rx ry q hs
  · exact h' value slice pins s σ H x y v u Q I rx ry q hs
theorem MtR.or {id : String} {r r' : V → List V → Hp → VK → Prop} (h : MtR X id r) (h' : MtR X id r') : MtR X id (fun x xs H Q => r x xs H Q ∨ r' x xs H Q) := by
  intro pins s σ H x xs v us Q I rx rs q
  rcases q with q | q
  · exact h pins s σ H x xs v us Q I rx rs q
  · exact h' pins s σ H x xs v us Q I rx rs q
/-- a[b] -/
theorem pe_ix {r : R2} (hr : IxR X r) (ha : PE X a ta) (hb : PE X b tb) (hs : PlainIx b) : PE X (.Subscript a b pos) (tOp r ta tb) := by
  intro pins s σ H Q I h
  exact Subscript_ (binT ha hb I h fun v u s2 x y H2 I2 rx ry q => hr a b pins s2 σ H2 x y v u Q I2 rx ry q (hs _ _))

def rIxL (K : PySem.W.Frag) : R2 := fun x y H Q => ∃ p xs i v, x = .ref p ∧ y = .int i ∧ SqL K H p xs ∧ atI xs i = some v ∧ Q v H
def rIxT (K : PySem.W.Frag) : R2 := fun x y H Q => ∃ p xs i v, x = .ref p ∧ y = .int i ∧ SqT K H p xs ∧ atI xs i = some v ∧ Q v H
def rIxS : R2 := fun x y H Q => ∃ z i c, x = .str z ∧ y = .int i ∧ z.length ≤ sizeLine ∧ atI z.cps.toList i = some c ∧ Q (.str ⟨#[c]⟩) H
theorem ix_list : IxR X (rIxL X.K) := by
  intro value slice pins s σ H x y v u Q I rx ry h hs
  obtain ⟨p, xs, i, z, rfl, rfl, hq, he, q⟩ := h
  cases rx
  obtain ⟨t, rfl⟩ := ry
  obtain ⟨its, r, pl, hz⟩ := I.list hq
  obtain ⟨j, h1, h2, h3, h4, h5⟩ := atI_get he
  obtain ⟨w, ew, rw'⟩ := r.get h2
  have hl := r.length
  have hn := line63
  have fin : EP X pins σ Q w s := ⟨z, H, I, rw', q⟩
  by_cases h0 : 0 ≤ i
  · have hj : i.toNat = j := by
      rw [seqIndex_of h0 h5] at h1
      exact Option.some.inj h1
    exact item_listR pl.isList h0 (by omega) (by rw [hj]; simpa using ew) fin hs
  · have hj : (i + (its.toArray.size : Int)).toNat = j := by
      rw [seqIndex_neg (by omega) h4] at h1
      rw [List.size_toArray, ← hl]
      exact Option.some.inj h1
    exact subscriptTail_builtinR (x := w) pl.isList.typeIs slot_list_getitem.lookup
      (wpAny_getItem_list_neg (Q := fun r s' => r = w ∧ EP X pins σ Q r s') pl.isList (by omega) (by rw [List.size_toArray] <;> omega) (by omega) (by rw [hj]; simpa using ew) ⟨rfl, fin⟩) hs
theorem ix_tup : IxR X (rIxT X.K) := by
  intro value slice pins s σ H x y v u Q I rx ry h hs
  obtain ⟨p, xs, i, z, rfl, rfl, hq, he, q⟩ := h
  cases rx
  obtain ⟨t, rfl⟩ := ry
  obtain ⟨its, r, pl, hz⟩ := I.tuple hq
  obtain ⟨j, h1, h2, h3, h4, h5⟩ := atI_get he
  obtain ⟨w, ew, rw'⟩ := r.get h2
  have hl := r.length
  have hn := line63
  have fin : EP X pins σ Q w s := ⟨z, H, I, rw', q⟩
  exact subscriptTail_builtinR (x := w) pl.typeIs slot_tuple_getitem.lookup
    (getItem_tuple (j := j) (Q := fun r s' => r = w ∧ EP X pins σ Q r s') pl (by omega) (by omega) (by rw [List.size_toArray, ← hl]; exact h1) (by simpa using ew) ⟨rfl, fin⟩) hs
theorem ix_str : IxR X rIxS := by
  intro value slice pins s σ H x y v u Q I rx ry h hs
  obtain ⟨z, i, c, rfl, rfl, hz, he, q⟩ := h
  obtain ⟨t, rfl⟩ := rx
  obtain ⟨t', rfl⟩ := ry
  obtain ⟨j, h1, h2, h3, h4, h5⟩ := atI_get he
  have hl : z.cps.toList.length = z.length := by simp [Str.length]
  rw [hl] at h1 h4 h5
  have hn := line63
  exact tail_any (typeIs_str s z t) slot_str_getitem.lookup (getItem_str (c := c) (by
    have e1 : decide (i < -(2 ^ 63 : Int)) = false := decide_eq_false (by omega)
    have e2 : decide (i ≥ 2 ^ 63) = false := decide_eq_false (by omega)
    rw [e1, e2, Bool.or_false]) (by rw [h1]; simpa using h2) ⟨.str ⟨#[c]⟩, H, I.tok _, ⟨_, rfl⟩, q⟩) hs
/-- list, tuple or str -/
def rIx (K : PySem.W.Frag) : R2 := fun x y H Q => rIxL K x y H Q ∨ rIxT K x y H Q ∨ rIxS x y H Q
theorem ix_seq : IxR X (rIx X.K) := ix_list.or (ix_tup.or ix_str)

/-! ### xs[i] = v, any sign -/
/-- the list's object behind a store -/
theorem mapSeq_set (its : List Value) (n j : Nat) (u : Value) : Obj.mapSeq (·.setIfInBounds j u) { cls := .type "list", data := .seq its.toArray n } = { cls := .type "list", data := .seq (its.set j u).toArray n } := by
  simp [Obj.mapSeq]
theorem Inv.lst {pins : List (Addr × Obj)} {σ : St} {H : Hp} {s : Shared} {p : Addr} {xs : List V} (I : Inv X pins σ H s) (h : H p = some (.lst xs)) :
    ∃ (its : List Value) (n : Nat), Vals xs its ∧ s.heap.get? p = some { cls := .type "list", data := .seq its.toArray n } ∧ xs.length ≤ sizeLine := by
  obtain ⟨z, its, n, r, e⟩ := I.hok p _ h
  exact ⟨its, n, r, e, z⟩
/-- the list at p is written by an update of its object -/
theorem Inv.lstUpd {pins : List (Addr × Obj)} {σ : St} {H : Hp} {s : Shared} {p : Addr} {xs ys : List V} {its its' : List Value} {n n' : Nat} {f : Obj → Obj} (I : Inv X pins σ H s) (h : H p = some (.lst xs))
    (ho : s.heap.get? p = some { cls := .type "list", data := .seq its.toArray n }) (hf : f { cls := .type "list", data := .seq its.toArray n } = { cls := .type "list", data := .seq its'.toArray n' }) (r : Vals ys its') (hz : ys.length ≤ sizeLine) (t : Nat) :
    Inv X pins σ (upd H p (.lst ys)) { s with heap := s.heap.update p f, toks := t } := by
  have e : (s.heap.update p f).get? p = some { cls := .type "list", data := .seq its'.toArray n' } := by
    rw [Heap.get?_update_self f ho (by rw [hf] <;> rfl), hf]
  refine I.write (x := p) (e := p) (by rw [h]; trivial) (.inl rfl) (fun b u hb q => (Heap.get?_update_other _ _ (Ne.symm hb)).trans q) ⟨_, e⟩ ?_
  exact ⟨hz, its', n', r, e⟩
def rSetL : V → V → V → Hp → (Hp → Prop) → Prop := fun o i v H Q => ∃ p xs k j, o = .ref p ∧ i = .int k ∧ H p = some (.lst xs) ∧ ixN xs.length k = some j ∧ Q (upd H p (.lst (xs.set j v)))
theorem set_list : PSet X rSetL := by
  intro pins s σ H o i v ov iv u Q I ro ri rv h
  obtain ⟨p, xs, k, j, rfl, rfl, hp, hj, q⟩ := h
  cases ro
  obtain ⟨t, rfl⟩ := ri
  obtain ⟨its, n, r, ho, hz⟩ := I.lst hp
  obtain ⟨h1, h2, h3, h4⟩ := ixN_seq hj
  have hl := r.length
  have hn := line63
  have I' : Inv X pins σ (upd H p (.lst (xs.set j v))) { s with heap := s.heap.update p (Obj.mapSeq (·.setIfInBounds j u)) } :=
    I.lstUpd hp ho (mapSeq_set its n j u) (r.set rv j) (by rw [List.length_set]; exact hz) s.toks
  by_cases h0 : 0 ≤ k
  · have hk : k.toNat = j := by
      rw [seqIndex_of h0 h4] at h1
      exact Option.some.inj h1
    exact PySem.W.ki_setAt ho h0 (by omega) (by rw [List.size_toArray, ← hl]; exact h4) (by rw [hk]; exact ⟨_, I', q⟩)
  · have hk : (k + (its.toArray.size : Int)).toNat = j := by
      rw [seqIndex_neg (by omega) h3] at h1
      rw [List.size_toArray, ← hl]
      exact Option.some.inj h1
    exact PySem.W.ki_setBack ho (by omega) (by rw [List.size_toArray, ← hl]; exact h3) (by omega) (by rw [hk]; exact ⟨_, I', q⟩)

/-- xs[lo:hi] of a list: a new list -/
def rSlL (K : PySem.W.Frag) : V → Option Int → Option Int → Hp → VK → Prop := fun x lo hi H Q => ∃ a xs, x = .ref a ∧ SqL K H a xs ∧ ∀ p, H p = none → Q (.ref p) (upd H p (.lst (cutV xs lo hi)))
/-! ### in, not in: flat items -/
def flatV : V → Bool
  | .non => true
  | .bl _ => true
  | .int _ => true
  | .str _ => true
  | _ => false
/-- == of flat values -/
def eqV : V → V → Bool
  | .non, .non => true
  | .bl a, .bl b => a == b
  | .bl a, .int b => (if a then 1 else 0) == b
  | .int a, .bl b => a == (if b then 1 else 0)
  | .int a, .int b => a == b
  | .str a, .str b => a == b
  | _, _ => false
/-- the items' answers, read off the values (a value's own answer does not lean on its token) -/
def eqU (x : V) (u : Value) : Bool := match u with
  | .none => eqV .non x
  | .bool b => eqV (.bl b) x
  | .int i _ => eqV (.int i) x
  | .str z _ => eqV (.str z) x
  | _ => false
def inV (x : V) (xs : List V) : Bool := xs.any fun y => eqV y x
/-- x in a list or tuple of flat items -/
def rIn (K : PySem.W.Frag) (neg : Bool) : R2 := fun x y H Q => ∃ p xs, y = .ref p ∧ (SqL K H p xs ∨ SqT K H p xs) ∧ flatV x = true ∧ xs.all flatV = true ∧ Q (.bl (if neg then !inV x xs else inV x xs)) H
/-! ### len, list(x), tuple(x) of any list or tuple that is read -/
theorem call_len_seq : CallR X (.builtin "len") (fun xs H Q => ∃ p ys, xs = [.ref p] ∧ (SqL X.K H p ys ∨ SqT X.K H p ys) ∧ Q (.int ys.length) H) := by
  intro pins s σ H xs us Q I r h
  obtain ⟨p, ys, rfl, hq, q⟩ := h
  obtain ⟨u, rfl, rx⟩ := vals1 r
  cases rx
  have hn := line63
  rcases hq with hq | hq
  · obtain ⟨its, r', pl, hz⟩ := I.list hq
    have hlen := r'.length
    exact Calls.call_len_list pl.isList (by simp only [List.size_toArray] <;> omega) ⟨.int ys.length, H, I.tok _, ⟨s.toks + 1, by rw [List.size_toArray, hlen]⟩, q⟩
  · obtain ⟨its, r', pl, hz⟩ := I.tuple hq
    have hlen := r'.length
    exact len_tuple pl (by simp only [List.size_toArray] <;> omega) ⟨.int ys.length, H, I.tok _, ⟨s.toks + 1, by rw [List.size_toArray, hlen]⟩, q⟩
theorem CallR.or {f : Value} {r r' : List V → Hp → VK → Prop} (h : CallR X f r) (h' : CallR X f r') : CallR X f (fun xs H Q => r xs H Q ∨ r' xs H Q) := by
  intro pins s σ H xs us Q I rs q
  rcases q with q | q
  · exact h pins s σ H xs us Q I rs q
  · exact h' pins s σ H xs us Q I rs q
theorem call_list_of : CallR X (.type "list") (fun xs H Q => ∃ p ys, xs = [.ref p] ∧ (SqL X.K H p ys ∨ SqT X.K H p ys) ∧ ∀ l, H l = none → Q (.ref l) (upd H l (.lst ys))) := by
  intro pins s σ H xs us Q I r h
  obtain ⟨p, ys, rfl, hq, q⟩ := h
  obtain ⟨u, rfl, rx⟩ := vals1 r
  cases rx
  have fin : ∀ (its : List Value), Vals ys its → ys.length ≤ sizeLine → ∀ (h' : Heap) (c' : Nat), (∀ b o', s.heap.get? b = some o' → h'.get? b = some o') →
      h'.get? s.heap.objs.size = some { cls := .type "list", dict := none, data := .seq its.toArray c', slots := #[] } → EP X pins σ Q (.ref s.heap.objs.size) { s with heap := h' } := fun its r' hz h' c' kp e =>
    ⟨.ref s.heap.objs.size, _, I.laid (t' := s.toks) kp (Nat.le_refl _) (show ObjOk X.prog X.w _ h' _ (.lst ys) from ⟨hz, its, c', r', e⟩), rfl, q _ (I.hok.fresh (Nat.le_refl _))⟩
  rcases hq with hq | hq
  · obtain ⟨its, r', pl, hz⟩ := I.list hq
    have hlen := r'.length
    obtain ⟨o, ho, hc, n, hd⟩ := pl.isList
    exact call_list_seq p (.inl rfl) ho hc hd (fun h' c' kp e => fin its r' hz h' c' kp e) (by simp only [List.size_toArray] <;> omega)
  · obtain ⟨its, r', pl, hz⟩ := I.tuple hq
    have hlen := r'.length
    obtain ⟨o, ho, hc, n, hd⟩ := pl
    exact call_list_seq p (.inr rfl) ho hc hd (fun h' c' kp e => fin its r' hz h' c' kp e) (by simp only [List.size_toArray] <;> omega)
/-! ### the call of a builtin's method: o.m(..) -/
/-- the value is of that builtin type -/
def tyV (K : PySem.W.Frag) (T : String) (x : V) (H : Hp) : Prop := match x with
  | .str _ => T = "str"
  | .int _ => T = "int"
  | .ref p => (T = "list" ∧ ∃ xs, SqL K H p xs) ∨ (T = "tuple" ∧ ∃ o, K.lookup p = some o ∧ o.cls = .type "tuple" ∧ o.dict = none) ∨
      (T = "dict" ∧ ((∃ kvs, H p = some (.dK kvs)) ∨ ∃ kvs, H p = some (.dT kvs))) ∨ (T = "set" ∧ ∃ S n, H p = some (.set S n))
  | _ => False
theorem tyV_is {pins : List (Addr × Obj)} {σ : St} {H : Hp} {s : Shared} {T : String} {x : V} {v : Value} (I : Inv X pins σ H s) (r : RelV x v) (ty : tyV X.K T x H) :
    s.TypeIs v T ∧ ∀ a, v = .ref a → ∃ ob, s.heap.get? a = some ob ∧ ob.dict = none := by
  cases x with
  | str z =>
    obtain ⟨t, rfl⟩ := r
    cases (show T = "str" from ty)
    exact ⟨typeIs_str s z t, fun _ e => nomatch e⟩
  | int i =>
    obtain ⟨t, rfl⟩ := r
    cases (show T = "int" from ty)
    exact ⟨typeIs_int s i t, fun _ e => nomatch e⟩
  | ref p =>
    cases r
    rcases ty with ⟨rfl, xs, hq⟩ | ⟨rfl, o, hk, hc, hd⟩ | ⟨rfl, hk⟩ | ⟨rfl, S, n, hk⟩
    · obtain ⟨its, _, pl, _⟩ := I.list hq
      refine ⟨pl.isList.typeIs, fun a e => ?_⟩
      cases e
      obtain ⟨o, n, e, c, hd, _⟩ := pl
      exact ⟨o, e, hd⟩
    · refine ⟨⟨o, I.kIn p o hk, hc⟩, fun a e => ?_⟩
      cases e
      exact ⟨o, I.kIn _ o hk, hd⟩
    · have z : ∃ o, s.heap.get? p = some o ∧ o.ExactDict := by
        rcases hk with ⟨kvs, hk⟩ | ⟨kvs, hk⟩
        · obtain ⟨_, _, _, _, o, _, _, e, ex, _⟩ := I.hok p _ hk
          exact ⟨o, e, ex⟩
        · obtain ⟨_, _, _, _, o, _, _, e, ex, _⟩ := I.hok p _ hk
          exact ⟨o, e, ex⟩
      obtain ⟨o, e, ex⟩ := z
      refine ⟨⟨o, e, ex.1⟩, fun a e2 => ?_⟩
      cases e2
      exact ⟨o, e, ex.2.1⟩
    · obtain ⟨o, _, _, _, e, ex, _⟩ := I.hok p _ hk
      refine ⟨⟨o, e, ex.1⟩, fun a e2 => ?_⟩
      cases e2
      exact ⟨o, e, ex.2.1⟩
  | _ => exact False.elim ty
def tBM0 (K : PySem.W.Frag) (T : String) (r : V → List V → Hp → VK → Prop) (to : TE) : TE := fun σ H Q => to σ H fun x H1 => tyV K T x H1 ∧ r x [] H1 Q
def tBM (K : PySem.W.Frag) (T : String) (r : V → List V → Hp → VK → Prop) (to : TE) (t : TA) : TE := fun σ H Q => to σ H fun x H1 => tyV K T x H1 ∧ t σ H1 fun xs H2 => r x xs H2 Q
variable {o e : Expr} {es : List Expr} {to : TE} {t : TA} {name : Str} {apos cpos : Pos} {T id : String} {r : V → List V → Hp → VK → Prop}
theorem pe_bm (pa : PlainAttrs T) (slot : Slot T name id) (hty : typeOf (.builtin id) = pure (.type "method_descriptor")) (hm : MtR X id r) (ho : PE X o to) (ha : PA X (e :: es) t)
    (hbase : attributeBase o name X.env (eval o X.env) = eval o X.env := by rfl)
    (hfew : ((backTo cpos (starEach (e :: es) X.env)).all (fun x => !x.1) && (backToKw cpos (keywordEach [] X.env)).all (fun x => x.1.isSome)
      && decide ((e :: es).length + ([] : List Keyword).length + (if ([] : List Keyword).isEmpty then 0 else 1) < 30)) = true := by rfl)
    (hline : (apos.endLine == cpos.line) = true := by rfl) (hs : starEach (e :: es) X.env = (false, eval e X.env) :: starEach es X.env := by rfl) (hplain : (backTo cpos (starEach es X.env)).any (·.1) = false := by rfl) :
    PE X (.Call (.Attribute o name apos) (e :: es) [] cpos) (tBM X.K T r to t) := by
  intro pins s σ H Q I h
  refine wpAny_Call_method_late hbase hfew hline rfl (thn (ho pins s σ H _ I h) fun v s1 ⟨x, H1, I1, r1, ty, q1⟩ => ?_)
  obtain ⟨h1, h2⟩ := tyV_is I1 r1 ty
  refine ⟨T, id, pa, slot, hty, h1, h2, ?_⟩
  have hA := ha cpos pins s1 σ H1 _ I1 q1
  rw [hs] at hA ⊢
  refine Calls.callWith_builtin (by show (false || (backTo cpos (starEach es X.env)).any (·.1)) = false; rw [hplain] <;> rfl) (Calls.evalArgs_plain ?_)
  exact thn hA fun us s2 ⟨vs, H2, I2, r2, q2⟩ => hm pins s2 σ H2 x vs v us Q I2 r1 r2 q2
/- xs.append(e), list.index on a module's tuple .. are MtR facts of 06m -/
end
end L2

namespace L2
open PySem PySem.Spec PyProof.Rows

def MtM (X : Cx) (id : String) (r : V → List V → Hp → VK → Prop) : Prop :=
  ∀ (pins : List (Addr × Obj)) (s : Shared) (σ : St) (H : Hp) (x : V) (xs : List V) (v : Value) (us : List Value) (Q : VK), Inv X pins σ H s → RelV x v → Vals xs us → r x xs H Q →
    wpAny (model X.prog X.w) X.A (call (.builtin id) (v :: us)) (EP X pins σ Q) X.xe s

/-! ### lists of values -/
theorem Vals.one : ∀ {x : V} {us : List Value}, Vals [x] us → ∃ u, us = [u] ∧ RelV x u
  | _, _, .cons r .nil => ⟨_, rfl, r⟩
theorem Vals.two : ∀ {x y : V} {us : List Value}, Vals [x, y] us → ∃ u v, us = [u, v] ∧ RelV x u ∧ RelV y v
  | _, _, _, .cons r (.cons q .nil) => ⟨_, _, rfl, r, q⟩
theorem Vals.zero : ∀ {us : List Value}, Vals [] us → us = []
  | _, .nil => rfl
theorem Vals.dropLast {xs : List V} {us : List Value} (h : Vals xs us) : Vals xs.dropLast us.dropLast := by
  induction h with
  | nil => exact .nil
  | cons r t ih =>
    cases t with
    | nil => exact .nil
    | cons q t' => exact .cons r ih
theorem Vals.eraseIdx : ∀ {xs : List V} {us : List Value} (i : Nat), Vals xs us → Vals (xs.eraseIdx i) (us.eraseIdx i)
  | _, _, _, .nil => .nil
  | _, _, 0, .cons _ t => t
  | _, _, i + 1, .cons r t => .cons r (Vals.eraseIdx i t)
theorem Vals.reverse {xs : List V} {us : List Value} (h : Vals xs us) : Vals xs.reverse us.reverse := by
  induction h with
  | nil => exact .nil
  | cons r t ih => rw [List.reverse_cons, List.reverse_cons]; exact Vals.append ih (.cons r .nil)
theorem Vals.rep {xs : List V} {us : List Value} (h : Vals xs us) : ∀ k : Nat, Vals (List.replicate k xs).flatten (List.replicate k us).flatten
  | 0 => .nil
  | k + 1 => by
    rw [List.replicate_succ, List.replicate_succ, List.flatten_cons, List.flatten_cons]
    exact Vals.append h (Vals.rep h k)
theorem foldl_rep (its : List Value) : ∀ (k : Nat) (acc : List Value),
    List.foldl (fun x1 x2 => x1 ++ x2) acc.toArray (List.replicate k its.toArray) = (acc ++ (List.replicate k its).flatten).toArray
  | 0, acc => by simp
  | k + 1, acc => by
    have e : acc.toArray ++ its.toArray = (acc ++ its).toArray := by simp
    have e2 : (acc ++ its) ++ (List.replicate k its).flatten = acc ++ (List.replicate (k + 1) its).flatten := by
      rw [List.replicate_succ, List.flatten_cons, List.append_assoc]
    rw [← e2, ← foldl_rep its k (acc ++ its), ← e, List.replicate_succ, List.foldl_cons]

section
variable {X : Cx} {pins : List (Addr × Obj)} {σ : St} {H : Hp} {s : Shared} {l b : Addr} {xs ys zs : List V}

/-! ### the two steps: a tracked list is rewritten, a new list is laid -/
theorem Inv.lset {its its' : List Value} {n : Nat} {f : Array Value → Array Value} {t' : Nat} (I : Inv X pins σ H s) (hH : H l = some (.lst xs))
    (e : s.heap.get? l = some { cls := .type "list", data := .seq its.toArray n }) (hf : f its.toArray = its'.toArray) (hv : Vals ys its') (hz : ys.length ≤ sizeLine) :
    Inv X pins σ (upd H l (.lst ys)) { s with heap := s.heap.update l (Obj.mapSeq f), toks := t' } := by
  have q := PySem.IsL.update e f
  rw [hf] at q
  refine I.write (x := l) (e := l) (by rw [hH]; exact trivial) (.inl rfl) (fun b' u hb hu => (Heap.get?_update_other s.heap (Obj.mapSeq f) (Ne.symm hb)).trans hu) ⟨_, q⟩ ?_
  exact ⟨hz, its', _, hv, q⟩
theorem Inv.lnew {its : List Value} {t' : Nat} (I : Inv X pins σ H s) (hv : Vals ys its) (hz : ys.length ≤ sizeLine) :
    Inv X pins σ (upd H s.heap.objs.size (.lst ys)) { s with heap := s.heap.push { cls := .type "list", data := .seq its.toArray }, toks := t' } :=
  I.laid (fun _ _ q => Heap.get?_push_of_some _ q) (Nat.le_refl _) ⟨hz, its, 0, hv, Heap.get?_push_size _ rfl⟩
theorem Inv.fresh (I : Inv X pins σ H s) : H s.heap.objs.size = none := I.hok.fresh (Nat.le_refl _)
theorem Inv.lstM (I : Inv X pins σ H s) (hH : H l = some (.lst xs)) : xs.length ≤ sizeLine ∧ ∃ (its : List Value) (n : Nat), Vals xs its ∧ xs.length = its.length ∧ s.heap.get? l = some { cls := .type "list", data := .seq its.toArray n } := by
  obtain ⟨z, its, n, r, e⟩ := I.hok l _ hH
  exact ⟨z, its, n, r, r.length, e⟩

theorem notLongL {n : Nat} (h : n ≤ sizeLine) : Builtin.List.listTooLong n = false := by
  unfold Builtin.List.listTooLong
  exact decide_eq_false (by omega)
end

section
variable {X : Cx}

/-! ### methods -/
def rAppend : V → List V → Hp → VK → Prop := fun x vs H Q => ∃ l xs y, x = .ref l ∧ vs = [y] ∧ H l = some (.lst xs) ∧ xs.length < sizeLine ∧ Q .non (upd H l (.lst (xs ++ [y])))
theorem mt_append : MtM X "list.append" rAppend := by
  intro pins s σ H x vs v us Q I rx rv h
  obtain ⟨l, xs, y, rfl, rfl, hH, hz, q⟩ := h
  cases rx
  obtain ⟨u, rfl, ru⟩ := rv.one
  obtain ⟨z, its, n, r, hl, e⟩ := I.lstM hH
  refine call_meets F.slot_list_append ⟨_, e, rfl⟩ F.entry_list_append (F.args_list_append_2 _ _) (PySem.list_append l its.toArray n u (by rw [List.size_toArray]; omega)) ⟨e, ?_⟩
  refine ⟨.non, _, I.lset (its' := its ++ [u]) hH e (by simp) (r.append (.cons ru .nil)) ?_, rfl, q⟩
  rw [List.length_append, List.length_singleton]
  omega

def rExtend : V → List V → Hp → VK → Prop := fun x vs H Q => ∃ l b xs zs, x = .ref l ∧ vs = [.ref b] ∧ H l = some (.lst xs) ∧ H b = some (.lst zs) ∧ xs.length + zs.length ≤ sizeLine ∧ Q .non (upd H l (.lst (xs ++ zs)))
def rPop : V → List V → Hp → VK → Prop := fun x vs H Q => ∃ l xs y, x = .ref l ∧ vs = [] ∧ H l = some (.lst xs) ∧ xs[xs.length - 1]? = some y ∧ Q y (upd H l (.lst xs.dropLast))
def rPopAt : V → List V → Hp → VK → Prop := fun x vs H Q => ∃ l xs i k y, x = .ref l ∧ vs = [.int i] ∧ H l = some (.lst xs) ∧ -(2 ^ 63) ≤ i ∧ i < 2 ^ 63 ∧ seqIndex? i xs.length = some k ∧ xs[k]? = some y ∧ Q y (upd H l (.lst (xs.eraseIdx k)))
def rReverse : V → List V → Hp → VK → Prop := fun x vs H Q => ∃ l xs, x = .ref l ∧ vs = [] ∧ H l = some (.lst xs) ∧ Q .non (upd H l (.lst xs.reverse))
def rClear : V → List V → Hp → VK → Prop := fun x vs H Q => ∃ l xs, x = .ref l ∧ vs = [] ∧ H l = some (.lst xs) ∧ Q .non (upd H l (.lst []))
/-! ### list + list, list += list, list * int -/
def rCat : R2 := fun x y H Q => ∃ l b xs zs, x = .ref l ∧ y = .ref b ∧ H l = some (.lst xs) ∧ H b = some (.lst zs) ∧ xs.length + zs.length ≤ sizeLine ∧ ∀ p, H p = none → Q (.ref p) (upd H p (.lst (xs ++ zs)))
/-- a list times an int (a negative one is nothing) -/
def rRep : R2 := fun x y H Q => ∃ l k xs, x = .ref l ∧ y = .int k ∧ H l = some (.lst xs) ∧ -(2 ^ 63) ≤ k ∧ k < 2 ^ 63 ∧ xs.length * k.toNat ≤ sizeLine ∧
  ∀ p, H p = none → Q (.ref p) (upd H p (.lst (List.replicate k.toNat xs).flatten))
theorem len_rep {α : Type} (xs : List α) (k : Nat) : (List.replicate k xs).flatten.length = k * xs.length := by
  induction k with
  | zero => simp
  | succ k ih => rw [List.replicate_succ, List.flatten_cons, List.length_append, ih, Nat.succ_mul, Nat.add_comm]
theorem op_rep : OpR X (binaryOp .Mult) rRep := by
  intro pins s σ H x y v u Q I rx ry h
  obtain ⟨l, k, xs, rfl, rfl, hH, h1, h2, hz, q⟩ := h
  cases rx
  obtain ⟨t, rfl⟩ := ry
  obtain ⟨z, its, n, r, hl, e⟩ := I.lstM hH
  have hlen : its.toArray.size * k.toNat ≤ sizeLine := by rw [List.size_toArray, ← hl]; exact hz
  have hcap : ¬ its.toArray.size * k.toNat > (2 ^ 63 - 1) / 8 := by
    have : (sizeLine : Nat) ≤ (2 ^ 63 - 1) / 8 := by decide
    omega
  have hfit : ¬ (!Builtin.List.listFitsIndex k) = true := by
    rw [fitsIndex_both h1 h2]
    exact Bool.false_ne_true
  have hlong : ¬ Builtin.List.listTooLong (its.toArray.size * k.toNat) = true := by
    rw [notLongL hlen]
    exact Bool.false_ne_true
  have hnew : List.foldl (fun x1 x2 => x1 ++ x2) #[] (List.replicate (if its.toArray.isEmpty = true then 0 else k.toNat) its.toArray) = (List.replicate k.toNat its).flatten.toArray := by
    have f0 : ∀ m : Nat, List.foldl (fun x1 x2 => x1 ++ x2) #[] (List.replicate m its.toArray) = (List.replicate m its).flatten.toArray := fun m => by
      have := foldl_rep its m []
      rw [List.nil_append] at this
      exact this
    rw [f0]
    cases its with
    | nil => simp
    | cons a r' => rw [if_neg (by simp)]
  refine wpAny_binaryOp_repeat_ref (T := "list") (U := "int") (by decide) ⟨_, e, rfl⟩ (fun s' => typeIs_int s' k t) noFill_list_mul F.fills_int_mul F.slot_int_rmul repeat_list F.slot_int_index.lookup
    (call_meets F.slot_int_rmul (typeIs_int s k t) F.entry_int_rmul (F.args_int_rmul_2 _ _) (int___rmul___int_list k t l its.toArray n)
      ⟨e, rfl, ⟨_, e, rfl⟩, call_meets F.slot_list_mul ⟨_, e, rfl⟩ F.entry_list_mul (F.args_list_mul_2 _ _) (AutoListH.list___mul___list_int_3 l its.toArray n k t hfit hcap hlong) ⟨e, ?_⟩⟩)
  rw [hnew]
  exact ⟨.ref _, _, I.lnew (t' := s.toks) (r.rep k.toNat) (by rw [len_rep, Nat.mul_comm]; exact hz), rfl, q _ I.fresh⟩

end

/-! ### xs[a:b] = ys -/
section
variable {prog : Program} {w : World} {A : Around} {E : Value → Shared → Prop} {s : Shared}
end

section
variable {X : Cx}
end
end L2

namespace Att
open PySem PySem.W PySem.Calls PyProof.Rows

/-! ### the script -/
theorem ints_of_wellAll {P : Params} {h : Heap} : ∀ (ns : List Int) (vs : List Value), WellAll P h vs (ns.map WData.int) → IntsAre vs ns := by
  intro ns
  induction ns with
  | nil =>
    intro vs w
    rw [List.map_nil] at w
    cases w
    exact .nil
  | cons n ns ih =>
    intro vs w
    rw [List.map_cons] at w
    cases w with
    | cons a b =>
      cases a
      exact .cons _ _ (ih _ b)

theorem script_of {l : OpenLaw} {n : Nat} (hn : l.most = some n) {P : Params} {h : Heap} {args : List WData} {vals : List Value}
    (hpre : l.row.toRowW.claim.pre args = true) (hwl : WellAll P h vals args) :
    ∃ a vs ns, vals = [Value.ref a] ∧ args = [WData.list (ns.map WData.int)] ∧ h.get? a = some { cls := .type "list", data := .seq vs.toArray } ∧ IntsAre vs ns ∧ ns.length ≤ n := by
  have hsh : WShape.hasAll [] args [.list .int] = true := (pre_splitW hpre).1
  have hc : l.pre.holds [] { args := args } = true := (pre_splitW hpre).2
  obtain ⟨d, r, rfl, h1, h2⟩ := hasAllW_cons hsh
  obtain rfl := hasAllW_nil h2
  obtain ⟨xs, rfl, h3⟩ := hasW_list h1
  obtain ⟨ns, rfl⟩ := items_int h3
  have hlen : ns.length ≤ n := by
    unfold OpenLaw.pre at hc
    have h4 : (WTm.not (.lt (.lit (.int (n : Int))) (.len (.arg 0)))).holds [] { args := [.list (ns.map .int)] } = true := by
      have h4 := (holds_andW hc).1
      rw [hn] at h4
      exact h4
    have h5 := condW_of h4 (w_not (w_lt w_lit (w_len_list (w_arg rfl))))
    rw [List.length_map] at h5
    refine Nat.le_of_not_lt fun q => ?_
    have q' : (n : Int) < ((ns.length : Nat) : Int) := by omega
    first
      | (rw [decide_eq_true q'] at h5; exact absurd h5 (by decide))
      | (simp at h5; omega)
  cases hwl with
  | cons w1 w2 =>
    cases w2
    cases w1 with
    | list ho hall => exact ⟨_, _, ns, rfl, rfl, ho, ints_of_wellAll ns _ hall, hlen⟩

theorem post_true (l : OpenLaw) (args : List WData) : l.row.toRowW.claim.post args (.bool true) args = true :=
  postW_of (r := l.row.toRowW) (X := (true == true))
    (show WShape.has [] (.bool true) .bool = true by first | rfl | decide | simp [WShape.has, WShape.arms, WShape.armsAll])
    (show (WTm.eq .res (.lit (.bool true))).value [] { args := args, res := some (.bool true), after := args } = some (.bool (true == true)) from w_eq_bool (w_res rfl) w_lit) rfl

/-- the same from a codeAny of the CALL (for a layer whose function contracts speak of calls) -/
theorem attach_call {l : OpenLaw} {n : Nat} {q : Program} {loose : List Str} {XP : (Str → Option Value) → Heap → Prop} {YP : World → Heap → Prop} {d : DefRec}
    (hn : l.most = some n) (hdf : d.params.defaults = [])
    (call : ∀ (w : World) (s₀ s₁ : Shared) (mg mb : Str → Option Value) (fa : Addr) (o : Obj) (pm cd doc : Value) (a : Addr) (vs : List Value) (ns : List Int),
      Ground q loose [] XP w s₀ mg mb s₁.heap → YP w s₁.heap →
      s₁.heap.get? fa = some o → o.data = .func (docDef d.name d.params d.body d.scope pm cd doc) → s₁.heap.CodeRec cd d.name → mg d.name = some (.ref fa) →
      s₁.heap.get? a = some { cls := .type "list", data := .seq vs.toArray } → IntsAre vs ns → ns.length ≤ n → s₁.gens = #[] →
      codeAny (model l.prog w) callerA (.call (.ref fa) ⟨[.ref a], []⟩) (fun r s' => r = .ok (.ret (.bool true)) ∧ OldK s₁.heap s'.heap ∧ s'.os = s₁.os ∧ AllBare s'.gens) s₁) :
    WalkO q loose XP YP l.row.toRowW d [] (fun f vs => PySem.call f vs) := by
  intro w s₀ s₁ mg mb G Y fa o pm cd doc dV kV ho hd hcd hD hmg hg args vals as hpre hlay hrd hwl hlo
  obtain rfl : dV = .none := Dflts.none hD hdf
  obtain rfl : kV = .none := Dflts.noKw hD
  obtain ⟨a, vs, ns, rfl, rfl, hobj, hints, hlen⟩ := script_of hn hpre hwl
  refine enter_call (codeAny_mono (call w s₀ s₁ mg mb fa o pm cd doc a vs ns G Y ho (fd_plain hd) hcd hmg hobj hints hlen hg) fun r s' hq => ?_)
  obtain ⟨rfl, h2, h3, h4⟩ := hq
  exact ⟨.inl ⟨.bool true, .bool true, [], rfl, fun _ => rfl, .bool true, post_true l _, fun _ => ⟨List.Pairwise.nil, fun _ hm => (nomatch hm)⟩⟩, h2, h3, h4⟩

/-! ### rules over ANY heap (no ledger) from facts about the written part K: the library's own take a ledger (News) for what they write -/
section
variable {prog : Program} {w : World} {A : Around} {E : Value → Shared → Prop} {s : Shared} {K : Frag}

/-! the whole heap as the ledger: makes every rule that writes through a ledger a rule over any heap -/
def noObjs (h : Heap) : Heap := { h with objs := #[] }
def ledger (h : Heap) (L d : Addr) : List (Addr × Obj) := (List.range h.objs.size).filterMap fun a => if a = L ∨ a = d then none else (h.get? a).map fun o => (a, o)
end
end Att

namespace L2
open PySem PySem.Spec PyProof.Rows

theorem vals_ints : ∀ {vs : List Value} {ns : List Int}, IntsAre vs ns → Vals (ns.map V.int) vs
  | _, _, .nil => .nil
  | _, _, .cons n t h => .cons ⟨t, rfl⟩ (vals_ints h)

/-- nothing is tracked but the script, known to the object (or it is an object of the module) -/
def Only (H : Hp) : Prop := ∀ b, H b = none ∨ ∃ o xs, H b = some (.frz o (.lst xs))

/-- THE HEAD: the law's promise, at the heap behind the top. F, the promise of the law's def, may use that base is part of the heap (so K.In base, base.Ns mainGlobals mg stand in Mod) -/
theorem law_call {P : Program} {w : World} {K : PySem.W.Frag} {mg mb : Str → Option Value} {CX : CXT} {k : Nat} {fa a : Addr} {fd : FuncData} {x : Str} {sp : Sp} {s₁ : Shared} {vs : List Value} {ns : List Int}
    (KX : K.In s₁.heap) (hns : s₁.heap.Ns mainGlobals mg) (hb : s₁.heap.Ns builtinsNs mb) (hbb : ∀ x : Str, x ≠ "__name__" → mb x = bootBuiltins x) (hlim : s₁.heap.NoLimit) (hg : s₁.gens = #[])
    (ha : s₁.heap.get? a = some { cls := .type "list", data := .seq vs.toArray }) (hi : IntsAre vs ns) (hl : ns.length ≤ sizeLine) (hr : Room k callerA)
    (F : ∀ base : Heap, K.In base → base.Ns mainGlobals mg → FnOk P w K mg base CX k fa fd [x] sp) (hbind : ∀ (s : Shared) (u : Value), BindsTo s fd ⟨[u], []⟩ [(x, u)])
    (hsp : ∀ H : Hp, Only H → SqL K H a (ns.map V.int) → sp [.ref a] H (fun v _ => v = .bl true) fun _ _ _ => False)
    (hCX : ∀ H e s', CX [] H s₁ (fun _ _ _ => False) e s' → False) :
    codeAny (model P w) callerA (.call (.ref fa) ⟨[.ref a], []⟩) (fun r s' => r = .ok (.ret (.bool true)) ∧ OldK s₁.heap s'.heap ∧ s'.os = s₁.os ∧ AllBare s'.gens) s₁ := by
  have rv := vals_ints hi
  have lenV := hi.length
  -- from an abstract heap in which nothing but the script may be tracked
  have core : ∀ H : Hp, Only H → SqL K H a (ns.map V.int) → HOk P w H s₁.heap → (∀ b, H b ≠ none → b = a) → (H a ≠ none → K.lookup a = none) →
      codeAny (model P w) callerA (.call (.ref fa) ⟨[.ref a], []⟩) (fun r s' => r = .ok (.ret (.bool true)) ∧ OldK s₁.heap s'.heap ∧ s'.os = s₁.os ∧ AllBare s'.gens) s₁ := by
    intro H hO hS hok hA hK
    have base_of : ∀ {b : Addr} {o : Obj}, s₁.heap.get? b = some o → H b = none → (hidT s₁.heap H).get? b = some o := fun e n => hidT_get e n
    have noA : ∀ {b : Addr} {o : Obj} {es : Array DictEntry} {ep : Nat}, s₁.heap.get? b = some o → o.data = .dict es ep → H b = none := fun {b o es ep} e d => by
      cases q : H b with
      | none => rfl
      | some u =>
        have e' : b = a := hA b (by rw [q]; simp)
        subst e'
        rw [ha] at e; cases e
        have d' : Data.seq vs.toArray _ = Data.dict es ep := d
        cases d'
    have nsK : ∀ {b : Addr} {m : Str → Option Value}, s₁.heap.Ns b m → (hidT s₁.heap H).Ns b m := fun {b m} ⟨o, es, ep, e, d, r⟩ => ⟨o, es, ep, base_of e (noA e d), d, r⟩
    have hKb : K.In (hidT s₁.heap H) := fun b o e => base_of (KX b o e) (by
      cases q : H b with
      | none => rfl
      | some u =>
        have e' : b = a := hA b (by rw [q]; simp)
        subst e'
        rw [hK (by rw [q]; simp)] at e; cases e)
    have hM : Mod K mg (hidT s₁.heap H) := ⟨hKb, nsK hns, ⟨mb, nsK hb, hbb⟩, let ⟨mc, h1, h2⟩ := hlim; ⟨mc, nsK h1, h2⟩⟩
    have e0 : Env0 P w K mg (hidT s₁.heap H) callerA [] s₁ H := ⟨rfl, hM, fun b o e => of_hidT e, Nat.le_of_eq (hidT_size _ _), trivial, fun b hb => absurd (show b ∈ ([] : List Addr) from hb) (by simp), hok, .of_eq hg⟩
    refine codeAny_mono ((F _ hKb (nsK hns)).run callerA [] s₁ H ⟨[.ref a], []⟩ [.ref a] [.ref a] _ _ hr e0 (hbind s₁ (.ref a)) (.cons rfl .nil) (hsp H hO hS)) fun r s' h => ?_
    cases r with
    | error e => exact (hCX H e s' h).elim
    | ok fl =>
      cases fl with
      | next => exact False.elim h
      | brk => exact False.elim h
      | cont => exact False.elim h
      | ret u =>
        obtain ⟨v, H', os, bare, un, hok', r', q⟩ := h
        have q' : v = .bl true := q
        subst q'
        obtain rfl : u = Value.bool true := r'
        refine ⟨rfl, OldK.of_keep fun b o e => ?_, os, bare⟩
        cases q : H b with
        | none => exact un.keep b o e q (by intro z; exact absurd (show b ∈ ([] : List Addr) from z) (by simp)) (by simp)
        | some u =>
          rcases hO b with z | ⟨ob, xs, z⟩
          · rw [q] at z; cases z
          · have z2 := un.frzs b ob _ z
            obtain ⟨e1, _⟩ := hok b _ z
            obtain ⟨e2, _⟩ := hok' b _ z2
            rw [e] at e1; cases e1
            exact e2
  cases hk : K.lookup a with
  | some o =>
    -- the script is one of the module's own objects
    have e := KX a o hk
    rw [ha] at e
    cases e
    refine core (fun _ => none) (fun _ => .inl rfl) (.inr ⟨_, vs.toArray, _, hk, rfl, rfl, rfl, by rw [List.size_toArray, lenV]; exact hl, by simpa using rv⟩) (fun b u z => by have z' : (none : Option HO) = some u := z; cases z') (fun b z => absurd rfl z) fun z => absurd rfl z
  | none =>
    refine core (fun b => if b = a then some (.frz { cls := .type "list", data := .seq vs.toArray } (.lst (ns.map V.int))) else none) (fun b => ?_) (.inl (.inr ⟨{ cls := .type "list", data := .seq vs.toArray }, if_pos rfl⟩)) (fun b u z => ?_) (fun b z => ?_) fun _ => hk
    · by_cases hb : b = a
      · exact .inr ⟨_, _, if_pos hb⟩
      · exact .inl (if_neg hb)
    · by_cases hb : b = a
      · have z' := (if_pos hb).symm.trans z
        cases z'
        subst hb
        exact ⟨ha, by rw [List.length_map]; exact hl, vs, _, rv, ha⟩
      · have z' := (if_neg hb).symm.trans z
        cases z'
    · by_cases hb : b = a
      · exact hb
      · exact absurd (if_neg hb) z
end L2

namespace L2
open PySem PySem.Spec PyProof.Rows

abbrev KOf {K : PySem.W.Frag} {h : Heap} (_ : K.In h) : PySem.W.Frag := K

/-- the goal that k_head leaves (case hc), from the law's promise. F gives the function object fd (K's own) once, then the promise over every base -/
theorem walk_of {l : PySem.W.OpenLaw} {n k : Nat} {q : Program} {loose : List Str} {XP : (Str → Option Value) → Heap → Prop} {YP : World → Heap → Prop} {d : DefRec} {K : Params → PySem.W.Frag} {CX : World → CXT} {sp : World → Sp} {x : Str}
    (hn : l.most = some n) (hn2 : n ≤ sizeLine) (hdf : d.params.defaults = []) (hr : Room k callerA)
    (hY : ∀ (w : World) (h : Heap), YP w h → (K w.params).In h)
    (F : ∀ (w : World) (mg : Str → Option Value) (fa : Addr) (h : Heap), (K w.params).In h → h.Ns mainGlobals mg → mg d.name = some (.ref fa) →
      ∃ fd : FuncData, (∀ (s : Shared) (u : Value), BindsTo s fd ⟨[u], []⟩ [(x, u)]) ∧
        ∀ base : Heap, (K w.params).In base → base.Ns mainGlobals mg → FnOk l.prog w (K w.params) mg base (CX w) k fa fd [x] (sp w))
    (hsp : ∀ (w : World) (H : Hp) (a : Addr) (ns : List Int), ns.length ≤ n → Only H → SqL (K w.params) H a (ns.map V.int) → sp w [.ref a] H (fun v _ => v = .bl true) fun _ _ _ => False)
    (hCX : ∀ (w : World) (H : Hp) (s : Shared) (e : Value) (s' : Shared), CX w [] H s (fun _ _ _ => False) e s' → False) :
    PySem.W.WalkO q loose XP YP l.row.toRowW d [] (fun f vs => PySem.call f vs) := by
  refine Att.attach_call hn hdf fun w s₀ s₁ mg mb fa o pm cd doc a vs ns G Y ho hd hcd hmg hobj hints hlen hg => ?_
  have KX := hY w _ Y
  obtain ⟨fd, hb, hF⟩ := F w mg fa _ KX G.T.g hmg
  exact law_call KX G.T.g G.T.b G.T.builtins G.T.nolimit hg hobj hints (Nat.le_trans hlen hn2) hr hF hb (fun H hO hS => hsp w H a ns hlen hO hS) fun H e s' => hCX w H s₁ e s'
end L2

/-! SHORT WORDS over the layer: a def of the text, its body, what a loop and a test want. -/
namespace L2
open PySem PySem.Spec PyProof.Rows

/-! ### the text by places -/
/-- the j-th statement of a class's body -/
def inClass (s : Stmt) (j : Nat) : Stmt := match s with
  | .ClassDef _ _ _ body _ _ _ _ _ _ _ => body.getD j (.Pass ⟨0, 0, 0, 0⟩)
  | _ => .Pass ⟨0, 0, 0, 0⟩
def defArgs (s : Stmt) : Arguments := match s with
  | .FunctionDef _ a _ _ _ _ _ _ _ _ => a
  | _ => { posonlyargs := [], args := [], vararg := none, kwonlyargs := [], kw_defaults := [], kwarg := none, defaults := [] }
def defBody (s : Stmt) : List Stmt := match s with
  | .FunctionDef _ _ b _ _ _ _ _ _ _ => b
  | _ => []
def defScope (s : Stmt) : Scope := match s with
  | .FunctionDef _ _ _ _ _ _ sc _ _ _ => sc
  | _ => { kind := .function, names := [], isGenerator := false, isCoroutine := false }

/-! ### no exception leaves a def -/
abbrev CX0 : CXT := fun _ _ _ _ _ _ => False
abbrev E0 : XK := fun _ _ _ => False
theorem pass0 {X : Cx} : Passes CX0 X E0 := fun _ _ _ _ _ _ _ h => h.elim

/-! ### a def (or method) of the text as it stands behind the top -/
structure Fun (K : PySem.W.Frag) (x qual : Str) (st : Stmt) (f : Addr) (fd : FuncData) : Prop where
  ex : ∃ (oc : Value) (od : Option Addr) (kV doc pm : Value) (an : Option Addr) (cdv ct : Value) (osl : Array (Option Value)),
    fd = PySem.W.fnOf x qual (defArgs st) (defBody st) (defScope st) .none kV doc pm an cdv ct ∧ K.lookup f = some ⟨oc, od, .func fd, osl⟩ ∧ PySem.W.codeIn K cdv qual = true
  kp : PySem.W.keepIn K (.ref f) = true
section
variable {P : Program} {w : World} {K : PySem.W.Frag} {mg : Str → Option Value} {base : Heap}
/-- THE RULE for a def: its body as a term of rules, and the reading of that term -/
theorem Fun.ok {x qual : Str} {st : Stmt} {f : Addr} {fd : FuncData} {N ps : List Str} {k : Nat} {sp : Sp} (F : Fun K x qual st f fd) (S : FnScope N ps (defScope st)) (len : ∀ vs H Q E, sp vs H Q E → vs.length = ps.length)
    (hbody : ∀ (cdv : Value) (A : Around) (outer : List Env) (s : Shared) (H : Hp) (vs : List V) (Q : VK) (E : XK), Room k (A.deeper (envOfC qual (defScope st) s.heap.objs.size f cdv)) → sp vs H Q E →
      ∃ t, PSs (cxOf CX0 P w K mg base N qual (defScope st) f cdv A outer s H E).nox (defBody st) t ∧ t { nx := fun _ H' => Q .non H', rt := Q } (start N vs) H) : FnOk P w K mg base CX0 (k + 1) f fd ps sp := by
  obtain ⟨oc, od, kV, doc, pm, an, cdv, ct, osl, rfl, lk, hcd⟩ := F.ex
  refine fn_of lk hcd S len fun A outer s H vs Q E hr hsp => ?_
  obtain ⟨t, h, q⟩ := hbody cdv A outer s H vs Q E hr hsp
  exact ⟨t, h.nox, q⟩
/-- how its arguments bind (no defaults): h is «fun _ _ _ _ _ _ us hl => match us, hl with | [_, _], _ => rfl», one _ a parameter -/
theorem Fun.binds {x qual : Str} {st : Stmt} {f : Addr} {fd : FuncData} {ps : List Str} (F : Fun K x qual st f fd)
    (h : ∀ (kV doc pm : Value) (an : Option Addr) (cdv ct : Value) (us : List Value), us.length = ps.length → bindArgs (PySem.W.fnOf x qual (defArgs st) (defBody st) (defScope st) .none kV doc pm an cdv ct) ⟨us, []⟩ = pure (ps.zip us)) : Binds K fd ps [] := by
  obtain ⟨oc, od, kV, doc, pm, an, cdv, ct, osl, rfl, lk, hcd⟩ := F.ex
  exact .all (h kV doc pm an cdv ct)
theorem fun_mk {x qual : Str} {st : Stmt} {f : Addr} {oc : Value} {od an : Option Addr} {osl : Array (Option Value)} {kV doc pm cdv ct : Value} (l : K.lookup f = some ⟨oc, od, .func (PySem.W.fnOf x qual (defArgs st) (defBody st) (defScope st) .none kV doc pm an cdv ct), osl⟩)
    (c : PySem.W.codeIn K cdv qual = true) (k : PySem.W.keepIn K (.ref f) = true) : Fun K x qual st f (PySem.W.fnOf x qual (defArgs st) (defBody st) (defScope st) .none kV doc pm an cdv ct) := ⟨⟨oc, od, kV, doc, pm, an, cdv, ct, osl, rfl, l, c⟩, k⟩
end
/-! ### expressions in short: the name that stands in the i-th slot -/
section
variable {X : Cx}
end

/-! ### tests -/
theorem iteF {A B : Prop} (h : B) : if false = true then A else B := by
  rw [if_neg Bool.false_ne_true]
  exact h
theorem iteT {A B : Prop} (h : A) : if true = true then A else B := by
  rw [if_pos rfl]
  exact h
theorem ite2 {c A B : Prop} [Decidable c] (h1 : c → A) (h2 : ¬ c → B) : if c then A else B := by
  by_cases h : c
  · rw [if_pos h]
    exact h1 h
  · rw [if_neg h]
    exact h2 h
/-! ### heaps -/
/-- all that was tracked is as it was -/
def Same (H H' : Hp) : Prop := ∀ b o, H b = some o → H' b = some o
theorem Same.refl (H : Hp) : Same H H := fun _ _ h => h
theorem Same.trans {H H1 H2 : Hp} (a : Same H H1) (b : Same H1 H2) : Same H H2 := fun c o h => b c o (a c o h)
theorem Same.free {H H' : Hp} (e : Same H H') {l : Addr} (h : H' l = Option.none) : H l = Option.none := by
  cases q : H l with
  | none => rfl
  | some o =>
    rw [e l o q] at h
    cases h
theorem Same.seq {K : PySem.W.Frag} {H H' : Hp} {a : Addr} {xs : List V} (e : Same H H') (h : SqL K H a xs) : SqL K H' a xs := by
  rcases h with (h | ⟨o, h⟩) | h
  · exact .inl (.inl (e _ _ h))
  · exact .inl (.inr ⟨o, e _ _ h⟩)
  · exact .inr h

end L2

namespace Dl
open PySem PySem.Spec PyProof.Rows L2

/-! ## Data without the heap -/
inductive D where
  | non | bl (b : Bool) | int (i : Int) | str (x : Str) | tup (l : List D) | lst (l : List D)
  deriving Inhabited

mutual
inductive Den (K : PySem.W.Frag) (G : Hp) : V → D → Prop
  | non : Den K G .non .non
  | bl (b : Bool) : Den K G (.bl b) (.bl b)
  | int (i : Int) : Den K G (.int i) (.int i)
  | str (x : Str) : Den K G (.str x) (.str x)
  | tup {a : Addr} {vs : List V} {ds : List D} : SqT K G a vs → DenL K G vs ds → Den K G (.ref a) (.tup ds)
  | lst {a : Addr} {vs : List V} {ds : List D} : SqL K G a vs → DenL K G vs ds → Den K G (.ref a) (.lst ds)
inductive DenL (K : PySem.W.Frag) (G : Hp) : List V → List D → Prop
  | nil : DenL K G [] []
  | cons {v : V} {d : D} {vs : List V} {ds : List D} : Den K G v d → DenL K G vs ds → DenL K G (v :: vs) (d :: ds)
end

theorem Same.tupS {K : PySem.W.Frag} {H H' : Hp} {a : Addr} {xs : List V} (e : Same H H') (h : SqT K H a xs) : SqT K H' a xs := by
  rcases h with (h | ⟨o, h⟩) | h
  · exact .inl (.inl (e _ _ h))
  · exact .inl (.inr ⟨o, e _ _ h⟩)
  · exact .inr h

section
variable {K : PySem.W.Frag} {G G' : Hp}
mutual
theorem Den.up (e : Same G G') : ∀ {v : V} {d : D}, Den K G v d → Den K G' v d
  | _, _, .non => .non
  | _, _, .bl b => .bl b
  | _, _, .int i => .int i
  | _, _, .str x => .str x
  | _, _, .tup h l => .tup (Same.tupS e h) (DenL.up e l)
  | _, _, .lst h l => .lst (e.seq h) (DenL.up e l)
theorem DenL.up (e : Same G G') : ∀ {vs : List V} {ds : List D}, DenL K G vs ds → DenL K G' vs ds
  | _, _, .nil => .nil
  | _, _, .cons h t => .cons (Den.up e h) (DenL.up e t)
end
theorem DenL.length : ∀ {vs : List V} {ds : List D}, DenL K G vs ds → vs.length = ds.length
  | _, _, .nil => rfl
  | _, _, .cons _ t => by simp [DenL.length t]
theorem DenL.get : ∀ {vs : List V} {ds : List D} {i : Nat} {d : D}, DenL K G vs ds → ds[i]? = some d → ∃ v, vs[i]? = some v ∧ Den K G v d
  | _, _, _, _, .nil, e => by simp at e
  | _, _, 0, _, .cons h _, e => by simp at e; subst e; exact ⟨_, rfl, h⟩
  | _, _, i + 1, _, .cons _ t, e => by
    obtain ⟨v, h1, h2⟩ := DenL.get (i := i) t (by simpa using e)
    exact ⟨v, by simpa using h1, h2⟩
theorem DenL.getV : ∀ {vs : List V} {ds : List D} {i : Nat} {v : V}, DenL K G vs ds → vs[i]? = some v → ∃ d, ds[i]? = some d ∧ Den K G v d
  | _, _, _, _, .nil, e => by simp at e
  | _, _, 0, _, .cons h _, e => by simp at e; subst e; exact ⟨_, rfl, h⟩
  | _, _, i + 1, _, .cons _ t, e => by
    obtain ⟨v, h1, h2⟩ := DenL.getV (i := i) t (by simpa using e)
    exact ⟨v, by simpa using h1, h2⟩
theorem DenL.append : ∀ {vs ws : List V} {ds es : List D}, DenL K G vs ds → DenL K G ws es → DenL K G (vs ++ ws) (ds ++ es)
  | _, _, _, _, .nil, h => h
  | _, _, _, _, .cons a t, h => .cons a (DenL.append t h)
theorem DenL.take : ∀ {vs : List V} {ds : List D} (n : Nat), DenL K G vs ds → DenL K G (vs.take n) (ds.take n)
  | _, _, 0, _ => .nil
  | _, _, _ + 1, .nil => .nil
  | _, _, n + 1, .cons a t => .cons a (DenL.take n t)
theorem DenL.drop : ∀ {vs : List V} {ds : List D} (n : Nat), DenL K G vs ds → DenL K G (vs.drop n) (ds.drop n)
  | _, _, 0, h => h
  | _, _, _ + 1, .nil => .nil
  | _, _, n + 1, .cons _ t => DenL.drop n t
theorem DenL.ints : ∀ (ns : List Int), DenL K G (ns.map V.int) (ns.map D.int)
  | [] => .nil
  | _ :: r => .cons (.int _) (DenL.ints r)
theorem Den.int_inv {v : V} {i : Int} (h : Den K G v (.int i)) : v = .int i := by cases h; rfl
theorem Den.bl_inv {v : V} {i : Bool} (h : Den K G v (.bl i)) : v = .bl i := by cases h; rfl
theorem Den.str_inv {v : V} {i : Str} (h : Den K G v (.str i)) : v = .str i := by cases h; rfl
theorem Den.non_inv {v : V} (h : Den K G v .non) : v = .non := by cases h; rfl
theorem Den.tup_inv {v : V} {l : List D} (h : Den K G v (.tup l)) : ∃ a vs, v = .ref a ∧ SqT K G a vs ∧ DenL K G vs l := by
  cases h with | tup h t => exact ⟨_, _, rfl, h, t⟩
theorem Den.lst_inv {v : V} {l : List D} (h : Den K G v (.lst l)) : ∃ a vs, v = .ref a ∧ SqL K G a vs ∧ DenL K G vs l := by
  cases h with | lst h t => exact ⟨_, _, rfl, h, t⟩
end

/-! ## The environment: what each name holds -/
/-- what an attribute holds: a value, a list of its own -/
inductive Fl where
  | sh (d : D) | ow (l : List D)
  deriving Inhabited
/-- ow: a list of one's own; mu: a list that was handed in to be changed; ob: an instance, by its class and attributes (h: where it was handed in); pt: an address of which nothing more is known; rc: a dict with texts as keys -/
inductive Sl where
  | no | sh (d : D) | ow (l : List D) | mu (a : Nat) (l : List D) | ob (h : Option Nat) (C : Nat) (fs : List (Str × Fl)) | pt (a : Nat) | rc (h : Option Nat) (fs : List (Str × Fl))
abbrev Ev := List Sl

/-- the entry of the def that runs: what was known and stays, the heap then, what may be changed -/
structure En where
  G : Hp
  H : Hp
  M : Addr → Prop

/-- who owns what: a slot, and an attribute of it -/
abbrev Ow := Addr → Option (Nat × Str)
def FlW (K : PySem.W.Frag) (G H : Hp) (ow : Ow) (i : Nat) (f : Str) (v : V) : Fl → Prop
  | .sh d => Den K G v d
  | .ow l => ∃ q vs, v = .ref q ∧ H q = some (.lst vs) ∧ ow q = some (i, f) ∧ DenL K G vs l
/-- a pair of a dict -/
def kx (p : Str × V) : Key × V := (Sum.inr p.1, p.2)
structure FsW (K : PySem.W.Frag) (G H : Hp) (ow : Ow) (i : Nat) (vfs : List (Str × V)) (fs : List (Str × Fl)) : Prop where
  keys : vfs.map (·.1) = fs.map (·.1)
  at_ : ∀ f s, fs.lookup f = some s → ∃ v, vfs.lookup f = some v ∧ FlW K G H ow i f v s
def SlW (K : PySem.W.Frag) (n : En) (G H : Hp) (ow : Ow) (i : Nat) (o : Option (Option V)) : Sl → Prop
  | .no => True
  | .sh d => ∃ v, o = some (some v) ∧ Den K G v d
  | .ow l => ∃ p vs, o = some (some (.ref p)) ∧ H p = some (.lst vs) ∧ n.H p = none ∧ ow p = some (i, ("" : Str)) ∧ DenL K G vs l
  | .mu a l => ∃ vs, o = some (some (.ref a)) ∧ H a = some (.lst vs) ∧ ow a = some (i, ("" : Str)) ∧ DenL K G vs l
  | .ob h C fs => ∃ a dx vfs, o = some (some (.ref a)) ∧ (∀ a0, h = some a0 → a = a0) ∧ H a = some (.ins C dx vfs) ∧ H dx = some (.own a) ∧ ow a = some (i, ("" : Str)) ∧ ow dx = some (i, ("" : Str)) ∧ FsW K G H ow i vfs fs
  | .pt a => o = some (some (.ref a))
  | .rc h fs => ∃ a vfs, o = some (some (.ref a)) ∧ (∀ a0, h = some a0 → a = a0) ∧ H a = some (.dK (vfs.map kx)) ∧ ow a = some (i, ("" : Str)) ∧ FsW K G H ow i vfs fs
def SlOk (K : PySem.W.Frag) (n : En) (G H : Hp) (o : Option (Option V)) : Sl → Prop
  | .no => True
  | .sh d => ∃ v, o = some (some v) ∧ Den K G v d
  | .ow l => ∃ p vs, o = some (some (.ref p)) ∧ H p = some (.lst vs) ∧ G p = none ∧ n.H p = none ∧ DenL K G vs l
  | .mu a l => ∃ vs, o = some (some (.ref a)) ∧ H a = some (.lst vs) ∧ G a = none ∧ DenL K G vs l
  | .ob h C fs => ∃ a dx vfs, o = some (some (.ref a)) ∧ (∀ a0, h = some a0 → a = a0) ∧ H a = some (.ins C dx vfs) ∧ H dx = some (.own a) ∧ ∃ ow i, FsW K G H ow i vfs fs
  | .pt a => o = some (some (.ref a))
  | .rc h fs => ∃ a vfs, o = some (some (.ref a)) ∧ (∀ a0, h = some a0 → a = a0) ∧ H a = some (.dK (vfs.map kx)) ∧ ∃ ow i, FsW K G H ow i vfs fs

structure OwOk (n : En) (G H : Hp) (ow : Ow) : Prop where
  is : ∀ p k, ow p = some k → G p = none ∧ H p ≠ none ∧ (n.H p = none ∨ n.M p)
structure Rel (K : PySem.W.Frag) (n : En) (δ : Ev) (σ : L2.St) (G H : Hp) : Prop where
  sub : Same G H
  eg : Same n.G G
  eh : ∀ b o, n.H b = some o → ¬ n.M b → H b = some o
  al : ∀ b, H b = none → n.H b = none
  fr : ∀ b o, G b = some o → n.G b = none → n.H b = none
  gh : ∃ ow : Ow, OwOk n G H ow ∧ ∀ (i : Nat) (s : Sl), δ[i]? = some s → SlW K n G H ow i σ[i]? s
  len : δ.length = σ.length

section
variable {K : PySem.W.Frag} {n : En} {δ δ' : Ev} {σ σ' : L2.St} {G H G' H' : Hp} {p : Addr} {o : HO} {ow ow' : Ow} {i i' : Nat}
theorem FlW.keep {f : Str} {v : V} {s : Fl} (hG : Same G G') (hO : ∀ p f, ow p = some (i, f) → ow' p = some (i', f)) (hH : ∀ p f o, ow p = some (i, f) → H p = some o → H' p = some o) (h : FlW K G H ow i f v s) : FlW K G' H' ow' i' f v s := by
  cases s with
  | sh d => exact Den.up hG h
  | ow l => obtain ⟨q, vs, h1, h2, h3, h4⟩ := h; exact ⟨q, vs, h1, hH _ _ _ h3 h2, hO _ _ h3, h4.up hG⟩
theorem FsW.keep {vfs : List (Str × V)} {fs : List (Str × Fl)} (hG : Same G G') (hO : ∀ p f, ow p = some (i, f) → ow' p = some (i', f)) (hH : ∀ p f o, ow p = some (i, f) → H p = some o → H' p = some o) (h : FsW K G H ow i vfs fs) : FsW K G' H' ow' i' vfs fs :=
  ⟨h.keys, fun f s e => let ⟨v, h1, h2⟩ := h.at_ f s e; ⟨v, h1, h2.keep hG hO hH⟩⟩
theorem SlW.keep {s : Sl} {x : Option (Option V)} (hG : Same G G') (hO : ∀ p f, ow p = some (i, f) → ow' p = some (i', f)) (hH : ∀ p f o, ow p = some (i, f) → H p = some o → H' p = some o) (h : SlW K n G H ow i x s) : SlW K n G' H' ow' i' x s := by
  cases s with
  | no => trivial
  | sh d => obtain ⟨v, h1, h2⟩ := h; exact ⟨v, h1, h2.up hG⟩
  | ow l => obtain ⟨p, vs, h1, h2, h3, h4, h5⟩ := h; exact ⟨p, vs, h1, hH _ _ _ h4 h2, h3, hO _ _ h4, h5.up hG⟩
  | mu a l => obtain ⟨vs, h1, h2, h4, h5⟩ := h; exact ⟨vs, h1, hH _ _ _ h4 h2, hO _ _ h4, h5.up hG⟩
  | ob q C fs => obtain ⟨a, dx, vfs, h1, h2, h3, h4, h5, h6, h7⟩ := h; exact ⟨a, dx, vfs, h1, h2, hH _ _ _ h5 h3, hH _ _ _ h6 h4, hO _ _ h5, hO _ _ h6, h7.keep hG hO hH⟩
  | pt a => exact h
  | rc q fs => obtain ⟨a, vfs, h1, h2, h3, h5, h7⟩ := h; exact ⟨a, vfs, h1, h2, hH _ _ _ h5 h3, hO _ _ h5, h7.keep hG hO hH⟩
theorem Rel.sl (R : Rel K n δ σ G H) (i : Nat) (s : Sl) (hs : δ[i]? = some s) : SlOk K n G H σ[i]? s := by
  obtain ⟨ow, ok, gh⟩ := R.gh
  have h := gh i s hs
  cases s with
  | no => trivial
  | sh d => exact h
  | ow l => obtain ⟨p, vs, h1, h2, h3, h4, h5⟩ := h; exact ⟨p, vs, h1, h2, (ok.is _ _ h4).1, h3, h5⟩
  | mu a l => obtain ⟨vs, h1, h2, h4, h5⟩ := h; exact ⟨vs, h1, h2, (ok.is _ _ h4).1, h5⟩
  | ob q C fs => obtain ⟨a, dx, vfs, h1, h2, h3, h4, h5, h6, h7⟩ := h; exact ⟨a, dx, vfs, h1, h2, h3, h4, ow, i, h7⟩
  | pt a => exact h
  | rc q fs => obtain ⟨a, vfs, h1, h2, h3, h5, h7⟩ := h; exact ⟨a, vfs, h1, h2, h3, ow, i, h7⟩
end

/-- from one heap to a later one: all that was is as it was, what is known now is new -/
structure Ext (G H G' H' : Hp) : Prop where
  gg : Same G G'
  gh : Same G' H'
  hh : Same H H'
  fr : ∀ b o, G' b = some o → G b = none → H b = none

theorem same_upd {H : Hp} {p : Addr} (h : H p = none) (o : HO) : Same H (upd H p o) := fun b u q => by rw [upd_ne (ne_of_none q h)]; exact q
theorem Ext.refl {G H : Hp} (s : Same G H) : Ext G H G H := ⟨Same.refl _, s, Same.refl _, fun b o e e0 => (by rw [e0] at e; cases e)⟩
theorem Ext.laid {G H : Hp} {p : Addr} (s : Same G H) (h : H p = none) (o : HO) : Ext G H (upd G p o) (upd H p o) := by
  have hG : G p = none := s.free h
  refine ⟨same_upd hG o, fun b u e => ?_, same_upd h o, fun b u e e0 => ?_⟩
  · by_cases hb : b = p
    · subst hb; rw [upd_same] at e ⊢; exact e
    · rw [upd_ne hb] at e ⊢; exact s b u e
  · by_cases hb : b = p
    · subst hb; exact h
    · rw [upd_ne hb, e0] at e; cases e
theorem Ext.trans {G H G1 H1 G2 H2 : Hp} (a : Ext G H G1 H1) (b : Ext G1 H1 G2 H2) : Ext G H G2 H2 := by
  refine ⟨a.gg.trans b.gg, b.gh, a.hh.trans b.hh, fun c o e e0 => ?_⟩
  cases q : G1 c with
  | none => exact a.hh.free (b.fr c o e q)
  | some u => exact a.fr c u q e0
theorem upd_some {H : Hp} {p b : Addr} {o : HO} (h : H b ≠ none) : upd H p o b ≠ none := by
  by_cases hb : b = p
  · subst hb; rw [upd_same]; exact fun z => by cases z
  · rw [upd_ne hb]; exact h
theorem same_some {H H' : Hp} (s : Same H H') {b : Addr} (h : H b ≠ none) : H' b ≠ none := fun z => h (s.free z)
def owSet (ow : Ow) (p : Addr) (k : Option (Nat × Str)) : Ow := fun b => if b = p then k else ow b
theorem owSet_same {ow : Ow} {p : Addr} {k : Option (Nat × Str)} : owSet ow p k p = k := if_pos rfl
theorem owSet_ne {ow : Ow} {p b : Addr} {k : Option (Nat × Str)} (h : b ≠ p) : owSet ow p k b = ow b := if_neg h

section
variable {K : PySem.W.Frag} {n : En} {δ δ' : Ev} {σ σ' : L2.St} {G H G' H' : Hp} {p : Addr} {o : HO}
theorem Rel.ext (R : Rel K n δ σ G H) (e : Ext G H G' H') : Rel K n δ σ G' H' := by
  obtain ⟨ow, ok, gh⟩ := R.gh
  refine ⟨e.gh, R.eg.trans e.gg, fun b u q m => e.hh b u (R.eh b u q m), fun b q => R.al b (e.hh.free q), fun b u q q0 => ?_, ⟨ow, ⟨fun p k hk => ?_⟩, fun i s hs => (gh i s hs).keep e.gg (fun _ _ z => z) fun p f u _ z => e.hh p u z⟩, R.len⟩
  · cases h : G b with
    | none => exact R.al b (e.fr b u q h)
    | some w => exact R.fr b w h q0
  · obtain ⟨h1, h2, h3⟩ := ok.is p k hk
    refine ⟨?_, same_some e.hh h2, h3⟩
    cases q : G' p with
    | none => rfl
    | some w => exact absurd (e.fr p w q h1) h2
theorem Rel.laid (R : Rel K n δ σ G H) (h : H p = none) (o : HO) : Rel K n δ σ (upd G p o) (upd H p o) := R.ext (.laid R.sub h o)
theorem set_get {α : Type} {l : List α} {i j : Nat} {a b : α} (h : (l.set i a)[j]? = some b) : (i = j ∧ b = a ∧ i < l.length) ∨ (i ≠ j ∧ l[j]? = some b) := by
  by_cases e : i = j
  · subst e
    rw [List.getElem?_set_self'] at h
    cases q : l[i]? with
    | none => rw [q] at h; cases h
    | some w =>
      rw [q] at h
      have hb : a = b := by simpa using h
      have := List.getElem?_eq_some_iff.mp q
      exact .inl ⟨rfl, hb.symm, this.1⟩
  · rw [List.getElem?_set_ne e] at h
    exact .inr ⟨e, h⟩
/-- a name gets a value -/
theorem Rel.set (R : Rel K n δ σ G H) {v : V} {d : D} (i : Nat) (hv : Den K G v d) : Rel K n (δ.set i (.sh d)) (σ.set i (some v)) G H := by
  obtain ⟨ow, ok, gh⟩ := R.gh
  refine ⟨R.sub, R.eg, R.eh, R.al, R.fr, ⟨ow, ok, fun j s hs => ?_⟩, by rw [List.length_set, List.length_set]; exact R.len⟩
  rcases set_get hs with ⟨e, rfl, hl⟩ | ⟨e, hs⟩
  · subst e
    refine ⟨v, ?_, hv⟩
    rw [List.getElem?_set_self (Nat.lt_of_lt_of_le hl (Nat.le_of_eq R.len))]
  · rw [List.getElem?_set_ne e]
    exact gh j s hs
/-- a name gets a new list of its own -/
theorem Rel.own (R : Rel K n δ σ G H) {vs : List V} {ds : List D} (i : Nat) (hp : H p = none) (hv : DenL K G vs ds) : Rel K n (δ.set i (.ow ds)) (σ.set i (some (.ref p))) G (upd H p (.lst vs)) := by
  obtain ⟨ow, ok, gh⟩ := R.gh
  have hG : G p = none := R.sub.free hp
  have hne : ∀ b k, ow b = some k → b ≠ p := fun b k hk z => by subst z; exact (ok.is _ _ hk).2.1 hp
  refine ⟨R.sub.trans (same_upd hp _), R.eg, fun b u q m => same_upd hp _ b u (R.eh b u q m), fun b q => R.al b ((same_upd hp _).free q), R.fr, ⟨owSet ow p (some (i, ("" : Str))), ⟨fun b k hk => ?_⟩, fun j s hs => ?_⟩, by rw [List.length_set, List.length_set]; exact R.len⟩
  · by_cases hb : b = p
    · subst hb; exact ⟨hG, by rw [upd_same]; exact (fun z => by cases z), .inl (R.al _ hp)⟩
    · rw [owSet_ne hb] at hk
      obtain ⟨h1, h2, h3⟩ := ok.is b k hk
      exact ⟨h1, upd_some h2, h3⟩
  · rcases set_get hs with ⟨e, rfl, hl⟩ | ⟨e, hs⟩
    · subst e
      exact ⟨p, vs, List.getElem?_set_self (Nat.lt_of_lt_of_le hl (Nat.le_of_eq R.len)), upd_same, R.al p hp, owSet_same, hv⟩
    · rw [List.getElem?_set_ne e]
      exact (gh j s hs).keep (Same.refl _) (fun b f z => by rw [owSet_ne (hne _ _ z)]; exact z) fun b f u z q => by rw [upd_ne (hne _ _ z)]; exact q
/-- a list of one's own is changed -/
theorem Rel.change (R : Rel K n δ σ G H) {l : List D} {i : Nat} (hi : δ[i]? = some (.ow l)) (hp : σ[i]? = some (some (.ref p))) {vs : List V} {ds : List D} (hv : DenL K G vs ds) :
    Rel K n (δ.set i (.ow ds)) σ G (upd H p (.lst vs)) := by
  obtain ⟨ow, ok, gh⟩ := R.gh
  obtain ⟨q, ws, g1, g2, g4, g6, g5⟩ := gh i _ hi
  have g3 := (ok.is _ _ g6).1
  rw [hp] at g1; cases g1
  have ne : ∀ b u, G b = some u → b ≠ p := fun b u e z => by subst z; rw [g3] at e; cases e
  refine ⟨fun b u e => by rw [upd_ne (ne b u e)]; exact R.sub b u e, R.eg, fun b u q m => ?_, fun b q => ?_, R.fr, ⟨ow, ⟨fun b k hk => ?_⟩, fun j s hs => ?_⟩, by rw [List.length_set]; exact R.len⟩
  · have : b ≠ p := fun z => by subst z; rw [g4] at q; cases q
    rw [upd_ne this]; exact R.eh b u q m
  · by_cases hb : b = p
    · subst hb; exact g4
    · rw [upd_ne hb] at q; exact R.al b q
  · obtain ⟨h1, h2, h3⟩ := ok.is b k hk; exact ⟨h1, upd_some h2, h3⟩
  · rcases set_get hs with ⟨e, rfl, hl⟩ | ⟨e, hs⟩
    · subst e
      exact ⟨p, vs, hp, upd_same, g4, g6, hv⟩
    · refine (gh j s hs).keep (Same.refl _) (fun _ _ z => z) fun b f u z q => ?_
      have : b ≠ p := fun w => by subst w; rw [g6] at z; cases z; exact e rfl
      rw [upd_ne this]; exact q
/-- from here on: what is known now stays -/
theorem Rel.rebase (R : Rel K n δ σ G H) : Rel K ⟨G, n.H, n.M⟩ δ σ G H := by
  obtain ⟨ow, ok, gh⟩ := R.gh
  refine ⟨R.sub, Same.refl _, R.eh, R.al, fun b o e (e0 : G b = none) => (by rw [e0] at e; cases e), ⟨ow, ⟨ok.is⟩, fun i s hs => ?_⟩, R.len⟩
  have h := gh i s hs
  cases s <;> exact h
theorem Rel.unbase (R : Rel K n δ σ G H) (S : Rel K ⟨G, n.H, n.M⟩ δ' σ' G' H') : Rel K n δ' σ' G' H' := by
  obtain ⟨ow, ok, gh⟩ := S.gh
  refine ⟨S.sub, R.eg.trans S.eg, S.eh, S.al, fun b o e e0 => (by
    cases q : G b with
    | none => exact S.fr b o e q
    | some w => exact R.fr b w q e0), ⟨ow, ⟨ok.is⟩, fun i s hs => ?_⟩, S.len⟩
  have h := gh i s hs
  cases s <;> exact h
end
section
variable {K : PySem.W.Frag} {n : En} {δ : Ev} {σ : L2.St} {G H : Hp} {D₀ : Addr} {o u : HO}
theorem Rel.notOwn (R : Rel K n δ σ G H) (h : H D₀ = none) : H D₀ = none := h
/-- a thing that is new -/
theorem Rel.other (R : Rel K n δ σ G H) (hG : G D₀ = none) (hn : n.H D₀ = none) (ho : H D₀ = none) (o : HO) : Rel K n δ σ G (upd H D₀ o) :=
  R.ext ⟨Same.refl _, R.sub.trans (same_upd ho o), same_upd ho o, fun b v e e0 => (by rw [e0] at e; cases e)⟩
/-- the heap without a thing -/
def del (H : Hp) (D₀ : Addr) : Hp := fun b => if b = D₀ then none else H b
theorem del_same : del H D₀ D₀ = none := if_pos rfl
theorem del_ne {b : Addr} (h : b ≠ D₀) : del H D₀ b = H b := if_neg h
theorem del_none (h : H D₀ = none) : del H D₀ = H := by
  funext b
  by_cases hb : b = D₀
  · subst hb; rw [del_same, h]
  · exact del_ne hb
theorem del_upd : del (upd H D₀ o) D₀ = del H D₀ := by
  funext b
  by_cases hb : b = D₀
  · subst hb; rw [del_same, del_same]
  · rw [del_ne hb, del_ne hb, upd_ne hb]
theorem upd_del (h : H D₀ = some o) : upd (del H D₀) D₀ o = H := by
  funext b
  by_cases hb : b = D₀
  · subst hb; rw [upd_same, h]
  · rw [upd_ne hb, del_ne hb]
theorem Ext.del {G' H' : Hp} (e : Ext G H G' H') (h : G' D₀ = none) : Ext G (del H D₀) G' (Dl.del H' D₀) := by
  refine ⟨e.gg, fun b v q => ?_, fun b v q => ?_, fun b v q q0 => ?_⟩
  · rw [del_ne (ne_of_none q h)]; exact e.gh b v q
  · by_cases hb : b = D₀
    · subst hb; rw [del_same] at q; cases q
    · rw [del_ne hb] at q ⊢; exact e.hh b v q
  · rw [del_ne (ne_of_none q h)]; exact e.fr b v q q0
/-- a thing that no name owns is known from now on -/
theorem Rel.know (R : Rel K n δ σ G (del H D₀)) (hH : H D₀ = some o) : Rel K n δ σ (upd G D₀ o) H := by
  have z := R.laid (p := D₀) del_same o
  rwa [upd_del hH] at z
theorem Rel.undel (R : Rel K n δ σ G (del H D₀)) (hH : H D₀ = some o) : Rel K n δ σ G H := by
  have z := R.other (R.sub.free del_same) (R.al _ del_same) del_same o
  rwa [upd_del hH] at z
def dropOw (δ : Ev) : Ev := δ.map fun s => match s with
  | .sh d => .sh d
  | _ => .no
theorem Rel.toExt {G' H' : Hp} (R : Rel K ⟨G, H, fun _ => False⟩ δ σ G' H') : Ext G H G' H' := ⟨R.eg, R.sub, fun b o e => R.eh b o e (fun z => z), fun b o e e0 => R.fr b o e e0⟩
end
end Dl

namespace Dl
open PySem PySem.Spec PyProof.Rows L2

/-! ## Judgements over data -/
abbrev QE := D → Ev → Prop
abbrev TEd := Ev → QE → Prop
abbrev TAd := Ev → (List D → Ev → Prop) → Prop
abbrev TTd := Ev → (Bool → Ev → Prop) → Prop
def lE (K : PySem.W.Frag) (t : TEd) : TE := fun σ H Q2 => ∃ (n : En) (δ : Ev) (G : Hp) (Q : QE), Rel K n δ σ G H ∧ t δ Q ∧
  ∀ (v : V) (G' H' : Hp) (d : D) (δ' : Ev), Rel K n δ' σ G' H' → Same G G' → Den K G' v d → Q d δ' → Q2 v H'
def lA (K : PySem.W.Frag) (t : TAd) : TA := fun σ H Q2 => ∃ (n : En) (δ : Ev) (G : Hp) (Q : List D → Ev → Prop), Rel K n δ σ G H ∧ t δ Q ∧
  ∀ (v : List V) (G' H' : Hp) (d : List D) (δ' : Ev), Rel K n δ' σ G' H' → Same G G' → DenL K G' v d → Q d δ' → Q2 v H'
def lT (K : PySem.W.Frag) (t : TTd) : TT := fun σ H Q2 => ∃ (n : En) (δ : Ev) (G : Hp) (Q : Bool → Ev → Prop), Rel K n δ σ G H ∧ t δ Q ∧
  ∀ (b : Bool) (G' H' : Hp) (δ' : Ev), Rel K n δ' σ G' H' → Same G G' → Q b δ' → Q2 b H'
abbrev DE (X : Cx) (e : Expr) (t : TEd) : Prop := PE X e (lE X.K t)
abbrev DA (X : Cx) (es : List Expr) (t : TAd) : Prop := PA X es (lA X.K t)
abbrev DT (X : Cx) (e : Expr) (t : TTd) : Prop := PT X e (lT X.K t)
abbrev DW (X : Cx) (e : Expr) (t : TTd) : Prop := PW X e (lT X.K t)

theorem pe_imp {X : Cx} {e : Expr} {t t' : TE} (h : PE X e t) (hi : ∀ σ H Q, t' σ H Q → t σ H Q) : PE X e t' := fun pins s σ H Q I q => h pins s σ H Q I (hi σ H Q q)
theorem pt_imp {X : Cx} {e : Expr} {t t' : TT} (h : PT X e t) (hi : ∀ σ H Q, t' σ H Q → t σ H Q) : PT X e t' := fun pins s σ H Q I q => h pins s σ H Q I (hi σ H Q q)
theorem pw_imp {X : Cx} {e : Expr} {t t' : TT} (h : PW X e t) (hi : ∀ σ H Q, t' σ H Q → t σ H Q) : PW X e t' := fun wh pins s σ H Q I q => h wh pins s σ H Q I (hi σ H Q q)
theorem pa_imp {X : Cx} {es : List Expr} {t t' : TA} (h : PA X es t) (hi : ∀ σ H Q, t' σ H Q → t σ H Q) : PA X es t' := fun pos pins s σ H Q I q => h pos pins s σ H Q I (hi σ H Q q)
theorem ps_imp {X : Cx} {st : Stmt} {t t' : TS} (h : PS X st t) (hi : ∀ D σ H, t' D σ H → t D σ H) : PS X st t' := fun pins s σ H D I q => h pins s σ H D I (hi D σ H q)
theorem pss_imp {X : Cx} {st : List Stmt} {t t' : TS} (h : PSs X st t) (hi : ∀ D σ H, t' D σ H → t D σ H) : PSs X st t' := fun pins s σ H D I q => h pins s σ H D I (hi D σ H q)

/-! ### names and constants -/
def dVar (i : Nat) : TEd := fun δ Q => match δ[i]? with
  | some (.sh d) => Q d δ
  | _ => False
def dC (d : D) : TEd := fun δ Q => Q d δ
section
variable {X : Cx} {a b c : Expr} {ta tb tc : TEd} {pos : Pos}
theorem dv (i : Nat) {x : Str} {pos : Pos} (hN : X.N[i]? = some x := by rfl) (hv : Vis X.env.scope x := by first | exact Or.inl rfl | exact Or.inr (Or.inl rfl) | exact Or.inr (Or.inr rfl)) (hd : (x == ("__debug__" : Str)) = false := by decide)
    (hcd : (x == ("__classdict__" : Str)) = false := by decide) : DE X (.Name x pos) (dVar i) :=
  pe_imp (pe_var hN hv hd hcd) fun σ H Q2 ⟨n, δ, G, Q, R, h, k⟩ => by
    unfold dVar at h
    split at h
    · rename_i d e
      obtain ⟨v, h1, h2⟩ := R.sl i _ e
      exact ⟨v, h1, k v G H d δ R (Same.refl _) h2 h⟩
    · exact h.elim
theorem dc_of {d : D} {v : V} {e : Expr} (h : PE X e (tC v)) (hd : ∀ G, Den X.K G v d) : DE X e (dC d) :=
  pe_imp h fun σ H Q2 ⟨n, δ, G, Q, R, h, k⟩ => k v G H d δ R (Same.refl _) (hd G) h
theorem de_int {i j pos} : DE X (.Constant (.int i) j pos) (dC (.int i)) := dc_of pe_int fun _ => .int i
theorem de_bl {i j pos} : DE X (.Constant (.bool i) j pos) (dC (.bl i)) := dc_of pe_bl fun _ => .bl i
theorem de_non {j pos} : DE X (.Constant .none j pos) (dC .non) := dc_of pe_non fun _ => .non
theorem de_str {x j pos} : DE X (.Constant (.str x) j pos) (dC (.str x)) := dc_of pe_str fun _ => .str x
/-! ### operations -/
abbrev RD := D → D → (D → Prop) → Prop
def dOp (r : RD) (ta tb : TEd) : TEd := fun δ Q => ta δ fun x δ1 => tb δ1 fun y δ2 => r x y fun d => Q d δ2
def OpS (K : PySem.W.Frag) (r2 : R2) (r : RD) : Prop := ∀ (G H : Hp) (x y : V) (dx dy : D) (Q : D → Prop) (Q2 : VK), Same G H → Den K G x dx → Den K G y dy → r dx dy Q →
  (∀ (v : V) (G' H' : Hp) (d : D), Ext G H G' H' → Den K G' v d → Q d → Q2 v H') → r2 x y H Q2
theorem OpR.or {f : Value → Value → Sem Value} {r r' : R2} (h : OpR X f r) (h' : OpR X f r') : OpR X f (fun x y H Q => r x y H Q ∨ r' x y H Q) :=
  fun pins s σ H x y v u Q I rx ry q => q.elim (h pins s σ H x y v u Q I rx ry) (h' pins s σ H x y v u Q I rx ry)
theorem op_lift {r2 : R2} {r : RD} (hs : OpS X.K r2 r) : ∀ σ H Q, lE X.K (dOp r ta tb) σ H Q → tOp r2 (lE X.K ta) (lE X.K tb) σ H Q := fun σ H Q2 ⟨n, δ, G, Q, R, h, k⟩ =>
  ⟨n, δ, G, _, R, h, fun v G1 H1 x δ1 R1 s1 d1 h1 => ⟨n, δ1, G1, _, R1, h1, fun w G2 H2 y δ2 R2 s2 d2 h2 =>
    hs G2 H2 v w x y _ Q2 R2.sub (d1.up s2) d2 h2 fun u G3 H3 d e3 d3 q3 => k u G3 H3 d δ2 (R2.ext e3) (s1.trans (s2.trans e3.gg)) d3 q3⟩⟩
theorem de_bin {op : Operator} {r2 : R2} {r : RD} (ho : OpR X (binaryOp op) r2) (hs : OpS X.K r2 r) (ha : DE X a ta) (hb : DE X b tb) : DE X (.BinOp a op b pos) (dOp r ta tb) :=
  pe_imp (pe_op ho ha hb) (op_lift hs)
theorem de_cmp {op : CmpOp} {r2 : R2} {r : RD} (ho : OpR X (compareOp op) r2) (hs : OpS X.K r2 r) (ha : DE X a ta) (hb : DE X b tb) (hm : behindInMarks op b = false) : DE X (.Compare a [op] [b] pos) (dOp r ta tb) :=
  pe_imp (pe_cmpR ho ha hb hm) (op_lift hs)
theorem de_ixG {r2 : R2} {r : RD} (ho : IxR X r2) (hs : OpS X.K r2 r) (ha : DE X a ta) (hb : DE X b tb) (hp : PlainIx b) : DE X (.Subscript a b pos) (dOp r ta tb) :=
  pe_imp (pe_ix ho ha hb hp) (op_lift hs)

/-! ### tests -/
/-- a test by a bool value -/
def dB (t : TEd) : TTd := fun δ Q => t δ fun x δ1 => match x with
  | .bl c => Q c δ1
  | _ => False
theorem dt_cmp {op : CmpOp} {r2 : R2} {r : RD} (ho : OpR X (compareOp op) r2) (hs : OpS X.K r2 r) (ha : DE X a ta) (hb : DE X b tb) (hm : behindInMarks op b = false) : DT X (.Compare a [op] [b] pos) (dB (dOp r ta tb)) :=
  pt_imp (pt_cmpR ho ha hb hm) fun σ H Q2 ⟨n, δ, G, Q, R, h, k⟩ => op_lift hs σ H _ ⟨n, δ, G, _, R, h, fun v G1 H1 d δ1 R1 s1 d1 h1 => by
    cases d with
    | bl c => exact ⟨c, d1.bl_inv, k c G1 H1 δ1 R1 s1 h1⟩
    | _ => exact h1.elim⟩
def truD : D → (Bool → Prop) → Prop
  | .non, Q => Q false
  | .bl b, Q => Q b
  | .int i, Q => Q (i != 0)
  | .str y, Q => y.length ≤ sizeLine ∧ Q ((y.length : Int) != 0)
  | .tup l, Q => Q (!l.isEmpty)
  | .lst l, Q => Q (!l.isEmpty)
def dTru (t : TEd) : TTd := fun δ Q => t δ fun x δ1 => truD x fun b => Q b δ1
theorem truV_of {K : PySem.W.Frag} {G H : Hp} {x : V} {d : D} (s : Same G H) (h : Den K G x d) {Q : Bool → Prop} (q : truD d Q) : ∃ k, TruV K x H k ∧ Q k := by
  cases h with
  | non => exact ⟨_, rfl, q⟩
  | bl b => exact ⟨_, rfl, q⟩
  | int i => exact ⟨_, rfl, q⟩
  | str y => exact ⟨_, ⟨q.1, rfl⟩, q.2⟩
  | tup h l => refine ⟨_, .inr (.inl ⟨_, Same.tupS s h, rfl⟩), ?_⟩; cases l <;> exact q
  | lst h l => refine ⟨_, .inl ⟨_, s.seq h, rfl⟩, ?_⟩; cases l <;> exact q
def dAnd (t u : TTd) : TTd := fun δ Q => t δ fun c δ1 => if c = true then u δ1 Q else Q false δ1
def dOr (t u : TTd) : TTd := fun δ Q => t δ fun c δ1 => if c = true then Q true δ1 else u δ1 Q
def dNot (t : TTd) : TTd := fun δ Q => t δ fun c δ1 => Q (!c) δ1
variable {tA tB' : TTd} {rest : List Expr}
theorem dw_and1 (ha : DT X a tA) : DW X (.BoolOp .And [a] pos) tA := pw_and1 ha
theorem dw_or1 (ha : DT X a tA) : DW X (.BoolOp .Or [a] pos) tA := pw_or1 ha
theorem dw_and (ha : DT X a tA) (hb : DW X (.BoolOp .And (b :: rest) pos) tB') : DW X (.BoolOp .And (a :: b :: rest) pos) (dAnd tA tB') :=
  pw_imp (pw_and ha hb) fun σ H Q2 ⟨n, δ, G, Q, R, h, k⟩ => ⟨n, δ, G, _, R, h, fun c G1 H1 δ1 R1 s1 h1 => by
    cases c with
    | true => exact iteT ⟨n, δ1, G1, Q, R1, h1, fun b G2 H2 δ2 R2 s2 h2 => k b G2 H2 δ2 R2 (s1.trans s2) h2⟩
    | false => exact iteF (k false G1 H1 δ1 R1 s1 h1)⟩
theorem dw_or (ha : DT X a tA) (hb : DW X (.BoolOp .Or (b :: rest) pos) tB') : DW X (.BoolOp .Or (a :: b :: rest) pos) (dOr tA tB') :=
  pw_imp (pw_or ha hb) fun σ H Q2 ⟨n, δ, G, Q, R, h, k⟩ => ⟨n, δ, G, _, R, h, fun c G1 H1 δ1 R1 s1 h1 => by
    cases c with
    | false => exact iteF ⟨n, δ1, G1, Q, R1, h1, fun b G2 H2 δ2 R2 s2 h2 => k b G2 H2 δ2 R2 (s1.trans s2) h2⟩
    | true => exact iteT (k true G1 H1 δ1 R1 s1 h1)⟩
theorem dt_w {e : Expr} (h : DW X e tA) : DT X e tA := h.pt
theorem dt_not (ha : DT X a tA) : DT X (.UnaryOp .Not a pos) (dNot tA) :=
  pt_imp (pt_not ha) fun σ H Q2 ⟨n, δ, G, Q, R, h, k⟩ => ⟨n, δ, G, _, R, h, fun c G1 H1 δ1 R1 s1 h1 => k (!c) G1 H1 δ1 R1 s1 h1⟩
/-- the value of and, or, not: bools ahead -/
def dAndV (ta tb : TEd) : TEd := fun δ Q => ta δ fun x δ1 => match x with
  | .bl c => if c = true then tb δ1 Q else Q (.bl false) δ1
  | _ => False
def dOrV (ta tb : TEd) : TEd := fun δ Q => ta δ fun x δ1 => match x with
  | .bl c => if c = true then Q (.bl true) δ1 else tb δ1 Q
  | _ => False
def dNotV (ta : TEd) : TEd := fun δ Q => ta δ fun x δ1 => match x with
  | .bl c => Q (.bl (!c)) δ1
  | _ => False
theorem de_one {op} (h : DE X a ta) : DE X (.BoolOp op [a] pos) ta := pe_one h
theorem de_and (ha : DE X a ta) (hb : DE X (.BoolOp .And (b :: rest) pos) tb) : DE X (.BoolOp .And (a :: b :: rest) pos) (dAndV ta tb) :=
  pe_imp (L2.pe_and ha hb) fun σ H Q2 ⟨n, δ, G, Q, R, h, k⟩ => ⟨n, δ, G, _, R, h, fun v G1 H1 d δ1 R1 s1 d1 h1 => by
    cases d with
    | bl c =>
      refine ⟨c, d1.bl_inv, ?_⟩
      cases c with
      | true => exact iteT ⟨n, δ1, G1, Q, R1, h1, fun b G2 H2 d δ2 R2 s2 d2 h2 => k b G2 H2 d δ2 R2 (s1.trans s2) d2 h2⟩
      | false => exact iteF (k _ G1 H1 _ δ1 R1 s1 (.bl false) h1)
    | _ => exact h1.elim⟩
def dIf (t : TTd) (ta tb : TEd) : TEd := fun δ Q => t δ fun c δ1 => if c = true then ta δ1 Q else tb δ1 Q
theorem de_if (hc : DT X c tA) (ha : DE X a ta) (hb : DE X b tb) : DE X (.IfExp c a b pos) (dIf tA ta tb) :=
  pe_imp (pe_ifExp hc ha hb) fun σ H Q2 ⟨n, δ, G, Q, R, h, k⟩ => ⟨n, δ, G, _, R, h, fun c G1 H1 δ1 R1 s1 h1 => by
    cases c with
    | true => exact iteT ⟨n, δ1, G1, Q, R1, h1, fun v G2 H2 d δ2 R2 s2 d2 h2 => k v G2 H2 d δ2 R2 (s1.trans s2) d2 h2⟩
    | false => exact iteF ⟨n, δ1, G1, Q, R1, h1, fun v G2 H2 d δ2 R2 s2 d2 h2 => k v G2 H2 d δ2 R2 (s1.trans s2) d2 h2⟩⟩

/-! ### argument lists, displays -/
variable {e : Expr} {es : List Expr} {te : TEd} {t : TAd}
def dNil : TAd := fun δ Q => Q [] δ
def dCons (ta : TEd) (tr : TAd) : TAd := fun δ Q => ta δ fun x δ1 => tr δ1 fun xs δ2 => Q (x :: xs) δ2
theorem da_nil : DA X [] dNil := pa_imp pa_nil fun σ H Q2 ⟨n, δ, G, Q, R, h, k⟩ => k [] G H [] δ R (Same.refl _) .nil h
theorem da_cons (ha : DE X e te) (hr : DA X es t) (hs : starEach (e :: es) X.env = (false, eval e X.env) :: starEach es X.env := by rfl) : DA X (e :: es) (dCons te t) :=
  pa_imp (pa_cons ha hr hs) fun σ H Q2 ⟨n, δ, G, Q, R, h, k⟩ => ⟨n, δ, G, _, R, h, fun v G1 H1 d δ1 R1 s1 d1 h1 => ⟨n, δ1, G1, _, R1, h1, fun vs G2 H2 ds δ2 R2 s2 d2 h2 =>
    k (v :: vs) G2 H2 (d :: ds) δ2 R2 (s1.trans s2) (.cons (d1.up s2) d2) h2⟩⟩
def dTup (t : TAd) : TEd := fun δ Q => t δ fun xs δ1 => xs.length ≤ sizeLine ∧ Q (.tup xs) δ1
def dLst (t : TAd) : TEd := fun δ Q => t δ fun xs δ1 => xs.length ≤ sizeLine ∧ Q (.lst xs) δ1
theorem de_tup {x1} (h : DA X es t) : DE X (.Tuple es x1 pos) (dTup t) :=
  pe_imp (L2.pe_tup h) fun σ H Q2 ⟨n, δ, G, Q, R, h, k⟩ => ⟨n, δ, G, _, R, h, fun vs G1 H1 ds δ1 R1 s1 d1 h1 => ⟨by rw [d1.length]; exact h1.1, fun p hp =>
    k _ _ _ _ δ1 (R1.laid hp _) (s1.trans (same_upd (R1.sub.free hp) _)) (.tup (SqT.of upd_same) (d1.up (same_upd (R1.sub.free hp) _))) h1.2⟩⟩
theorem de_lst (h : DA X es t) : DE X (.List es pos) (dLst t) :=
  pe_imp (L2.pe_lst h) fun σ H Q2 ⟨n, δ, G, Q, R, h, k⟩ => ⟨n, δ, G, _, R, h, fun vs G1 H1 ds δ1 R1 s1 d1 h1 => ⟨by rw [d1.length]; exact h1.1, fun p hp =>
    k _ _ _ _ δ1 (R1.laid hp _) (s1.trans (same_upd (R1.sub.free hp) _)) (.lst (SqL.of upd_same) (d1.up (same_upd (R1.sub.free hp) _))) h1.2⟩⟩

/-! ### calls of built-ins -/
abbrev RC := List D → (D → Prop) → Prop
def CallS (K : PySem.W.Frag) (r2 : List V → Hp → VK → Prop) (r : RC) : Prop := ∀ (G H : Hp) (xs : List V) (ds : List D) (Q : D → Prop) (Q2 : VK), Same G H → DenL K G xs ds → r ds Q →
  (∀ (v : V) (G' H' : Hp) (d : D), Ext G H G' H' → Den K G' v d → Q d → Q2 v H') → r2 xs H Q2
def dCall (r : RC) (t : TAd) : TEd := fun δ Q => t δ fun ds δ1 => r ds fun d => Q d δ1
theorem CallR.or {f : Value} {r r' : List V → Hp → VK → Prop} (h : CallR X f r) (h' : CallR X f r') : CallR X f (fun xs H Q => r xs H Q ∨ r' xs H Q) :=
  fun pins s σ H xs us Q I rx q => q.elim (h pins s σ H xs us Q I rx) (h' pins s σ H xs us Q I rx)
theorem call_lift {r2 : List V → Hp → VK → Prop} {r : RC} (hs : CallS X.K r2 r) : ∀ σ H Q, lE X.K (dCall r t) σ H Q → tCB r2 (lA X.K t) σ H Q := fun σ H Q2 ⟨n, δ, G, Q, R, h, k⟩ =>
  ⟨n, δ, G, _, R, h, fun vs G1 H1 ds δ1 R1 s1 d1 h1 => hs G1 H1 vs ds _ Q2 R1.sub d1 h1 fun u G3 H3 d e3 d3 q3 => k u G3 H3 d δ1 (R1.ext e3) (s1.trans e3.gg) d3 q3⟩
variable {x : Str} {p : Pos} {id T : String}
theorem de_callB {r2 : List V → Hp → VK → Prop} {r : RC} (hc : CallR X (.builtin id) r2) (hs : CallS X.K r2 r) (hm : X.mg x = none) (hv : bootBuiltins x = some (.builtin id)) (ha : DA X (e :: es) t) (hg : Gl X x := by rfl) (hn : x ≠ "__name__" := by decide) (hdb : (x == ("__debug__" : Str)) = false := by decide)
    (he : starEach (e :: es) X.env = (false, eval e X.env) :: starEach es X.env := by rfl) (hpl : (backTo pos (starEach es X.env)).any (·.1) = false := by rfl) : DE X (.Call (.Name x p) (e :: es) [] pos) (dCall r t) :=
  pe_imp (pe_callB hc hg hm hv ha hn hdb he hpl) (call_lift hs)
end

/-! ### a def's promise over data -/
abbrev SpD := List D → (D → Prop) → Prop
def spOf (K : PySem.W.Frag) (S : SpD) : Sp := fun vs H Q _ => ∃ (G : Hp) (ds : List D) (Qd : D → Prop), Same G H ∧ DenL K G vs ds ∧ S ds Qd ∧
  ∀ (v : V) (G' H' : Hp) (d : D), Ext G H G' H' → Den K G' v d → Qd d → Q v H'
section
variable {X : Cx} {k : Nat} {f : Addr} {fd : FuncData} {ps : List Str} {S : SpD} {x : Str} {p pos : Pos} {e : Expr} {es : List Expr} {t : TAd}
theorem de_call (F : FnOk X.prog X.w X.K X.mg X.base CX0 k f fd ps (spOf X.K S)) (hr : Room k X.A) (hm : X.mg x = some (.ref f)) (hk : PySem.W.keepIn X.K (.ref f) = true) (hb : Binds X.K fd ps [])
    (ha : DA X (e :: es) t) (hg : Gl X x := by rfl) (hdb : (x == ("__debug__" : Str)) = false := by decide) (he : starEach (e :: es) X.env = (false, eval e X.env) :: starEach es X.env := by rfl) (hpl : (backTo pos (starEach es X.env)).any (·.1) = false := by rfl) :
    DE X (.Call (.Name x p) (e :: es) [] pos) (dCall S t) :=
  pe_imp (pe_call F hr hg hm hk hb .nil pass0 ha hdb he hpl) fun σ H Q2 ⟨n, δ, G, Q, R, h, kk⟩ => ⟨n, δ, G, _, R, h, fun vs G1 H1 ds δ1 R1 s1 d1 h1 => by
    show spOf X.K S (vs ++ []) H1 Q2 E0
    rw [List.append_nil]
    exact ⟨G1, ds, _, R1.sub, d1, h1, fun v G2 H2 d e2 d2 q2 => kk v G2 H2 d δ1 (R1.ext e2) (s1.trans e2.gg) d2 q2⟩⟩
end
end Dl

namespace Dl
open PySem PySem.Spec PyProof.Rows L2

/-! ## Statements over data -/
structure EndsD where
  nx : Ev → Prop
  rt : D → Ev → Prop
  bk : Ev → Prop := fun _ => False
  ct : Ev → Prop := fun _ => False
abbrev TSd := EndsD → Ev → Prop
/-- what is wanted behind, over data and over the heap -/
structure EndsOk (K : PySem.W.Frag) (n : En) (E : EndsD) (F : Ends) : Prop where
  nx : ∀ δ σ G H, Rel K n δ σ G H → E.nx δ → F.nx σ H
  rt : ∀ v d δ σ G H, Rel K n δ σ G H → Den K G v d → E.rt d δ → F.rt v H
  bk : ∀ δ σ G H, Rel K n δ σ G H → E.bk δ → F.bk σ H
  ct : ∀ δ σ G H, Rel K n δ σ G H → E.ct δ → F.ct σ H
def lS (K : PySem.W.Frag) (t : TSd) : TS := fun F σ H => ∃ (n : En) (δ : Ev) (G : Hp) (E : EndsD), Rel K n δ σ G H ∧ t E δ ∧ EndsOk K n E F
abbrev DS (X : Cx) (st : Stmt) (t : TSd) : Prop := PS X st (lS X.K t)
abbrev DSs (X : Cx) (st : List Stmt) (t : TSd) : Prop := PSs X st (lS X.K t)

section
variable {X : Cx} {st : Stmt} {rest : List Stmt} {t u : TSd} {pos : Pos} {e : Expr} {te : TEd}
def dNext : TSd := fun E δ => E.nx δ
def dSeq (t u : TSd) : TSd := fun E δ => t { E with nx := u E } δ
theorem dss_nil : DSs X [] dNext := pss_imp pss_nil fun F σ H ⟨n, δ, G, E, R, h, k⟩ => k.nx δ σ G H R h
theorem dss_cons (h1 : DS X st t) (h2 : DSs X rest u) : DSs X (st :: rest) (dSeq t u) :=
  pss_imp (pss_cons h1 h2) fun F σ H ⟨n, δ, G, E, R, h, k⟩ => ⟨n, δ, G, _, R, h, ⟨fun δ' σ' G' H' R' h' => ⟨n, δ', G', E, R', h', k⟩, k.rt, k.bk, k.ct⟩⟩
theorem dss_one (h1 : DS X st t) : DSs X [st] t := pss_one h1
def dBreak : TSd := fun E δ => E.bk δ
def dCont : TSd := fun E δ => E.ct δ
def dDrop (te : TEd) : TSd := fun E δ => te δ fun _ δ1 => E.nx δ1
theorem ds_expr (he : DE X e te) (hs : swapsWith e none pos.line X.env = pure false := by rfl) : DS X (.Expr e pos) (dDrop te) :=
  ps_imp (ps_expr he hs) fun F σ H ⟨n, δ, G, E, R, h, k⟩ => ⟨n, δ, G, _, R, h, fun v G1 H1 d δ1 R1 s1 d1 h1 => k.nx δ1 σ G1 H1 R1 h1⟩
def dRet (te : TEd) : TSd := fun E δ => te δ E.rt
theorem ds_ret (he : DE X e te) : DS X (.Return (some e) pos) (dRet te) :=
  ps_imp (ps_ret he) fun F σ H ⟨n, δ, G, E, R, h, k⟩ => ⟨n, δ, G, _, R, h, fun v G1 H1 d δ1 R1 s1 d1 h1 => k.rt v d δ1 σ G1 H1 R1 d1 h1⟩
def dRetN : TSd := fun E δ => E.rt .non δ
def dIfS (c : TTd) (t u : TSd) : TSd := fun E δ => c δ fun b δ1 => if b = true then t E δ1 else u E δ1
theorem ds_if {c : Expr} {a b : List Stmt} {tc : TTd} (hc : DT X c tc) (ha : DSs X a t) (hb : DSs X b u) : DS X (.If c a b pos) (dIfS tc t u) :=
  ps_imp (ps_if hc ha hb) fun F σ H ⟨n, δ, G, E, R, h, k⟩ => ⟨n, δ, G, _, R, h, fun c G1 H1 δ1 R1 s1 h1 => by
    cases c with
    | true => exact iteT ⟨n, δ1, G1, E, R1, h1, k⟩
    | false => exact iteF ⟨n, δ1, G1, E, R1, h1, k⟩⟩
def dNever : TSd := fun _ _ => False
theorem ds_never : DS X st dNever := fun _ _ _ _ _ _ ⟨_, _, _, _, _, h, _⟩ => h.elim
/-- x = e -/
def dSet (i : Nat) (te : TEd) : TSd := fun E δ => te δ fun d δ1 => E.nx (δ1.set i (.sh d))
theorem ds_set (i : Nat) {x : Str} {pos' : Pos} (hN : X.N.Nodup) (he : DE X e te) (hi : X.N[i]? = some x := by rfl) (hx : Loc X.env.scope x := by first | exact Or.inl rfl | exact Or.inr rfl) (hs : swapsWith e (some (.Name x pos')) pos.line X.env = pure false := by rfl)
    (hf : X.fn x = true ∨ X.env.scope.names.lookup x = some .local := by first | exact .inl rfl | exact .inr rfl | assumption) : DS X (.Assign [.Name x pos'] e pos) (dSet i te) :=
  ps_imp (ps_set (i := i) hN hi hx he hs hf) fun F σ H ⟨n, δ, G, E, R, h, k⟩ => ⟨n, δ, G, _, R, h, fun v G1 H1 d δ1 R1 s1 d1 h1 => k.nx _ _ G1 H1 (R1.set i d1) h1⟩
/-- x = [..], a list of one's own -/
def dOwn (i : Nat) (ta : TAd) : TSd := fun E δ => ta δ fun ds δ1 => ds.length ≤ sizeLine ∧ E.nx (δ1.set i (.ow ds))
/-- from here on the list is a value -/
def dFrz (i : Nat) (t : TSd) : TSd := fun E δ => match δ[i]? with
  | some (.ow l) => t E (δ.set i (.sh (.lst l)))
  | _ => False
/-- xs.append(e) -/
def dApp (i : Nat) (te : TEd) : TSd := fun E δ => match δ[i]? with
  | some (.ow _) => te δ fun d δ1 => match δ1[i]? with
    | some (.ow l) => l.length < sizeLine ∧ E.nx (δ1.set i (.ow (l ++ [d])))
    | _ => False
  | _ => False
/-! ### targets -/
abbrev TGd := D → Ev → (Ev → Prop) → Prop
def lG (K : PySem.W.Frag) (g : TGd) : TG := fun v σ H Q2 => ∃ (n : En) (δ : Ev) (G : Hp) (d : D) (Q : Ev → Prop), Rel K n δ σ G H ∧ Den K G v d ∧ g d δ Q ∧
  ∀ δ' σ', Rel K n δ' σ' G H → Q δ' → Q2 σ' H
abbrev DG (X : Cx) (tg : Expr) (g : TGd) : Prop := PG X tg (lG X.K g)
theorem pg_imp {tg : Expr} {g g' : TG} (h : PG X tg g) (hi : ∀ v σ H Q, g' v σ H Q → g v σ H Q) : PG X tg g' := fun pins s σ H x u Q I r q => h pins s σ H x u Q I r (hi x σ H Q q)
def gdName (i : Nat) : TGd := fun d δ Q => Q (δ.set i (.sh d))
theorem dg_name (i : Nat) {x : Str} (hN : X.N.Nodup) (hi : X.N[i]? = some x := by rfl) (hx : Loc X.env.scope x := by first | exact Or.inl rfl | exact Or.inr rfl) (hf : X.fn x = true ∨ X.env.scope.names.lookup x = some .local := by first | exact .inl rfl | exact .inr rfl | assumption) : DG X (.Name x pos) (gdName i) :=
  pg_imp (pg_name (i := i) hN hi hx hf) fun v σ H Q2 ⟨n, δ, G, d, Q, R, hv, h, k⟩ => k _ _ (R.set i hv) h

/-! ### loops -/
/-- J walks the items l, whatever is done between -/
structure JOk (K : PySem.W.Frag) (G : Hp) (J : It) (l : List D) : Prop where
  go : ∀ (i : Nat) (G1 H1 : Hp), Same G G1 → Same G1 H1 → i < l.length → J.go i H1
  yl : ∀ (i : Nat) (G1 H1 : Hp) (x : V) (H2 : Hp), Same G G1 → Same G1 H1 → i < l.length → J.yld i H1 x H2 → ∃ (G2 : Hp) (d : D), Ext G1 H1 G2 H2 ∧ l[i]? = some d ∧ Den K G2 x d
  st : ∀ (i : Nat) (G1 H1 : Hp), Same G G1 → Same G1 H1 → l.length ≤ i → J.stop i H1
abbrev TId := Ev → (List D → Ev → Prop) → Prop
def lI (K : PySem.W.Frag) (t : TId) : TI := fun σ H R2 => ∃ (n : En) (δ : Ev) (G : Hp) (Q : List D → Ev → Prop), Rel K n δ σ G H ∧ t δ Q ∧
  ∀ (J : It) (G' H' : Hp) (l : List D) (δ' : Ev), Rel K n δ' σ G' H' → Same G G' → JOk K G' J l → Q l δ' → R2 J H'
abbrev DI (X : Cx) (tg iter : Expr) (t : TId) : Prop := PI X tg iter (lI X.K t)
theorem pi_imp {tg iter : Expr} {t t' : TI} (h : PI X tg iter t) (hi : ∀ σ H Q, t' σ H Q → t σ H Q) : PI X tg iter t' := fun pins s σ H R I q => h pins s σ H R I (hi σ H R q)
/-- lo, lo + 1, .. -/
def rangeL (lo : Int) (k : Nat) : List D := (List.range k).map fun i => D.int (lo + (i : Nat))
theorem jok_range {K : PySem.W.Frag} {G : Hp} {lo : Int} {k : Nat} : JOk K G (Itr lo k) (rangeL lo k) := by
  have len : (rangeL lo k).length = k := by simp [rangeL]
  refine ⟨fun i G1 H1 s1 s2 hi => by rw [len] at hi; exact hi, fun i G1 H1 x H2 s1 s2 hi y => ?_, fun i G1 H1 s1 s2 hi => by rw [len] at hi; exact hi⟩
  obtain ⟨e, e2⟩ := y
  subst e e2
  rw [len] at hi
  exact ⟨G1, .int (lo + (i : Nat)), Ext.refl s2, by simp [rangeL, hi], .int _⟩
/-- a list or a tuple is walked -/
def diList (te : TEd) : TId := fun δ Q => te δ fun d δ1 => match d with
  | .lst l => Q l δ1
  | _ => False
def diTup (te : TEd) : TId := fun δ Q => te δ fun d δ1 => match d with
  | .tup l => Q l δ1
  | _ => False
def diRange1 (ta : TAd) : TId := fun δ Q => ta δ fun ds δ1 => match ds with
  | [.int j] => -(2 ^ 62) ≤ j ∧ j < 2 ^ 62 ∧ Q (rangeL 0 j.toNat) δ1
  | _ => False
def diRange2 (ta : TAd) : TId := fun δ Q => ta δ fun ds δ1 => match ds with
  | [.int i, .int j] => (-(2 ^ 62) ≤ i ∧ i < 2 ^ 62 ∧ -(2 ^ 62) ≤ j ∧ j < 2 ^ 62) ∧ Q (rangeL i (j - i).toNat) δ1
  | _ => False
theorem di_range1 {tg a : Expr} {ta : TAd} {p pos : Pos} (hm : X.mg "range" = none) (ha : DA X [a] ta) (hg : Gl X "range" := by rfl) (hs : starEach [a] X.env = [(false, eval a X.env)] := by rfl) : DI X tg (.Call (.Name "range" p) [a] [] pos) (diRange1 ta) :=
  pi_imp (pi_range1 hg hm ha hs) fun σ H R2 ⟨n, δ, G, Q, R, h, k⟩ => ⟨n, δ, G, _, R, h, fun vs G1 H1 ds δ1 R1 s1 d1 h1 => by
    split at h1
    · cases d1 with | cons d1 d2 => cases d2; cases d1.int_inv; exact ⟨_, rfl, h1.1, h1.2.1, k _ G1 H1 _ δ1 R1 s1 jok_range h1.2.2⟩
    · exact h1.elim⟩
/-- W i: what holds ahead of the i-th turn -/
def dFor (ti : TId) (g : TGd) (tb : TSd) : TSd := fun E δ => ti δ fun items δ1 => ∃ W : Nat → Ev → Prop, W 0 δ1 ∧
  (∀ (i : Nat) (d : D) (δ2 : Ev), items[i]? = some d → W i δ2 → g d δ2 fun δ3 => tb { E with nx := W (i + 1), ct := W (i + 1), bk := E.nx } δ3) ∧ ∀ δ2, W items.length δ2 → E.nx δ2
theorem ds_for {tg iter : Expr} {body : List Stmt} {ti : TId} {g : TGd} {tb : TSd} (hp : PassesOwn (model X.prog X.w) X.A X.env X.xe) (hc : X.calm = true) (hi : DI X tg iter ti) (hg : DG X tg g) (hb : DSs X body tb)
    (hs : ∀ x, foldedSetIterable iter X.env x = pure x := by intro _; rfl) : DS X (.For tg iter body [] pos) (dFor ti g tb) :=
  ps_imp (ps_for hp hc hi hg hb hs) fun F σ H ⟨n, δ, G, E, R, h, k⟩ => ⟨n, δ, G, _, R, h, fun J G1 H1 items δ1 R1 s1 j1 ⟨W, w0, step, fin⟩ => by
    refine ⟨fun i m σ H => i ≤ items.length ∧ m = items.length - i ∧ ∃ δ G, Rel X.K n δ σ G H ∧ Same G1 G ∧ W i δ, ⟨_, Nat.zero_le _, rfl, δ1, G1, R1, Same.refl _, w0⟩, ?_⟩
    rintro i m σ2 H2 ⟨hi, rfl, δ2, G2, R2, s2, w2⟩
    by_cases hl : i < items.length
    · refine .inr ⟨j1.go i G2 H2 s2 R2.sub hl, fun σ' H' => ∃ δ G, Rel X.K n δ σ' G H' ∧ Same G1 G ∧ W (i + 1) δ, fun σ' H' ⟨δ', G', R', s', w'⟩ => ⟨items.length - (i + 1), by omega, hl, rfl, δ', G', R', s', w'⟩, fun x H3 y => ?_⟩
      obtain ⟨G3, d, e3, hd, dx⟩ := j1.yl i G2 H2 x H3 s2 R2.sub hl y
      have R3 := R2.ext e3
      have s3 : Same G1 G3 := s2.trans e3.gg
      refine ⟨⟨G3, n.H, n.M⟩, δ2, G3, d, _, R3.rebase, dx, step i d δ2 hd w2, fun δ4 σ4 R4 h4 => ?_⟩
      refine ⟨⟨G3, n.H, n.M⟩, δ4, G3, _, R4, h4, ⟨fun δ5 σ5 G5 H5 R5 h5 => ⟨δ5, G5, R3.unbase R5, s3.trans R5.eg, h5⟩, fun v d δ5 σ5 G5 H5 R5 d5 h5 => k.rt v d δ5 σ5 G5 H5 (R3.unbase R5) d5 h5,
        fun δ5 σ5 G5 H5 R5 h5 => k.nx δ5 σ5 G5 H5 (R3.unbase R5) h5, fun δ5 σ5 G5 H5 R5 h5 => ⟨δ5, G5, R3.unbase R5, s3.trans R5.eg, h5⟩⟩⟩
    · have e : i = items.length := by omega
      subst e
      exact .inl ⟨j1.st _ G2 H2 s2 R2.sub (Nat.le_refl _), k.nx δ2 σ2 G2 H2 R2 (fin δ2 w2)⟩⟩
/-- while: W m holds ahead of each turn, m falls -/
def dWhile (c : TTd) (tb : TSd) : TSd := fun E δ => ∃ W : Nat → Ev → Prop, (∃ m, W m δ) ∧ ∀ m δ1, W m δ1 →
  c δ1 fun b δ2 => if b = true then tb { E with nx := fun δ' => ∃ m', m' < m ∧ W m' δ', ct := fun δ' => ∃ m', m' < m ∧ W m' δ', bk := E.nx } δ2 else E.nx δ2
end

/-! ### a def by its body -/
/-- the names at the entry -/
def startD (N : List Str) (ds : List D) : Ev := ds.map Sl.sh ++ List.replicate (N.length - ds.length) Sl.no
theorem rel_start {K : PySem.W.Frag} {N : List Str} {G H : Hp} {vs : List V} {ds : List D} (s : Same G H) (h : DenL K G vs ds) : Rel K ⟨G, H, fun _ => False⟩ (startD N ds) (start N vs) G H := by
  have len := h.length
  refine ⟨s, Same.refl _, fun b o e _ => e, fun b e => e, fun b o e (e0 : G b = none) => (by rw [e0] at e; cases e), ⟨fun _ => none, ⟨fun _ _ z => by cases z⟩, fun i sl hs => ?_⟩, ?_⟩
  · unfold startD at hs
    by_cases hi : i < ds.length
    · rw [List.getElem?_append_left (by simpa using hi), List.getElem?_map] at hs
      cases q : ds[i]? with
      | none => rw [q] at hs; cases hs
      | some d =>
        rw [q] at hs; cases hs
        obtain ⟨v, hv, dv⟩ := h.get q
        refine ⟨v, ?_, dv⟩
        unfold L2.start
        rw [List.getElem?_append_left (by rw [List.length_map]; omega), List.getElem?_map, hv]; rfl
    · rw [List.getElem?_append_right (by simpa using hi), List.getElem?_replicate] at hs
      split at hs
      · cases hs; trivial
      · cases hs
  · simp [startD, L2.start, len]
section
variable {P : Program} {w : World} {K : PySem.W.Frag} {mg : Str → Option Value} {base : Heap}
theorem fnD {x qual : Str} {st : Stmt} {f : Addr} {fd : FuncData} {N ps : List Str} {k : Nat} {S : SpD} (F : Fun K x qual st f fd) (Sc : FnScope N ps (defScope st)) (len : ∀ ds Q, S ds Q → ds.length = ps.length)
    (hbody : ∀ (cdv : Value) (A : Around) (outer : List Env) (s : Shared) (H : Hp) (E : XK), Room k (A.deeper (envOfC qual (defScope st) s.heap.objs.size f cdv)) →
      ∃ t, DSs (cxOf CX0 P w K mg base N qual (defScope st) f cdv A outer s H E).nox (defBody st) t ∧ ∀ ds Q, S ds Q → t { nx := fun _ => Q .non, rt := fun d _ => Q d } (startD N ds)) : FnOk P w K mg base CX0 (k + 1) f fd ps (spOf K S) := by
  refine F.ok Sc (fun vs H Q E ⟨G, ds, Qd, sub, dn, h, _⟩ => ?_) (fun cdv A outer s H vs Q E hr ⟨G, ds, Qd, sub, dn, h, kk⟩ => ?_)
  · rw [dn.length]; exact len ds Qd h
  · obtain ⟨t, ht, hq⟩ := hbody cdv A outer s H E hr
    refine ⟨_, ht, ⟨G, H, fun _ => False⟩, _, G, _, rel_start (N := N) sub dn, hq ds Qd h, ⟨fun δ σ G' H' R' q => ?_, fun v d δ σ G' H' R' dv q => ?_, fun _ _ _ _ _ q => q.elim, fun _ _ _ _ _ q => q.elim⟩⟩
    · exact kk .non G' H' .non ⟨R'.eg, R'.sub, fun b o e => R'.eh b o e (fun z => z), fun b o e e0 => R'.fr b o e e0⟩ .non q
    · exact kk v G' H' d ⟨R'.eg, R'.sub, fun b o e => R'.eh b o e (fun z => z), fun b o e e0 => R'.fr b o e e0⟩ dv q
end
end Dl

namespace Dl
open PySem PySem.Spec PyProof.Rows L2

/-! ## Data as the library reads it -/
mutual
def D.py : D → PyData
  | .non => .none
  | .bl b => .bool b
  | .int i => .int i
  | .str x => .str x
  | .tup l => .tuple (D.pyL l)
  | .lst l => .list (D.pyL l)
def D.pyL : List D → List PyData
  | [] => []
  | d :: r => D.py d :: D.pyL r
end
mutual
def D.ok : D → Bool
  | .str x => PyData.strOk x
  | .tup l => D.okL l
  | .lst l => D.okL l
  | _ => true
def D.okL : List D → Bool
  | [] => true
  | d :: r => D.ok d && D.okL r
end
mutual
def D.dep : D → Nat
  | .tup l => D.depL l + 1
  | .lst l => D.depL l + 1
  | _ => 0
def D.depL : List D → Nat
  | [] => 0
  | d :: r => max (D.dep d) (D.depL r)
end
mutual
def eqD : D → D → Bool
  | .non, .non => true
  | .bl a, .bl b => a == b
  | .bl a, .int j => (if a then 1 else 0) == j
  | .int i, .bl b => i == (if b then 1 else 0)
  | .int i, .int j => i == j
  | .str x, .str y => x == y
  | .tup l, .tup m => eqDL l m
  | .lst l, .lst m => eqDL l m
  | _, _ => false
def eqDL : List D → List D → Bool
  | [], [] => true
  | a :: l, b :: m => eqD a b && eqDL l m
  | _, _ => false
end
mutual
theorem py_ok : ∀ d : D, d.ok = true → (D.py d).canLay0 = true
  | .non, _ => rfl
  | .bl _, _ => rfl
  | .int _, _ => rfl
  | .str _, h => h
  | .tup l, h => py_okL l h
  | .lst l, h => py_okL l h
theorem py_okL : ∀ l : List D, D.okL l = true → PyData.canLayAll0 (D.pyL l) = true
  | [], _ => rfl
  | d :: r, h => by
    have h' : (D.ok d && D.okL r) = true := h
    rw [Bool.and_eq_true] at h'
    show (PyData.canLay0 (D.py d) && PyData.canLayAll0 (D.pyL r)) = true
    rw [py_ok d h'.1, py_okL r h'.2]; rfl
end
mutual
theorem py_dep : ∀ d : D, (D.py d).depth = d.dep
  | .non => rfl
  | .bl _ => rfl
  | .int _ => rfl
  | .str _ => rfl
  | .tup l => by show PyData.depthAll (D.pyL l) + 1 = D.depL l + 1; rw [py_depL l]
  | .lst l => by show PyData.depthAll (D.pyL l) + 1 = D.depL l + 1; rw [py_depL l]
theorem py_depL : ∀ l : List D, PyData.depthAll (D.pyL l) = D.depL l
  | [] => rfl
  | d :: r => by show max (PyData.depth (D.py d)) (PyData.depthAll (D.pyL r)) = max (D.dep d) (D.depL r); rw [py_dep d, py_depL r]
end
mutual
theorem py_eq : ∀ d e : D, PyData.eqv (D.py d) (D.py e) = eqD d e
  | .tup l, .tup m => py_eqL l m
  | .lst l, .lst m => py_eqL l m
  | .non, e => by cases e <;> rfl
  | .bl _, e => by cases e <;> rfl
  | .int _, e => by cases e <;> rfl
  | .str _, e => by cases e <;> rfl
  | .tup _, .non => rfl
  | .tup _, .bl _ => rfl
  | .tup _, .int _ => rfl
  | .tup _, .str _ => rfl
  | .tup _, .lst _ => rfl
  | .lst _, .non => rfl
  | .lst _, .bl _ => rfl
  | .lst _, .int _ => rfl
  | .lst _, .str _ => rfl
  | .lst _, .tup _ => rfl
theorem py_eqL : ∀ l m : List D, PyData.eqvAll (D.pyL l) (D.pyL m) = eqDL l m
  | [], [] => rfl
  | [], _ :: _ => rfl
  | _ :: _, [] => rfl
  | d :: l, e :: m => by
    show (PyData.eqv (D.py d) (D.py e) && PyData.eqvAll (D.pyL l) (D.pyL m)) = (eqD d e && eqDL l m)
    rw [py_eq d e, py_eqL l m]
end
section
variable {X : Cx} {pins : List (Addr × Obj)} {σ : L2.St} {G H : Hp} {s : Shared}
mutual
theorem Den.reads (I : Inv X pins σ H s) (sub : Same G H) : ∀ {v : V} {d : D} {u : Value}, Den X.K G v d → RelV v u → ∃ as, Reads s.heap u (D.py d) as
  | _, _, _, .non, r => by cases r; exact ⟨_, .none⟩
  | _, _, _, .bl b, r => by cases r; exact ⟨_, .bool b⟩
  | _, _, _, .int i, r => by obtain ⟨t, rfl⟩ := r; exact ⟨_, .int i t⟩
  | _, _, _, .str x, r => by obtain ⟨t, rfl⟩ := r; exact ⟨_, .str x t⟩
  | _, _, _, .tup h l, r => by
    cases r
    obtain ⟨its, rv, ⟨o, ho, hc, n, hd⟩, _⟩ := I.tuple (Same.tupS sub h)
    obtain ⟨as, ra⟩ := DenL.reads I sub l rv
    exact ⟨as, .tuple ho hc hd (by simpa using ra)⟩
  | _, _, _, .lst h l, r => by
    cases r
    obtain ⟨its, rv, ⟨o, n, ho, hc, _, hd⟩, _⟩ := I.list (sub.seq h)
    obtain ⟨as, ra⟩ := DenL.reads I sub l rv
    exact ⟨_, .list ho hc hd (by simpa using ra)⟩
theorem DenL.reads (I : Inv X pins σ H s) (sub : Same G H) : ∀ {vs : List V} {ds : List D} {us : List Value}, DenL X.K G vs ds → Vals vs us → ∃ as, ReadsAll s.heap us (D.pyL ds) as
  | _, _, _, .nil, r => by cases r; exact ⟨_, .nil⟩
  | _, _, _, .cons h t, .cons r1 r2 => by
    obtain ⟨as, h1⟩ := Den.reads I sub h r1
    obtain ⟨bs, h2⟩ := DenL.reads I sub t r2
    exact ⟨_, .cons h1 h2⟩
end
end

/-! ## Comparisons -/
section
variable {X : Cx}
/-- two data that == may compare here -/
def okEq (d e : D) : Prop := d.ok = true ∧ e.ok = true ∧ min d.dep e.dep ≤ 60
def rDeep (K : PySem.W.Frag) (f : D → D → Bool) : R2 := fun x y H Q => ∃ G dx dy, Same G H ∧ Den K G x dx ∧ Den K G y dy ∧ okEq dx dy ∧ Q (.bl (f dx dy)) H
theorem op_eqDeep (hu : X.A.units + 64 < cLine) : OpR X (compareOp .Eq) (rDeep X.K eqD) := by
  rintro pins s σ H x y v u Q I rx ry ⟨G, dx, dy, sub, hx, hy, ⟨o1, o2, o3⟩, q⟩
  obtain ⟨as, ra⟩ := hx.reads I sub rx
  obtain ⟨bs, rb⟩ := hy.reads I sub ry
  refine PySem.SeqAt.compareEq_reads ra rb (py_ok _ o1) (py_ok _ o2) (by rw [py_dep, py_dep]; omega) ?_
  rw [py_eq]
  exact ⟨.bl _, H, I, rfl, q⟩
theorem op_neDeep (hu : X.A.units + 64 < cLine) : OpR X (compareOp .NotEq) (rDeep X.K fun d e => !eqD d e) := by
  rintro pins s σ H x y v u Q I rx ry ⟨G, dx, dy, sub, hx, hy, ⟨o1, o2, o3⟩, q⟩
  obtain ⟨as, ra⟩ := hx.reads I sub rx
  obtain ⟨bs, rb⟩ := hy.reads I sub ry
  refine PySem.SeqAt.compareNe_reads ra rb (py_ok _ o1) (py_ok _ o2) (by rw [py_dep, py_dep]; omega) ?_
  rw [py_eq]
  exact ⟨.bl _, H, I, rfl, q⟩
def rEqD : RD := fun x y Q => okEq x y ∧ Q (.bl (eqD x y))
def rNeD : RD := fun x y Q => okEq x y ∧ Q (.bl (!eqD x y))
theorem os_deep {K : PySem.W.Frag} {f : D → D → Bool} : OpS K (rDeep K f) (fun x y Q => okEq x y ∧ Q (.bl (f x y))) := fun G H x y dx dy Q Q2 s hx hy h k =>
  ⟨G, dx, dy, s, hx, hy, h.1, k _ G H _ (Ext.refl s) (.bl _) h.2⟩
variable {a b : Expr} {ta tb : TEd} {pos : Pos}
theorem dt_eq (hu : X.A.units + 64 < cLine) (ha : DE X a ta) (hb : DE X b tb) (hm : behindInMarks .Eq b = false := by first | exact nomark _ | rfl) : DT X (.Compare a [.Eq] [b] pos) (dB (dOp rEqD ta tb)) := dt_cmp (op_eqDeep hu) os_deep ha hb hm
theorem dt_ne (hu : X.A.units + 64 < cLine) (ha : DE X a ta) (hb : DE X b tb) (hm : behindInMarks .NotEq b = false := by first | exact nomark _ | rfl) : DT X (.Compare a [.NotEq] [b] pos) (dB (dOp rNeD ta tb)) := dt_cmp (op_neDeep hu) os_deep ha hb hm
/-- ints by an operation -/
def rII (g : Int → Int → D) : RD := fun x y Q => match x, y with
  | .int i, .int j => Q (g i j)
  | _, _ => False
def rIC (C : Int → Int → Prop) (g : Int → Int → D) : RD := fun x y Q => match x, y with
  | .int i, .int j => C i j ∧ Q (g i j)
  | _, _ => False
theorem os_ii {K : PySem.W.Frag} {g : Int → Int → V} {gd : Int → Int → D} (hg : ∀ i j G, Den K G (g i j) (gd i j)) : OpS K (rI0 g) (rII gd) := fun G H x y dx dy Q Q2 s hx hy h k => by
  unfold rII at h
  split at h
  · cases hx.int_inv; cases hy.int_inv
    exact ⟨_, _, rfl, rfl, k _ G H _ (Ext.refl s) (hg _ _ _) h⟩
  · exact h.elim
theorem os_ic {K : PySem.W.Frag} {C : Int → Int → Prop} {g : Int → Int → V} {gd : Int → Int → D} (hg : ∀ i j G, Den K G (g i j) (gd i j)) : OpS K (rI C g) (rIC C gd) := fun G H x y dx dy Q Q2 s hx hy h k => by
  unfold rIC at h
  split at h
  · cases hx.int_inv; cases hy.int_inv
    exact ⟨_, _, rfl, rfl, h.1, k _ G H _ (Ext.refl s) (hg _ _ _) h.2⟩
  · exact h.elim
theorem de_sub (ha : DE X a ta) (hb : DE X b tb) : DE X (.BinOp a .Sub b pos) (dOp (rII fun i j => .int (i - j)) ta tb) := de_bin op_sub (os_ii fun _ _ _ => .int _) ha hb
theorem de_mod (ha : DE X a ta) (hb : DE X b tb) : DE X (.BinOp a .Mod b pos) (dOp (rIC (fun _ j => 0 < j) fun i j => .int (i % j)) ta tb) := de_bin op_mod (os_ic fun _ _ _ => .int _) ha hb
theorem de_fdiv (ha : DE X a ta) (hb : DE X b tb) : DE X (.BinOp a .FloorDiv b pos) (dOp (rIC CDiv fun i j => .int (i / j)) ta tb) := de_bin op_fdiv (os_ic fun _ _ _ => .int _) ha hb
theorem de_le (ha : DE X a ta) (hb : DE X b tb) (hm : behindInMarks .LtE b = false := by first | exact nomark _ | rfl) : DE X (.Compare a [.LtE] [b] pos) (dOp (rII fun i j => .bl (decide (i ≤ j))) ta tb) := de_cmp op_le (os_ii fun _ _ _ => .bl _) ha hb hm
theorem de_ge (ha : DE X a ta) (hb : DE X b tb) (hm : behindInMarks .GtE b = false := by first | exact nomark _ | rfl) : DE X (.Compare a [.GtE] [b] pos) (dOp (rII fun i j => .bl (decide (j ≤ i))) ta tb) := de_cmp op_ge (os_ii fun _ _ _ => .bl _) ha hb hm
theorem dt_lt (ha : DE X a ta) (hb : DE X b tb) (hm : behindInMarks .Lt b = false := by first | exact nomark _ | rfl) : DT X (.Compare a [.Lt] [b] pos) (dB (dOp (rII fun i j => .bl (decide (i < j))) ta tb)) := dt_cmp op_lt (os_ii fun _ _ _ => .bl _) ha hb hm
theorem dt_gt (ha : DE X a ta) (hb : DE X b tb) (hm : behindInMarks .Gt b = false := by first | exact nomark _ | rfl) : DT X (.Compare a [.Gt] [b] pos) (dB (dOp (rII fun i j => .bl (decide (j < i))) ta tb)) := dt_cmp op_gt (os_ii fun _ _ _ => .bl _) ha hb hm
/-- is None, is not None -/
def isNonD : D → Bool
  | .non => true
  | _ => false
def rIsN : RD := fun x y Q => match y with
  | .non => Q (.bl (isNonD x))
  | _ => False
def rNotN : RD := fun x y Q => match y with
  | .non => Q (.bl (!isNonD x))
  | _ => False
theorem isN_of {K : PySem.W.Frag} {G : Hp} {v : V} {d : D} (h : Den K G v d) : decide (v = .non) = isNonD d := by cases h <;> simp [isNonD]
theorem os_isN {K : PySem.W.Frag} : OpS K (fun x y H Q => y = .non ∧ Q (.bl (decide (x = .non))) H) rIsN := fun G H x y dx dy Q Q2 s hx hy h k => by
  unfold rIsN at h
  split at h
  · exact ⟨hy.non_inv, k _ G H _ (Ext.refl s) (by rw [isN_of hx]; exact .bl _) h⟩
  · exact h.elim
theorem os_notN {K : PySem.W.Frag} : OpS K (fun x y H Q => y = .non ∧ Q (.bl (!decide (x = .non))) H) rNotN := fun G H x y dx dy Q Q2 s hx hy h k => by
  unfold rNotN at h
  split at h
  · exact ⟨hy.non_inv, k _ G H _ (Ext.refl s) (by rw [isN_of hx]; exact .bl _) h⟩
  · exact h.elim
theorem de_isnot (ha : DE X a ta) (hb : DE X b tb) (hm : behindInMarks .IsNot b = false := by first | exact nomark _ | rfl) : DE X (.Compare a [.IsNot] [b] pos) (dOp rNotN ta tb) := de_cmp op_notN os_notN ha hb hm
theorem dt_is (ha : DE X a ta) (hb : DE X b tb) (hm : behindInMarks .Is b = false := by first | exact nomark _ | rfl) : DT X (.Compare a [.Is] [b] pos) (dB (dOp rIsN ta tb)) := dt_cmp op_isN os_isN ha hb hm
theorem dt_isnot (ha : DE X a ta) (hb : DE X b tb) (hm : behindInMarks .IsNot b = false := by first | exact nomark _ | rfl) : DT X (.Compare a [.IsNot] [b] pos) (dB (dOp rNotN ta tb)) := dt_cmp op_notN os_notN ha hb hm
/-- + -/
def rAddD : RD := fun x y Q => match x, y with
  | .int i, .int j => Q (.int (i + j))
  | .tup l, .tup m => l.length + m.length ≤ sizeLine ∧ Q (.tup (l ++ m))
  | .lst l, .lst m => l.length + m.length ≤ sizeLine ∧ Q (.lst (l ++ m))
  | .str i, .str j => i.length + j.length ≤ sizeLine ∧ Q (.str (i ++ j))
  | _, _ => False
def rCatL (K : PySem.W.Frag) : R2 := fun x y H Q => ∃ l b xs zs, x = .ref l ∧ y = .ref b ∧ SqL K H l xs ∧ SqL K H b zs ∧ xs.length + zs.length ≤ sizeLine ∧ ∀ p, H p = none → Q (.ref p) (upd H p (.lst (xs ++ zs)))
def rCatT0 (K : PySem.W.Frag) : R2 := fun x y H Q => ∃ a b ys, x = .ref a ∧ y = .ref b ∧ SqT K H a [] ∧ SqT K H b ys ∧ Q (.ref b) H
theorem op_catL : OpR X (binaryOp .Add) (rCatL X.K) := by
  intro pins s σ H x y v u Q I rx ry h
  obtain ⟨l, b, xs, zs, rfl, rfl, hH, hB, hz, q⟩ := h
  cases rx
  cases ry
  obtain ⟨its, r, pl, z⟩ := I.list hH
  obtain ⟨its2, r2, pl2, z2⟩ := I.list hB
  obtain ⟨⟨cls, dd, data, sl⟩, ho, hc, n, hd⟩ := pl.isList
  obtain ⟨⟨cls2, dd2, data2, sl2⟩, ho2, hc2, n2, hd2⟩ := pl2.isList
  simp only at hc hd hc2 hd2
  subst hc hd hc2 hd2
  have e : its.toArray ++ its2.toArray = (its ++ its2).toArray := by simp
  refine concat_meets ⟨_, ho, rfl⟩ ⟨_, ho2, rfl⟩ noFill_list_add seq_list_add PySem.F.slot_list_add PySem.F.entry_list_add (PySem.F.args_list_add_2 _ _) (list_addW l b its.toArray its2.toArray n n2 dd dd2 sl sl2 (by rw [List.size_toArray, List.size_toArray, ← r.length, ← r2.length]; exact hz)) ⟨ho, ho2, ?_⟩
  rw [e]
  exact ⟨.ref _, _, I.lnew (t' := s.toks) (r.append r2) (by rw [List.length_append]; omega), rfl, q _ I.fresh⟩
theorem op_catT0 : OpR X (binaryOp .Add) (rCatT0 X.K) := by
  intro pins s σ H x y v u Q I rx ry h
  obtain ⟨a, b, ys, rfl, rfl, ha, hb, q⟩ := h
  cases rx
  cases ry
  obtain ⟨its, r1, p1, _⟩ := I.tuple ha
  obtain ⟨its2, r2, p2, _⟩ := I.tuple hb
  cases r1
  obtain ⟨⟨cls, dd, data, sl⟩, ho, hc, n, hd⟩ := id p1
  obtain ⟨⟨cls2, dd2, data2, sl2⟩, ho2, hc2, n2, hd2⟩ := id p2
  simp only at hc hd hc2 hd2
  subst hc hd hc2 hd2
  exact concat_meets ⟨_, ho, rfl⟩ ⟨_, ho2, rfl⟩ noFill_tuple_add seq_tuple_add PySem.F.slot_tuple_add PySem.F.entry_tuple_add (PySem.F.args_tuple_add_2 _ _)
      (tuple_addW0 a b #[] its2.toArray n n2 dd dd2 sl sl2 rfl) ⟨ho, ho2, ⟨.ref b, H, I, rfl, q⟩⟩
theorem op_addAll : OpR X (binaryOp .Add) (fun x y H Q => rI0 (fun i j => .int (i + j)) x y H Q ∨ rCatT0 X.K x y H Q ∨ rCatT X.K x y H Q ∨ rCatL X.K x y H Q ∨ ∃ i j, x = .str i ∧ y = .str j ∧ i.length + j.length ≤ sizeLine ∧ Q (.str (i ++ j)) H) :=
  OpR.or op_add (OpR.or op_catT0 (OpR.or op_catT (OpR.or op_catL op_add_str)))
theorem os_add {K : PySem.W.Frag} : OpS K (fun x y H Q => rI0 (fun i j => .int (i + j)) x y H Q ∨ rCatT0 K x y H Q ∨ rCatT K x y H Q ∨ rCatL K x y H Q ∨ ∃ i j, x = .str i ∧ y = .str j ∧ i.length + j.length ≤ sizeLine ∧ Q (.str (i ++ j)) H) rAddD := fun G H x y dx dy Q Q2 s hx hy h k => by
  unfold rAddD at h
  split at h
  · cases hx.int_inv; cases hy.int_inv
    exact .inl ⟨_, _, rfl, rfl, k _ G H _ (Ext.refl s) (.int _) h⟩
  · obtain ⟨a, vs, rfl, ha, la⟩ := hx.tup_inv
    obtain ⟨b, ws, rfl, hb, lb⟩ := hy.tup_inv
    cases la with
    | nil => exact .inr (.inl ⟨a, b, ws, rfl, rfl, Same.tupS s ha, Same.tupS s hb, k _ G H _ (Ext.refl s) hy h.2⟩)
    | @cons v d vs l d1 la =>
      refine .inr (.inr (.inl ⟨a, b, _, ws, rfl, rfl, Same.tupS s ha, Same.tupS s hb, by simp, by rw [(DenL.cons d1 la).length, lb.length]; exact h.1, fun e => ?_, fun _ p hp => ?_⟩))
      · subst e
        cases lb
        refine k _ G H _ (Ext.refl s) hx ?_
        have := h.2
        rwa [List.append_nil] at this
      · exact k _ _ _ _ (Ext.laid s hp _) (.tup (SqT.of upd_same) ((DenL.append (DenL.cons d1 la) lb).up (same_upd (s.free hp) _))) h.2
  · obtain ⟨a, vs, rfl, ha, la⟩ := hx.lst_inv
    obtain ⟨b, ws, rfl, hb, lb⟩ := hy.lst_inv
    exact .inr (.inr (.inr (.inl ⟨a, b, vs, ws, rfl, rfl, s.seq ha, s.seq hb, by rw [la.length, lb.length]; exact h.1, fun p hp =>
      k _ _ _ _ (Ext.laid s hp _) (.lst (SqL.of upd_same) ((la.append lb).up (same_upd (s.free hp) _))) h.2⟩)))
  · cases hx.str_inv; cases hy.str_inv
    exact .inr (.inr (.inr (.inr ⟨_, _, rfl, rfl, h.1, k _ G H _ (Ext.refl s) (.str _) h.2⟩)))
  · exact h.elim
/-- * of ints -/
theorem de_mul (ha : DE X a ta) (hb : DE X b tb) : DE X (.BinOp a .Mult b pos) (dOp (rIC CMul fun i j => .int (i * j)) ta tb) := de_bin op_mul (os_ic fun _ _ _ => .int _) ha hb
/-- xs[i] -/
def rIxD : RD := fun x y Q => match x, y with
  | .tup l, .int i => match atI l i with
    | some d => Q d
    | none => False
  | .lst l, .int i => match atI l i with
    | some d => Q d
    | none => False
  | _, _ => False
theorem atI_den {K : PySem.W.Frag} {G : Hp} {vs : List V} {l : List D} {i : Int} {d : D} (h : DenL K G vs l) (e : atI l i = some d) : ∃ v, atI vs i = some v ∧ Den K G v d := by
  unfold atI at e ⊢
  rw [h.length]
  cases q : ixN l.length i with
  | none => (rw [q] at e; cases e)
  | some j =>
    rw [q] at e
    obtain ⟨v, h1, h2⟩ := h.get (i := j) e
    exact ⟨v, h1, h2⟩
theorem os_ix {K : PySem.W.Frag} : OpS K (rIx K) rIxD := fun G H x y dx dy Q Q2 s hx hy h k => by
  unfold rIxD at h
  split at h
  · obtain ⟨a, vs, rfl, ha, la⟩ := hx.tup_inv
    cases hy.int_inv
    split at h
    · rename_i d e
      obtain ⟨v, h1, h2⟩ := atI_den la e
      exact .inr (.inl ⟨a, vs, _, v, rfl, rfl, Same.tupS s ha, h1, k _ G H _ (Ext.refl s) h2 h⟩)
    · exact h.elim
  · obtain ⟨a, vs, rfl, ha, la⟩ := hx.lst_inv
    cases hy.int_inv
    split at h
    · rename_i d e
      obtain ⟨v, h1, h2⟩ := atI_den la e
      exact .inl ⟨a, vs, _, v, rfl, rfl, s.seq ha, h1, k _ G H _ (Ext.refl s) h2 h⟩
    · exact h.elim
  · exact h.elim
/-- slices -/
abbrev TOd := Ev → (Option Int → Ev → Prop) → Prop
def lO (K : PySem.W.Frag) (t : TOd) : TO := fun σ H Q2 => ∃ (n : En) (δ : Ev) (G : Hp) (Q : Option Int → Ev → Prop), Rel K n δ σ G H ∧ t δ Q ∧
  ∀ (o : Option Int) (G' H' : Hp) (δ' : Ev), Rel K n δ' σ G' H' → Same G G' → Q o δ' → Q2 o H'
abbrev DO (X : Cx) (e : Option Expr) (t : TOd) : Prop := PO X e (lO X.K t)
def dNoPart : TOd := fun δ Q => Q none δ
def dPart (t : TEd) : TOd := fun δ Q => t δ fun x δ1 => match x with
  | .int i => Q (some i) δ1
  | _ => False
def cutD (xs : List D) (lo hi : Option Int) : List D := (xs.drop (HT.sIx xs.length 0 lo)).take (HT.sIx xs.length xs.length hi - HT.sIx xs.length 0 lo)
def rSlD : D → Option Int → Option Int → (D → Prop) → Prop := fun x lo hi Q => match x with
  | .lst l => Q (.lst (cutD l lo hi))
  | .tup l => ¬ (HT.sIx l.length 0 lo = 0 ∧ HT.sIx l.length l.length hi = l.length) ∧ Q (.tup (cutD l lo hi))
  | _ => False
theorem SlR.or {r r' : V → Option Int → Option Int → Hp → VK → Prop} (h : SlR X r) (h' : SlR X r') : SlR X (fun x l u H Q => r x l u H Q ∨ r' x l u H Q) :=
  fun pins s σ H x v vl vu lo hi sl Q I rx hs pl pu q => q.elim (h pins s σ H x v vl vu lo hi sl Q I rx hs pl pu) (h' pins s σ H x v vl vu lo hi sl Q I rx hs pl pu)
def dSl (te : TEd) (tl th : TOd) : TEd := fun δ Q => te δ fun x δ1 => tl δ1 fun l δ2 => th δ2 fun u δ3 => rSlD x l u fun d => Q d δ3
/-- in, not in -/
def inD (d : D) (l : List D) : Bool := l.any fun y => eqD y d
def okIn (d : D) (l : List D) : Prop := d.ok = true ∧ D.okL l = true ∧ min (D.depL l) d.dep ≤ 60
def rInV (K : PySem.W.Frag) (neg : Bool) : R2 := fun x y H Q => ∃ G dx l, Same G H ∧ Den K G x dx ∧ (Den K G y (.lst l) ∨ Den K G y (.tup l)) ∧ okIn dx l ∧ Q (.bl (if neg then !inD dx l else inD dx l)) H
def rInD (neg : Bool) : RD := fun x y Q => match y with
  | .lst l => okIn x l ∧ Q (.bl (if neg then !inD x l else inD x l))
  | .tup l => okIn x l ∧ Q (.bl (if neg then !inD x l else inD x l))
  | _ => False
/-! ## Built-in functions -/
variable {x : Str} {p : Pos} {e e2 : Expr} {es : List Expr} {t : TAd}
def cMax : RC := fun ds Q => match ds with
  | [.int i, .int j] => Q (.int (max i j))
  | _ => False
def cMin : RC := fun ds Q => match ds with
  | [.int i, .int j] => Q (.int (min i j))
  | _ => False
theorem denl2 {K : PySem.W.Frag} {G : Hp} {xs : List V} {i j : Int} (h : DenL K G xs [.int i, .int j]) : xs = [.int i, .int j] := by
  cases h with | cons h1 h2 => cases h2 with | cons h2 h3 => cases h3; cases h1; cases h2; rfl
theorem denl1 {K : PySem.W.Frag} {G : Hp} {xs : List V} {d : D} (h : DenL K G xs [d]) : ∃ v, xs = [v] ∧ Den K G v d := by
  cases h with | cons h1 h2 => cases h2; exact ⟨_, rfl, h1⟩
theorem cs_max {K : PySem.W.Frag} : CallS K (fun xs H Q => ∃ i j, xs = [.int i, .int j] ∧ Q (.int (if j > i then j else i)) H) cMax := fun G H xs ds Q Q2 s hd h k => by
  unfold cMax at h
  split at h
  · rename_i i j
    refine ⟨i, j, denl2 hd, k _ G H _ (Ext.refl s) ?_ h⟩
    have : (if j > i then j else i) = max i j := by split <;> omega
    rw [this]; exact .int _
  · exact h.elim
theorem cs_min {K : PySem.W.Frag} : CallS K (fun xs H Q => ∃ i j, xs = [.int i, .int j] ∧ Q (.int (if j < i then j else i)) H) cMin := fun G H xs ds Q Q2 s hd h k => by
  unfold cMin at h
  split at h
  · rename_i i j
    refine ⟨i, j, denl2 hd, k _ G H _ (Ext.refl s) ?_ h⟩
    have : (if j < i then j else i) = min i j := by split <;> omega
    rw [this]; exact .int _
  · exact h.elim
theorem de_max (hc : X.calm = true) (hm : X.mg "max" = none) (ha : DA X (e :: es) t) (hg : Gl X "max" := by rfl) (he : starEach (e :: es) X.env = (false, eval e X.env) :: starEach es X.env := by rfl) (hpl : (backTo pos (starEach es X.env)).any (·.1) = false := by rfl) : DE X (.Call (.Name "max" p) (e :: es) [] pos) (dCall cMax t) :=
  de_callB (call_max2 hc) cs_max hm (by rfl) ha hg (by decide) (by decide) he hpl
theorem de_min (hc : X.calm = true) (hm : X.mg "min" = none) (ha : DA X (e :: es) t) (hg : Gl X "min" := by rfl) (he : starEach (e :: es) X.env = (false, eval e X.env) :: starEach es X.env := by rfl) (hpl : (backTo pos (starEach es X.env)).any (·.1) = false := by rfl) : DE X (.Call (.Name "min" p) (e :: es) [] pos) (dCall cMin t) :=
  de_callB (call_min2 hc) cs_min hm (by rfl) ha hg (by decide) (by decide) he hpl
def cLen : RC := fun ds Q => match ds with
  | [.lst l] => Q (.int l.length)
  | [.tup l] => Q (.int l.length)
  | _ => False
theorem cs_len {K : PySem.W.Frag} : CallS K (fun xs H Q => ∃ p ys, xs = [.ref p] ∧ (SqL K H p ys ∨ SqT K H p ys) ∧ Q (.int ys.length) H) cLen := fun G H xs ds Q Q2 s hd h k => by
  unfold cLen at h
  split at h
  · obtain ⟨v, rfl, d1⟩ := denl1 hd
    obtain ⟨a, vs, rfl, ha, la⟩ := d1.lst_inv
    exact ⟨a, vs, rfl, .inl (s.seq ha), k _ G H _ (Ext.refl s) (by rw [la.length]; exact .int _) h⟩
  · obtain ⟨v, rfl, d1⟩ := denl1 hd
    obtain ⟨a, vs, rfl, ha, la⟩ := d1.tup_inv
    exact ⟨a, vs, rfl, .inr (Same.tupS s ha), k _ G H _ (Ext.refl s) (by rw [la.length]; exact .int _) h⟩
  · exact h.elim
def cInt : RC := fun ds Q => match ds with
  | [.int i] => Q (.int i)
  | [.bl b] => Q (.int (if b then 1 else 0))
  | _ => False
/-- list(xs), tuple(xs) -/
def cList : RC := fun ds Q => match ds with
  | [.lst l] => Q (.lst l)
  | [.tup l] => Q (.lst l)
  | _ => False
def cTuple : RC := fun ds Q => match ds with
  | [.lst l] => Q (.tup l)
  | [.tup l] => Q (.tup l)
  | _ => False
end
end Dl

namespace Dl
open PySem PySem.Spec PyProof.Rows L2
/-! ### a list or a tuple is walked; a negative -/
section
variable {X : Cx} {te : TEd} {a : Expr} {ta : TEd} {pos : Pos}
def iSeq (K : PySem.W.Frag) (tl : TE) : TI := fun σ H R => tl σ H fun x H1 => ∃ a, x = .ref a ∧ (((∃ xs, SqL K H1 a xs) ∧ R (Itl K a) H1) ∨ ((∃ xs, SqT K H1 a xs) ∧ R (Itt K a) H1))
def diSeq (te : TEd) : TId := fun δ Q => te δ fun d δ1 => match d with
  | .lst l => Q l δ1
  | .tup l => Q l δ1
  | _ => False
def dUn (r : D → (D → Prop) → Prop) (ta : TEd) : TEd := fun δ Q => ta δ fun x δ1 => r x fun d => Q d δ1
def rNegD : D → (D → Prop) → Prop := fun x Q => match x with
  | .int i => Q (.int (-i))
  | _ => False
theorem de_neg (ha : DE X a ta) : DE X (.UnaryOp .USub a pos) (dUn rNegD ta) :=
  pe_imp (pe_un un_neg ha) fun σ H Q2 ⟨n, δ, G, Q, R, h, k⟩ => ⟨n, δ, G, _, R, h, fun v G1 H1 d δ1 R1 s1 d1 h1 => by
    cases d with
    | int i => exact ⟨i, d1.int_inv, k _ G1 H1 _ δ1 R1 s1 (.int _) h1⟩
    | _ => exact h1.elim⟩
end
/-! ### small sizes -/
theorem sz0 : (0 ≤ sizeLine) = True := eq_true (by decide)
theorem sz1 : (1 ≤ sizeLine) = True := eq_true (by decide)
theorem sz2 : (2 ≤ sizeLine) = True := eq_true (by decide)
theorem sz3 : (3 ≤ sizeLine) = True := eq_true (by decide)
theorem sz4 : (4 ≤ sizeLine) = True := eq_true (by decide)
theorem sz5 : (5 ≤ sizeLine) = True := eq_true (by decide)
theorem sz6 : (6 ≤ sizeLine) = True := eq_true (by decide)
theorem sz7 : (7 ≤ sizeLine) = True := eq_true (by decide)
theorem sz8 : (8 ≤ sizeLine) = True := eq_true (by decide)
theorem sz9 : (9 ≤ sizeLine) = True := eq_true (by decide)
theorem sz10 : (10 ≤ sizeLine) = True := eq_true (by decide)
theorem sz11 : (11 ≤ sizeLine) = True := eq_true (by decide)
theorem sz12 : (12 ≤ sizeLine) = True := eq_true (by decide)
theorem sz13 : (13 ≤ sizeLine) = True := eq_true (by decide)
theorem sz14 : (14 ≤ sizeLine) = True := eq_true (by decide)
theorem sz15 : (15 ≤ sizeLine) = True := eq_true (by decide)
theorem sz16 : (16 ≤ sizeLine) = True := eq_true (by decide)
theorem sz17 : (17 ≤ sizeLine) = True := eq_true (by decide)
theorem sz18 : (18 ≤ sizeLine) = True := eq_true (by decide)
theorem sz19 : (19 ≤ sizeLine) = True := eq_true (by decide)
theorem sz20 : (20 ≤ sizeLine) = True := eq_true (by decide)
theorem sz21 : (21 ≤ sizeLine) = True := eq_true (by decide)
theorem sz22 : (22 ≤ sizeLine) = True := eq_true (by decide)
theorem sz23 : (23 ≤ sizeLine) = True := eq_true (by decide)
theorem sz24 : (24 ≤ sizeLine) = True := eq_true (by decide)
theorem sz25 : (25 ≤ sizeLine) = True := eq_true (by decide)
theorem sz26 : (26 ≤ sizeLine) = True := eq_true (by decide)
theorem sz27 : (27 ≤ sizeLine) = True := eq_true (by decide)
theorem sz28 : (28 ≤ sizeLine) = True := eq_true (by decide)
theorem sz29 : (29 ≤ sizeLine) = True := eq_true (by decide)
theorem sz30 : (30 ≤ sizeLine) = True := eq_true (by decide)
/-! ### == of small things -/
theorem okEq_of {d e : D} (h1 : d.ok = true) (h2 : e.ok = true) (h3 : min d.dep e.dep ≤ 60) : okEq d e = True := eq_true ⟨h1, h2, h3⟩
theorem okEq_non_non : okEq (D.non) (D.non) = True := okEq_of rfl rfl (Nat.le_of_lt_succ (by decide : 0 < 61))
theorem okEq_non_bl {b : Bool} : okEq (D.non) (D.bl b) = True := okEq_of rfl rfl (Nat.le_of_lt_succ (by decide : 0 < 61))
theorem okEq_non_int {j : Int} : okEq (D.non) (D.int j) = True := okEq_of rfl rfl (Nat.le_of_lt_succ (by decide : 0 < 61))
theorem okEq_bl_non {a : Bool} : okEq (D.bl a) (D.non) = True := okEq_of rfl rfl (Nat.le_of_lt_succ (by decide : 0 < 61))
theorem okEq_bl_bl {a : Bool} {b : Bool} : okEq (D.bl a) (D.bl b) = True := okEq_of rfl rfl (Nat.le_of_lt_succ (by decide : 0 < 61))
theorem okEq_bl_int {a : Bool} {j : Int} : okEq (D.bl a) (D.int j) = True := okEq_of rfl rfl (Nat.le_of_lt_succ (by decide : 0 < 61))
theorem okEq_int_non {i : Int} : okEq (D.int i) (D.non) = True := okEq_of rfl rfl (Nat.le_of_lt_succ (by decide : 0 < 61))
theorem okEq_int_bl {i : Int} {b : Bool} : okEq (D.int i) (D.bl b) = True := okEq_of rfl rfl (Nat.le_of_lt_succ (by decide : 0 < 61))
theorem okEq_int_int {i : Int} {j : Int} : okEq (D.int i) (D.int j) = True := okEq_of rfl rfl (Nat.le_of_lt_succ (by decide : 0 < 61))
theorem dFor_by (W : Nat → Ev → Prop) {ti : TId} {g : TGd} {tb : TSd} {E : EndsD} {δ : Ev} (items : List D) (δ1 : Ev) (h0 : ∀ Q : List D → Ev → Prop, Q items δ1 → ti δ Q) (w0 : W 0 δ1)
    (step : ∀ (i : Nat) (d : D) (δ2 : Ev), items[i]? = some d → W i δ2 → g d δ2 fun δ3 => tb { E with nx := W (i + 1), ct := W (i + 1), bk := E.nx } δ3) (fin : ∀ δ2, W items.length δ2 → E.nx δ2) : dFor ti g tb E δ := h0 _ ⟨W, w0, step, fin⟩
/-! ### simp stops at loops -/
/-- behind a statement M holds -/
def dSeqM (t u : TSd) : TSd := fun E δ => ∃ M : Ev → Prop, t { E with nx := M } δ ∧ ∀ δ', M δ' → u E δ'
theorem dss_consM {X : Cx} {st : Stmt} {rest : List Stmt} {t u : TSd} (h1 : DS X st t) (h2 : DSs X rest u) : DSs X (st :: rest) (dSeqM t u) :=
  pss_imp (pss_cons h1 h2) fun F σ H ⟨n, δ, G, E, R, ⟨M, h, hm⟩, k⟩ => ⟨n, δ, G, _, R, h, ⟨fun δ' σ' G' H' R' h' => ⟨n, δ', G', E, R', hm δ' h', k⟩, k.rt, k.bk, k.ct⟩⟩
end Dl

namespace Dl
open PySem PySem.Spec PyProof.Rows L2
/-! ## The same rules, the value as a function: what is wanted behind stands once -/
def rF (f : D → D → Option D) : RD := fun x y Q => ∃ d, f x y = some d ∧ Q d
def seqF : D → Option (List D)
  | .lst l => some l
  | .tup l => some l
  | _ => none
def addF : D → D → Option D
  | .int i, .int j => some (.int (i + j))
  | .tup l, .tup m => if l.length + m.length ≤ sizeLine then some (.tup (l ++ m)) else none
  | .lst l, .lst m => if l.length + m.length ≤ sizeLine then some (.lst (l ++ m)) else none
  | .str i, .str j => if i.length + j.length ≤ sizeLine then some (.str (i ++ j)) else none
  | _, _ => none
def ixF : D → D → Option D
  | .lst l, .int i => atI l i
  | .tup l, .int i => atI l i
  | _, _ => none
def rInF (neg : Bool) : RD := fun x y Q => ∃ l, seqF y = some l ∧ okIn x l ∧ Q (.bl (if neg then !inD x l else inD x l))
def cLenF : RC := fun ds Q => match ds with
  | [d] => ∃ l, seqF d = some l ∧ Q (.int l.length)
  | _ => False
def intF : D → Option Int
  | .int i => some i
  | .bl b => some (if b then 1 else 0)
  | _ => none
def cIntF : RC := fun ds Q => match ds with
  | [d] => ∃ i, intF d = some i ∧ Q (.int i)
  | _ => False
def cListF : RC := fun ds Q => match ds with
  | [d] => ∃ l, seqF d = some l ∧ Q (.lst l)
  | _ => False
def cTupleF : RC := fun ds Q => match ds with
  | [d] => ∃ l, seqF d = some l ∧ Q (.tup l)
  | _ => False
def diSeqF (te : TEd) : TId := fun δ Q => te δ fun d δ1 => ∃ l, seqF d = some l ∧ Q l δ1
def truF : D → Option Bool
  | .non => some false
  | .bl b => some b
  | .int i => some (i != 0)
  | .str y => if y.length ≤ sizeLine then some ((y.length : Int) != 0) else none
  | .tup l => some (!l.isEmpty)
  | .lst l => some (!l.isEmpty)
def dTruF (t : TEd) : TTd := fun δ Q => t δ fun x δ1 => ∃ b, truF x = some b ∧ Q b δ1
def slF : D → Option Int → Option Int → Option D
  | .lst l, lo, hi => some (.lst (cutD l lo hi))
  | .tup l, lo, hi => some (.tup (cutD l lo hi))
  | _, _, _ => none
/-- t[lo:hi] of a tuple must not be the whole of it -/
def slOk : D → Option Int → Option Int → Prop
  | .tup l, lo, hi => ¬ (HT.sIx l.length 0 lo = 0 ∧ HT.sIx l.length l.length hi = l.length)
  | _, _, _ => True
def dSlF (te : TEd) (tl th : TOd) : TEd := fun δ Q => te δ fun x δ1 => tl δ1 fun l δ2 => th δ2 fun u δ3 => slOk x l u ∧ ∃ d, slF x l u = some d ∧ Q d δ3
section
variable {X : Cx} {a b : Expr} {ta tb te : TEd} {pos : Pos}
theorem os_imp {K : PySem.W.Frag} {r2 : R2} {r r' : RD} (h : OpS K r2 r) (hi : ∀ x y Q, r' x y Q → r x y Q) : OpS K r2 r' := fun G H x y dx dy Q Q2 s hx hy q k => h G H x y dx dy Q Q2 s hx hy (hi dx dy Q q) k
theorem cs_imp {K : PySem.W.Frag} {r2 : List V → Hp → VK → Prop} {r r' : RC} (h : CallS K r2 r) (hi : ∀ ds Q, r' ds Q → r ds Q) : CallS K r2 r' := fun G H xs ds Q Q2 s hd q k => h G H xs ds Q Q2 s hd (hi ds Q q) k
theorem seqF_some {d : D} {l : List D} (h : seqF d = some l) : d = .lst l ∨ d = .tup l := by
  cases d <;> simp only [seqF, Option.some.injEq, reduceCtorEq] at h
  · subst h; exact .inr rfl
  · subst h; exact .inl rfl
theorem add_imp : ∀ x y Q, rF addF x y Q → rAddD x y Q := by
  rintro x y Q ⟨d, e, q⟩
  unfold addF at e
  split at e
  · cases e; exact q
  · split at e
    · cases e; exact ⟨by assumption, q⟩
    · cases e
  · split at e
    · cases e; exact ⟨by assumption, q⟩
    · cases e
  · split at e
    · cases e; exact ⟨by assumption, q⟩
    · cases e
  · cases e
theorem ix_imp : ∀ x y Q, rF ixF x y Q → rIxD x y Q := by
  rintro x y Q ⟨d, e, q⟩
  unfold ixF at e
  split at e
  · simp only [rIxD, e]; exact q
  · simp only [rIxD, e]; exact q
  · cases e
theorem len_imp : ∀ ds Q, cLenF ds Q → cLen ds Q := by
  intro ds Q h
  unfold cLenF at h
  split at h
  · obtain ⟨l, e, q⟩ := h
    rcases seqF_some e with rfl | rfl <;> exact q
  · exact h.elim
theorem tru_imp {d : D} {Q : Bool → Prop} (h : ∃ b, truF d = some b ∧ Q b) : truD d Q := by
  obtain ⟨b, e, q⟩ := h
  unfold truF at e
  split at e
  · cases e; exact q
  · cases e; exact q
  · cases e; exact q
  · split at e
    · cases e; exact ⟨by assumption, q⟩
    · cases e
  · cases e; exact q
  · cases e; exact q
theorem de_addF (ha : DE X a ta) (hb : DE X b tb) : DE X (.BinOp a .Add b pos) (dOp (rF addF) ta tb) := de_bin op_addAll (os_imp os_add add_imp) ha hb
theorem de_ixF (ha : DE X a ta) (hb : DE X b tb) (hp : PlainIx b := by exact fun _ _ => rfl) : DE X (.Subscript a b pos) (dOp (rF ixF) ta tb) := de_ixG ix_seq (os_imp os_ix ix_imp) ha hb hp
theorem dt_truF (ha : DE X a ta) (he : ∀ whole, isTrue a X.env whole = (do let v ← whole; standAt a.pos; holding [v] (truthy v)) := by intro _; rfl) : DT X a (dTruF ta) :=
  pt_imp (pt_truth ha he) fun σ H Q2 ⟨n, δ, G, Q, R, h, k⟩ => ⟨n, δ, G, _, R, h, fun v G1 H1 d δ1 R1 s1 d1 h1 => by
    obtain ⟨b, hb, hq⟩ := truV_of R1.sub d1 (tru_imp h1)
    exact ⟨b, hb, k b G1 H1 δ1 R1 s1 hq⟩⟩
variable {p : Pos} {e : Expr} {es : List Expr} {t : TAd}
theorem de_lenF (hm : X.mg "len" = none) (ha : DA X (e :: es) t) (hg : Gl X "len" := by rfl) (he : starEach (e :: es) X.env = (false, eval e X.env) :: starEach es X.env := by rfl) (hpl : (backTo pos (starEach es X.env)).any (·.1) = false := by rfl) : DE X (.Call (.Name "len" p) (e :: es) [] pos) (dCall cLenF t) :=
  de_callB call_len_seq (cs_imp cs_len len_imp) hm PySem.boot_len ha hg (by decide) (by decide) he hpl
end
theorem atI_0 {α : Type} {d : α} {l : List α} : atI (d :: l) 0 = some d := atI_nat (j := 0) rfl
theorem atI_1 {α : Type} {d d1 : α} {l : List α} : atI (d :: d1 :: l) 1 = some d1 := atI_nat (j := 1) rfl
theorem atI_2 {α : Type} {d d1 d2 : α} {l : List α} : atI (d :: d1 :: d2 :: l) 2 = some d2 := atI_nat (j := 2) rfl
theorem atI_3 {α : Type} {d d1 d2 d3 : α} {l : List α} : atI (d :: d1 :: d2 :: d3 :: l) 3 = some d3 := atI_nat (j := 3) rfl
theorem atI_4 {α : Type} {d d1 d2 d3 d4 : α} {l : List α} : atI (d :: d1 :: d2 :: d3 :: d4 :: l) 4 = some d4 := atI_nat (j := 4) rfl
theorem atI_5 {α : Type} {d d1 d2 d3 d4 d5 : α} {l : List α} : atI (d :: d1 :: d2 :: d3 :: d4 :: d5 :: l) 5 = some d5 := atI_nat (j := 5) rfl
/-! ### rows for simp -/
theorem eqD_non_non : eqD (D.non) (D.non) = true := rfl
theorem eqD_non_bl {y : Bool} : eqD (D.non) (D.bl y) = false := rfl
theorem eqD_non_int {y : Int} : eqD (D.non) (D.int y) = false := rfl
theorem eqD_non_str {y : Str} : eqD (D.non) (D.str y) = false := rfl
theorem eqD_non_tup {y : List D} : eqD (D.non) (D.tup y) = false := rfl
theorem eqD_non_lst {y : List D} : eqD (D.non) (D.lst y) = false := rfl
theorem eqD_bl_non {x : Bool} : eqD (D.bl x) (D.non) = false := rfl
theorem eqD_bl_bl {x : Bool} {y : Bool} : eqD (D.bl x) (D.bl y) = (x == y) := rfl
theorem eqD_bl_int {x : Bool} {y : Int} : eqD (D.bl x) (D.int y) = ((if x then 1 else 0) == y) := rfl
theorem eqD_bl_str {x : Bool} {y : Str} : eqD (D.bl x) (D.str y) = false := rfl
theorem eqD_bl_tup {x : Bool} {y : List D} : eqD (D.bl x) (D.tup y) = false := rfl
theorem eqD_bl_lst {x : Bool} {y : List D} : eqD (D.bl x) (D.lst y) = false := rfl
theorem eqD_int_non {x : Int} : eqD (D.int x) (D.non) = false := rfl
theorem eqD_int_bl {x : Int} {y : Bool} : eqD (D.int x) (D.bl y) = (x == (if y then 1 else 0)) := rfl
theorem eqD_int_int {x : Int} {y : Int} : eqD (D.int x) (D.int y) = (x == y) := rfl
theorem eqD_int_str {x : Int} {y : Str} : eqD (D.int x) (D.str y) = false := rfl
theorem eqD_int_tup {x : Int} {y : List D} : eqD (D.int x) (D.tup y) = false := rfl
theorem eqD_int_lst {x : Int} {y : List D} : eqD (D.int x) (D.lst y) = false := rfl
theorem eqD_str_non {x : Str} : eqD (D.str x) (D.non) = false := rfl
theorem eqD_str_bl {x : Str} {y : Bool} : eqD (D.str x) (D.bl y) = false := rfl
theorem eqD_str_int {x : Str} {y : Int} : eqD (D.str x) (D.int y) = false := rfl
theorem eqD_str_str {x : Str} {y : Str} : eqD (D.str x) (D.str y) = (x == y) := rfl
theorem eqD_str_tup {x : Str} {y : List D} : eqD (D.str x) (D.tup y) = false := rfl
theorem eqD_str_lst {x : Str} {y : List D} : eqD (D.str x) (D.lst y) = false := rfl
theorem eqD_tup_non {x : List D} : eqD (D.tup x) (D.non) = false := rfl
theorem eqD_tup_bl {x : List D} {y : Bool} : eqD (D.tup x) (D.bl y) = false := rfl
theorem eqD_tup_int {x : List D} {y : Int} : eqD (D.tup x) (D.int y) = false := rfl
theorem eqD_tup_str {x : List D} {y : Str} : eqD (D.tup x) (D.str y) = false := rfl
theorem eqD_tup_tup {x : List D} {y : List D} : eqD (D.tup x) (D.tup y) = eqDL x y := rfl
theorem eqD_tup_lst {x : List D} {y : List D} : eqD (D.tup x) (D.lst y) = false := rfl
theorem eqD_lst_non {x : List D} : eqD (D.lst x) (D.non) = false := rfl
theorem eqD_lst_bl {x : List D} {y : Bool} : eqD (D.lst x) (D.bl y) = false := rfl
theorem eqD_lst_int {x : List D} {y : Int} : eqD (D.lst x) (D.int y) = false := rfl
theorem eqD_lst_str {x : List D} {y : Str} : eqD (D.lst x) (D.str y) = false := rfl
theorem eqD_lst_tup {x : List D} {y : List D} : eqD (D.lst x) (D.tup y) = false := rfl
theorem eqD_lst_lst {x : List D} {y : List D} : eqD (D.lst x) (D.lst y) = eqDL x y := rfl
theorem eqDL_nil_nil : eqDL [] [] = true := rfl
theorem eqDL_nil_cons {d : D} {l : List D} : eqDL [] (d :: l) = false := rfl
theorem eqDL_cons_nil {d : D} {l : List D} : eqDL (d :: l) [] = false := rfl
theorem eqDL_cons_cons {d e : D} {l m : List D} : eqDL (d :: l) (e :: m) = (eqD d e && eqDL l m) := rfl
theorem isNonD_non : isNonD .non = true := rfl
theorem isNonD_int {i : Int} : isNonD (.int i) = false := rfl
theorem isNonD_bl {i : Bool} : isNonD (.bl i) = false := rfl
theorem isNonD_str {i : Str} : isNonD (.str i) = false := rfl
theorem isNonD_tup {i : List D} : isNonD (.tup i) = false := rfl
theorem isNonD_lst {i : List D} : isNonD (.lst i) = false := rfl
theorem addF_int {i j : Int} : addF (.int i) (.int j) = some (.int (i + j)) := rfl
theorem addF_tup {l m : List D} : addF (.tup l) (.tup m) = if l.length + m.length ≤ sizeLine then some (.tup (l ++ m)) else none := rfl
theorem addF_lst {l m : List D} : addF (.lst l) (.lst m) = if l.length + m.length ≤ sizeLine then some (.lst (l ++ m)) else none := rfl
theorem addF_str {i j : Str} : addF (.str i) (.str j) = if i.length + j.length ≤ sizeLine then some (.str (i ++ j)) else none := rfl
theorem ixF_tup {l : List D} {i : Int} : ixF (.tup l) (.int i) = atI l i := rfl
theorem ixF_lst {l : List D} {i : Int} : ixF (.lst l) (.int i) = atI l i := rfl
theorem seqF_tup {l : List D} : seqF (.tup l) = some l := rfl
theorem seqF_lst {l : List D} : seqF (.lst l) = some l := rfl
theorem intF_int {i : Int} : intF (.int i) = some i := rfl
theorem intF_bl {b : Bool} : intF (.bl b) = some (if b then 1 else 0) := rfl
theorem truF_non : truF .non = some false := rfl
theorem truF_bl {b : Bool} : truF (.bl b) = some b := rfl
theorem truF_int {i : Int} : truF (.int i) = some (i != 0) := rfl
theorem truF_tup {l : List D} : truF (.tup l) = some (!l.isEmpty) := rfl
theorem truF_lst {l : List D} : truF (.lst l) = some (!l.isEmpty) := rfl
theorem slF_lst {l : List D} {lo hi : Option Int} : slF (.lst l) lo hi = some (.lst (cutD l lo hi)) := rfl
theorem slF_tup {l : List D} {lo hi : Option Int} : slF (.tup l) lo hi = some (.tup (cutD l lo hi)) := rfl
theorem slOk_lst {l : List D} {lo hi : Option Int} : slOk (.lst l) lo hi = True := rfl
theorem slOk_tup {l : List D} {lo hi : Option Int} : slOk (.tup l) lo hi = ¬ (HT.sIx l.length 0 lo = 0 ∧ HT.sIx l.length l.length hi = l.length) := rfl
end Dl

namespace Dl
open PySem PySem.Spec PyProof.Rows L2
/-! ## Comprehensions -/
theorem clos_go {env : PySem.Env} : ∀ (names : List (Str × NameKind)) (cs : List (Str × Addr)), (∀ x ∈ names, x.2 = NameKind.free → ∃ c, env.cells.lookup x.1 = some c) →
    (∀ x c, cs.lookup x = some c → env.cells.lookup x = some c) →
    ∃ cl, (forIn names cs fun x r => if (x.snd == NameKind.free) = true then do let c ← cellOf env x.fst; pure (ForInStep.yield ((x.fst, c) :: r)) else pure (ForInStep.yield r) : Sem (List (Str × Addr))) = pure cl ∧
      (∀ x c, cl.lookup x = some c → env.cells.lookup x = some c) ∧ ∀ x, ((∃ c, cs.lookup x = some c) ∨ (x, NameKind.free) ∈ names) → ∃ c, cl.lookup x = some c
  | [], cs, _, h => ⟨cs, rfl, h, fun x hx => hx.elim id fun z => absurd z (by simp)⟩
  | (n, k) :: r, cs, hf, h => by
    by_cases hk : k = .free
    · subst hk
      obtain ⟨c, hc⟩ := hf (n, .free) List.mem_cons_self rfl
      obtain ⟨cl, e, h1, h2⟩ := clos_go r ((n, c) :: cs) (fun x hx => hf x (List.mem_cons_of_mem _ hx)) (fun x d hx => by
        rw [List.lookup_cons] at hx
        split at hx
        · rename_i q; cases hx; rw [eq_of_beq q]; exact hc
        · exact h x d hx)
      refine ⟨cl, ?_, h1, fun x hx => h2 x ?_⟩
      · rw [List.forIn_cons, ← e]
        have e0 : cellOf env n = pure c := by unfold cellOf; rw [hc]
        simp only [beq_self_eq_true, if_true, e0]
        rfl
      · rcases hx with ⟨d, hx⟩ | hx
        · left
          rw [List.lookup_cons]
          split
          · exact ⟨_, rfl⟩
          · exact ⟨d, hx⟩
        · rcases List.mem_cons.mp hx with z | z
          · cases z
            left
            exact ⟨c, by rw [List.lookup_cons, beq_self_eq_true]⟩
          · exact .inr z
    · obtain ⟨cl, e, h1, h2⟩ := clos_go r cs (fun x hx => hf x (List.mem_cons_of_mem _ hx)) h
      refine ⟨cl, ?_, h1, fun x hx => h2 x ?_⟩
      · rw [List.forIn_cons, ← e]
        have : (k == NameKind.free) = false := by simpa using hk
        simp only [this, Bool.false_eq_true, if_false]
        rfl
      · rcases hx with hx | hx
        · exact .inl hx
        · rcases List.mem_cons.mp hx with z | z
          · cases z; exact absurd rfl hk
          · exact .inr z
theorem clos_of {env : PySem.Env} {scope : Scope} (hf : ∀ x ∈ scope.names, x.2 = NameKind.free → ∃ c, env.cells.lookup x.1 = some c) :
    ∃ cl, closureFor scope env = pure cl ∧ (∀ x c, cl.lookup x = some c → env.cells.lookup x = some c) ∧ ∀ x, (x, NameKind.free) ∈ scope.names → ∃ c, cl.lookup x = some c := by
  obtain ⟨cl, e, h1, h2⟩ := clos_go scope.names [] hf (fun x c h => by simp at h)
  refine ⟨cl, ?_, h1, fun x hx => h2 x (.inr hx)⟩
  simp only [closureFor]
  rw [e]
  rfl
theorem lookup_relabel {env : PySem.Env} {x : Str} : ∀ {names : List (Str × NameKind)},
    (names.map fun (n, k) => if (k == NameKind.free && env.scope.kind == .function && env.kindOf n == some .cell) then (n, NameKind.cell) else (n, k)).lookup x =
      (names.lookup x).map fun k => if (k == NameKind.free && env.scope.kind == .function && env.kindOf x == some .cell) then NameKind.cell else k
  | [] => rfl
  | (n, k) :: r => by
    have ih := @lookup_relabel env x r
    rw [List.map_cons]
    by_cases hx : x = n
    · subst hx
      have e1 : List.lookup x ((x, k) :: r) = some k := by rw [List.lookup_cons, beq_self_eq_true]
      rw [e1, Option.map_some]
      dsimp only
      split
      · rw [List.lookup_cons, beq_self_eq_true]
      · rw [List.lookup_cons, beq_self_eq_true]
    · have hb : (x == n) = false := by simpa using hx
      have e1 : List.lookup x ((n, k) :: r) = List.lookup x r := by rw [List.lookup_cons, hb]
      rw [e1, ← ih]
      dsimp only
      split
      · rw [List.lookup_cons, hb]
      · rw [List.lookup_cons, hb]
theorem mem_of_look {x : Str} {k : NameKind} : ∀ {names : List (Str × NameKind)}, names.lookup x = some k → (x, k) ∈ names
  | [], h => by simp at h
  | (n, j) :: r, h => by
    rw [List.lookup_cons] at h
    split at h
    · rename_i q; cases h; rw [eq_of_beq q]; exact List.mem_cons_self
    · exact List.mem_cons_of_mem _ (mem_of_look h)

/-! ### the cells that a block makes -/
theorem cf_app : ∀ (names : List (Str × NameKind)) (n : Nat) (acc : List (Str × Addr)), cellsFrom n names acc = cellsFrom n names [] ++ acc
  | [], _, _ => rfl
  | (x, k) :: r, n, acc => by
    unfold cellsFrom
    split
    · rw [cf_app r (n + 1) ((x, n) :: acc), cf_app r (n + 1) [(x, n)], List.append_assoc]; rfl
    · exact cf_app r n acc
theorem cf_mem {x : Str} {c : Addr} : ∀ (names : List (Str × NameKind)) (n : Nat), (x, c) ∈ cellsFrom n names [] → (x, NameKind.cell) ∈ names
  | [], _, h => nomatch h
  | (y, k) :: r, n, h => by
    unfold cellsFrom at h
    split at h
    · rename_i hk
      rw [cf_app] at h
      rcases List.mem_append.mp h with h | h
      · exact List.mem_cons_of_mem _ (cf_mem r (n + 1) h)
      · rw [List.mem_singleton] at h
        cases h
        rw [eq_of_beq hk]
        exact List.mem_cons_self
    · exact List.mem_cons_of_mem _ (cf_mem r n h)
theorem wpAny_compEnv {M : Model} {A : Around} {E : Value → Shared → Prop} {s : Shared} {scope : Scope} {g : Addr} {cl : List (Str × Addr)} {q : Str} {env : PySem.Env} {Q : PySem.Env → Shared → Prop}
    (h : Q (newEnv scope s.heap.objs.size g (cellsFrom (s.heap.objs.size + 1) scope.names cl) q none .none (some env) builtinsNs) { s with heap := pushCells (s.heap.push { cls := .type "dict", data := .dict #[] }) scope.names }) :
    wpAny M A (newFunctionEnv scope g cl [] q none .none (some env)) Q E s := by
  simp only [newFunctionEnv, Option.isSome_some, if_true]
  refine wpAny_bind (wpAny_alloc ?_)
  refine wpAny_bind (wpAny_layCells _ (fun name kind cells => by cases hkc : kind == NameKind.cell <;> simp [hkc]) _ _ _ _ ?_)
  rw [show ({ s with heap := s.heap.push { cls := .type "dict", data := .dict #[] } } : Shared).heap.objs.size = s.heap.objs.size + 1 from Heap.size_push ..]
  exact wpAny_bind (by rw [List.forIn_nil]; exact wpAny_pure (wpAny_pure h))
/-- the cells of a block: its own ones, new and empty, ahead of those that it captures -/
structure OwnC (scope : Scope) (own : List (Str × Addr)) (L : Addr) (h : Heap) : Prop where
  new : ∀ x c, own.lookup x = some c → L < c ∧ h.IsCell c none
  apart : own.Pairwise fun x y => x.2 ≠ y.2
  has : ∀ x, scope.names.lookup x = some .cell → ∃ c, own.lookup x = some c
  free : ∀ x, (x, NameKind.free) ∈ scope.names → own.lookup x = none
theorem ownC_of {scope : Scope} {h : Heap} (hd : ∀ x, (x, NameKind.free) ∈ scope.names → (x, NameKind.cell) ∉ scope.names) :
    OwnC scope (cellsFrom (h.objs.size + 1) scope.names []) h.objs.size (pushCells (h.push { cls := .type "dict", data := .dict #[] }) scope.names) := by
  have ok := cellsFrom_ok scope.names (h.push { cls := .type "dict", data := .dict #[] }) (h.objs.size + 1) [] ⟨fun _ _ hm => (nomatch hm), List.Pairwise.nil⟩ (by rw [Heap.size_push]; exact Nat.le_refl _)
  rw [Heap.size_push] at ok
  refine ⟨fun x c e => ⟨(ok.empty x c (PySem.mem_of_lookup e)).2, (ok.empty x c (PySem.mem_of_lookup e)).1⟩, ok.apart, fun x e => Option.isSome_iff_exists.mp (PySem.W.cellsFrom_some _ _ _ (.inl e)), fun x hx => ?_⟩
  cases q : (cellsFrom (h.objs.size + 1) scope.names []).lookup x with
  | none => rfl
  | some c => exact absurd (cf_mem _ _ (PySem.mem_of_lookup q)) (hd x hx)
/-- the context of a comprehension's block -/
def cxComp (X : Cx) (N : List Str) (scope : Scope) (cl : List (Str × Addr)) (C : Addr) (ex : List Addr) (s : Shared) (H : Hp) : Cx where
  prog := X.prog
  w := X.w
  K := X.K
  mg := X.mg
  base := X.base
  A := X.A
  N := N
  s₀ := s
  H₀ := H
  env := compEnvC scope cl C X.env
  outer := X.stack
  stack := X.stack
  ex := ex
  fn := fun x => scope.names.lookup x == some .cell
  calm := X.calm
  pn := []
  xe := fun _ _ => False
section
variable {X : Cx} {pins : List (Addr × Obj)} {σ : L2.St} {H : Hp} {s : Shared} {N' : List Str} {scope : Scope} {cl : List (Str × Addr)} {fp : List Addr} {k : Nat} {h₁ : Heap} {tk : Nat}
theorem comp_inv {own : List (Str × Addr)} (I : Inv X pins σ H s) (hkind : scope.kind = .function) (hcl1 : ∀ x c, cl.lookup x = some c → X.env.cells.lookup x = some c) (hcl2 : ∀ x, (x, NameKind.free) ∈ scope.names → ∃ c, cl.lookup x = some c)
    (ow : OwnC scope own s.heap.objs.size h₁) (hN : N'.length = X.N.length + k)
    (hcap : ∀ (i : Nat) (x : Str), N'[i]? = some x → i < X.N.length → Vis (relabel scope X.env) x → X.N[i]? = some x ∧ scope.names.lookup x = some .free ∧ X.env.scope.names.lookup x = some .cell)
    (f : ∀ b ∈ fp, FpOk X pins H b) (fo : ∀ b ∈ fp, b < s.heap.objs.size) (hns : h₁.Ns s.heap.objs.size fun _ => none) (hk : ∀ b o, s.heap.get? b = some o → h₁.get? b = some o) :
    Inv (cxComp X N' scope (own ++ cl) s.heap.objs.size fp s H) [] (σ ++ List.replicate k none) H { s with heap := h₁, toks := tk } := by
  have kin : ∀ x, (relabel scope X.env).names.lookup x = (scope.names.lookup x).map fun k => if (k == NameKind.free && X.env.scope.kind == .function && X.env.kindOf x == some .cell) then NameKind.cell else k := fun x => lookup_relabel
  have two : ∀ x c, (own ++ cl).lookup x = some c → own.lookup x = some c ∨ X.env.cells.lookup x = some c := fun x c e => by
    rw [List.lookup_append] at e
    cases q : own.lookup x with
    | none => rw [q] at e; exact .inr (hcl1 x c e)
    | some d => rw [q] at e; exact .inl e
  have cap : ∀ x c, (x, NameKind.free) ∈ scope.names → cl.lookup x = some c → (own ++ cl).lookup x = some c := fun x c hx e => by rw [List.lookup_append, ow.free x hx]; exact e
  have old : ∀ x c, X.env.cells.lookup x = some c → c < s.heap.objs.size := fun x c e => let ⟨_, o, ho, _⟩ := I.cell x c e; Heap.lt_size ho
  have fre : ∀ x, ((relabel scope X.env).names.lookup x = some .cell ∨ (relabel scope X.env).names.lookup x = some .free) → scope.names.lookup x = some .cell ∨ (x, NameKind.free) ∈ scope.names := fun x hx => by
    rw [kin x] at hx
    cases q : scope.names.lookup x with
    | none => rw [q] at hx; simp at hx
    | some k =>
      have hm := mem_of_look q
      cases k with
      | free => exact .inr hm
      | cell => exact .inl rfl
      | _ => rw [q] at hx; simp at hx
  have lt : ∀ b o, X.base.get? b = some o → b < X.s₀.heap.objs.size := fun b o e => Heap.lt_size (I.ok.bs b o e).1
  have okX : (cxComp X N' scope (own ++ cl) s.heap.objs.size fp s H).Ok := by
    refine ⟨I.ok.mod, hkind, I.ok.glob, I.ok.blt, Nat.le_refl _, fun x y c h1 h2 => ?_, fun x hx => ?_, fun x c h e => ?_, I.ok.hd, I.ok.frames, .inl rfl,
      fun b hb => ⟨Nat.ne_of_lt (fo b hb), fun x c e => ?_⟩, fun b o e => I.bs b o e, Nat.le_trans I.ok.bsz I.sz, fun b o e hb => ?_, fun b hb z => ?_, I.stack, I.stkFree⟩
    · rcases two x c h1 with a | a <;> rcases two y c h2 with b | b
      · exact name_of_addr ow.apart (PySem.mem_of_lookup a) (PySem.mem_of_lookup b)
      · exact absurd (Nat.lt_trans (ow.new x c a).1 (old y c b)) (Nat.lt_irrefl _)
      · exact absurd (Nat.lt_trans (ow.new y c b).1 (old x c a)) (Nat.lt_irrefl _)
      · exact I.ok.inj x y c a b
    · rcases fre x hx with z | z
      · obtain ⟨c, hc⟩ := ow.has x z
        exact ⟨c, by show (own ++ cl).lookup x = _; rw [List.lookup_append, hc]; rfl⟩
      · obtain ⟨c, hc⟩ := hcl2 x z
        exact ⟨c, cap x c z hc⟩
    · obtain ⟨d, hd⟩ := ow.has x (eq_of_beq h)
      have e' : (own ++ cl).lookup x = some c := e
      rw [List.lookup_append, hd] at e'
      cases e'
      exact Nat.le_of_lt (ow.new x _ hd).1
    · rcases two x c e with a | a
      · exact Nat.ne_of_gt (Nat.lt_trans (fo b hb) (ow.new x c a).1)
      · exact (f b hb).2.2.2.2.1 x c a
    · rcases (f b hb).2.2.2.1 with z | z
      · exact I.ok.noex b o e z
      · exact absurd (Nat.lt_of_lt_of_le (lt b o e) z) (Nat.lt_irrefl _)
    · rcases List.mem_cons.mp (I.stkSub b z) with z | z
      · exact (f b hb).2.1 z
      · exact (f b hb).2.2.1 z
  refine ⟨okX, rfl, I.bare, Un.kept hk, ⟨_, hns, fun i x v h1 h2 h3 => ?_⟩, fun x c e => ?_, I.hok.fresh (Nat.le_refl _), fun x c e => ?_, fun p hp => absurd (show p ∈ ([] : List (Addr × Obj)) from hp) (by simp), I.hok.kept hk, ?_⟩
  · have hi : i < σ.length := by
      by_cases hi : i < σ.length
      · exact hi
      · rw [List.getElem?_append_right (by omega), List.getElem?_replicate] at h2
        split at h2 <;> cases h2
    have hi' : i < X.N.length := by rw [← I.len]; exact hi
    rw [List.getElem?_append_left hi] at h2
    obtain ⟨e1, e2, e3⟩ := hcap i x h1 hi' h3
    obtain ⟨m, _, hl⟩ := I.loc
    obtain ⟨u, ru, lk⟩ := hl i x v e1 h2 (.inr (.inl e3))
    refine ⟨u, ru, ?_⟩
    have e3' : X.env.kindOf x = some .cell := e3
    rcases lk with ⟨z, _⟩ | ⟨_, c, hc, hcell⟩
    · rw [e3'] at z; cases z
    · obtain ⟨c', hc'⟩ := hcl2 x (mem_of_look e2)
      have := hcl1 x c' hc'
      rw [hc] at this; cases this
      refine .inr ⟨.inl ?_, c, cap x c (mem_of_look e2) hc', ?_⟩
      · show (relabel scope X.env).names.lookup x = some .cell
        rw [kin x, e2, Option.map_some, e3', I.ok.kind]
        rfl
      · obtain ⟨o, ho, hd⟩ := hcell
        exact ⟨o, hk _ _ ho, hd⟩
  · rcases two x c e with a | a
    · exact ⟨none, (ow.new x c a).2⟩
    · obtain ⟨v, o, ho, hd⟩ := I.cell x c a
      exact ⟨v, o, hk _ _ ho, hd⟩
  · rcases two x c e with a | a
    · exact I.hok.fresh (Nat.le_of_lt (ow.new x c a).1)
    · exact I.freeC x c a
  · show (σ ++ List.replicate k none).length = N'.length
    rw [List.length_append, List.length_replicate, I.len, hN]

/-- whatever the block has done to its names: they can be taken as at its beginning -/
theorem comp_reset {own : List (Str × Addr)} {pins' : List (Addr × Obj)} {σ' : L2.St} {H' : Hp} {s' : Shared} (I : Inv X pins σ H s) (hcl1 : ∀ x c, cl.lookup x = some c → X.env.cells.lookup x = some c) (hcl2 : ∀ x, (x, NameKind.free) ∈ scope.names → ∃ c, cl.lookup x = some c)
    (hof : ∀ x, (x, NameKind.free) ∈ scope.names → own.lookup x = none) (hN : N'.length = X.N.length + k)
    (hcap : ∀ (i : Nat) (x : Str), N'[i]? = some x → i < X.N.length → Vis (relabel scope X.env) x → X.N[i]? = some x ∧ scope.names.lookup x = some .free ∧ X.env.scope.names.lookup x = some .cell)
    (J : Inv (cxComp X N' scope (own ++ cl) s.heap.objs.size fp s H) pins' σ' H' s') : Inv (cxComp X N' scope (own ++ cl) s.heap.objs.size fp s H) pins' (σ ++ List.replicate k none) H' s' := by
  obtain ⟨m, hm, _⟩ := J.loc
  refine ⟨J.ok, J.os, J.bare, J.base, ⟨m, hm, fun i x v h1 h2 h3 => ?_⟩, J.cell, J.free, J.freeC, J.pin, J.hok, ?_⟩
  · have hi : i < σ.length := by
      by_cases hi : i < σ.length
      · exact hi
      · rw [List.getElem?_append_right (by omega), List.getElem?_replicate] at h2
        split at h2 <;> cases h2
    have hi' : i < X.N.length := by rw [← I.len]; exact hi
    rw [List.getElem?_append_left hi] at h2
    obtain ⟨e1, e2, e3⟩ := hcap i x h1 hi' h3
    obtain ⟨_, _, hl⟩ := I.loc
    obtain ⟨u, ru, lk⟩ := hl i x v e1 h2 (.inr (.inl e3))
    refine ⟨u, ru, ?_⟩
    have e3' : X.env.kindOf x = some .cell := e3
    rcases lk with ⟨z, _⟩ | ⟨_, c, hc, hcell⟩
    · rw [e3'] at z; cases z
    · obtain ⟨c', hc'⟩ := hcl2 x (mem_of_look e2)
      have := hcl1 x c' hc'
      rw [hc] at this; cases this
      have hc2 : (own ++ cl).lookup x = some c := by rw [List.lookup_append, hof x (mem_of_look e2)]; exact hc'
      refine .inr ⟨.inl ?_, c, hc2, ?_⟩
      · show (relabel scope X.env).names.lookup x = some .cell
        rw [show (relabel scope X.env).names.lookup x = _ from lookup_relabel, e2, Option.map_some, e3', I.ok.kind]
        rfl
      · obtain ⟨o, ho, hd⟩ := hcell
        have hx : c ∉ fp := fun z => ((J.ok.exf c z).2 x c hc2) rfl
        obtain ⟨sl, hs⟩ := J.base.any ho (I.freeC x c hc) hx
        exact ⟨_, hs, hd⟩
  · show (σ ++ List.replicate k none).length = N'.length
    rw [List.length_append, List.length_replicate, I.len, hN]
end

section
variable {A : Around} {prog : Program} {w : World} {s : Shared} {R : Result → Shared → Prop}
theorem compLoop_any {el tg itr : Expr} {cs : List Expr} {sc : Scope} {ps : Pos} {itv ac : Value} {en : PySem.Env} (I : Nat → Shared → Prop)
    (turn : ∀ n s, I n s → wpAny (model prog w) A (pyNext itv) (fun r s₁ => match r with
      | none => R (.ok .next) s₁
      | some v => wpAny (model prog w) A (letOwnedTupleGo tg itv v) (fun _ s₁' => wpAny (model prog w) A (assign tg en v) (fun _ s₂ =>
          wpAny (model prog w) A (forIn cs true fun c r => if r = true then do let ok ← isTrue c en (eval c en); pure (ForInStep.yield ok) else pure (ForInStep.yield r)) (fun ok s₃ =>
            if ok = true then wpAny (model prog w) A (eval el en) (fun x s₄ =>
              wpAny (model prog w) A (call (.builtin "list.append") [ac, x]) (fun _ s₅ => ∃ m, m < n ∧ I m s₅) (fun _ _ => False) s₄) (fun _ _ => False) s₃
            else ∃ m, m < n ∧ I m s₃) (fun _ _ => False) s₂) (fun _ _ => False) s₁') (fun _ _ => False) s₁) (fun _ _ => False) s)
    (n : Nat) (h : I n s) : codeAny (model prog w) A (.compLoop (.ListComp el [⟨tg, itr, cs, 0⟩] sc ps) 0 itv ac en) R s := by
  refine codeAny_loop rfl I (fun n s hn => ?_) n h
  show wpAny _ A ((compTurn (.ListComp el [⟨tg, itr, cs, 0⟩] sc ps) 0 itv ac en).onRaise (fun x => do noteFrame x en; theTreesLotGoes x)) _ _ s
  refine wpAny_noted ?_
  rw [compTurn_list]
  refine wpAny_bind (wpAny_standAt (wpAny_bind (wpAny_mono (turn n s hn) (fun r s₁ h₁ => ?_) fun _ _ z => False.elim z)))
  cases r with
  | none => exact wpAny_pure h₁
  | some v =>
    refine wpAny_bind (wpAny_mono h₁ (fun _ s₁' h₁' => ?_) fun _ _ z => False.elim z)
    refine wpAny_bind (wpAny_mono h₁' (fun _ s₂ h₂ => wpAny_bind (wpAny_mono h₂ (fun ok s₃ h₃ => ?_) fun _ _ z => False.elim z)) fun _ _ z => False.elim z)
    cases ok with
    | false => exact (wpAny_pure ⟨rfl, h₃⟩)
    | true =>
      exact wpAny_bind (wpAny_bind (wpAny_mono h₃ (fun x s₄ h₄ => wpAny_bind (wpAny_mono h₄ (fun _ s₅ h₅ => wpAny_pure (wpAny_pure ⟨rfl, h₅⟩)) fun _ _ z => False.elim z)) fun _ _ z => False.elim z))
end

/-- J walks the items l while all that is in Hk stands -/
structure JOkH (K : PySem.W.Frag) (G Hk : Hp) (J : It) (l : List D) : Prop where
  go : ∀ (i : Nat) (G1 H1 : Hp), Same G G1 → Same G1 H1 → Same Hk H1 → i < l.length → J.go i H1
  yl : ∀ (i : Nat) (G1 H1 : Hp) (x : V) (H2 : Hp), Same G G1 → Same G1 H1 → Same Hk H1 → i < l.length → J.yld i H1 x H2 → ∃ (G2 : Hp) (d : D), Ext G1 H1 G2 H2 ∧ l[i]? = some d ∧ Den K G2 x d
  st : ∀ (i : Nat) (G1 H1 : Hp), Same G G1 → Same G1 H1 → Same Hk H1 → l.length ≤ i → J.stop i H1
theorem JOk.h {K : PySem.W.Frag} {G Hk : Hp} {J : It} {l : List D} (j : JOk K G J l) : JOkH K G Hk J l :=
  ⟨fun i G1 H1 a b _ => j.go i G1 H1 a b, fun i G1 H1 x H2 a b _ => j.yl i G1 H1 x H2 a b, fun i G1 H1 a b _ => j.st i G1 H1 a b⟩
def lIh (K : PySem.W.Frag) (t : TId) : TI := fun σ H R2 => ∃ (n : En) (δ : Ev) (G : Hp) (Q : List D → Ev → Prop), Rel K n δ σ G H ∧ t δ Q ∧
  ∀ (J : It) (G' H' : Hp) (l : List D) (δ' : Ev), Rel K n δ' σ G' H' → Same G G' → JOkH K G' H' J l → Q l δ' → R2 J H'
abbrev DIh (X : Cx) (tg iter : Expr) (t : TId) : Prop := PI X tg iter (lIh X.K t)
/-- the tests of a comprehension -/
def DTs (X : Cx) (ifs : List Expr) (t : TTd) : Prop :=
  ∀ (pins : List (Addr × Obj)) (s : Shared) (σ : L2.St) (H : Hp) (Q : Bool → Hp → Prop), Inv X pins σ H s → lT X.K t σ H Q →
    wpAny (model X.prog X.w) X.A (forIn ifs true fun c r => if r = true then do let ok ← isTrue c X.env (eval c X.env); pure (ForInStep.yield ok) else pure (ForInStep.yield r)) (TP X pins σ Q) X.xe s
def dYes : TTd := fun δ Q => Q true δ
theorem dts_nil {X : Cx} : DTs X [] dYes := fun pins s σ H Q I ⟨n, δ, G, Qd, R, h, k⟩ => wpAny_tests_nil ⟨H, I, k true G H δ R (Same.refl _) h⟩
/-- [elt for target in iter if ..]: F tells what comes of each item, None: nothing -/
def dComp (k : Nat) (ti : TId) (g : TGd) (tt : TTd) (te : TEd) : TEd := fun δ Q => ti δ fun items δ1 => ∃ F : D → Option D,
  (∀ d ∈ items, g d (dropOw δ1 ++ List.replicate k .no) fun δ2 => tt δ2 fun b δ3 => if b = true then te δ3 fun y _ => F d = some y else F d = none) ∧
    (items.filterMap F).length ≤ sizeLine ∧ Q (.lst (items.filterMap F)) δ1
theorem fm_take {α β : Type} (F : α → Option β) (l : List α) (i : Nat) (d : α) (h : l[i]? = some d) : (l.take (i + 1)).filterMap F = (l.take i).filterMap F ++ (F d).toList := by
  rw [List.take_add_one, h, List.filterMap_append]
  cases q : F d <;> simp [q]
theorem fm_le {α β : Type} (F : α → Option β) (l : List α) (i : Nat) : ((l.take i).filterMap F).length ≤ (l.filterMap F).length := by
  conv => rhs; rw [← List.take_append_drop i l]
  rw [List.filterMap_append, List.length_append]
  omega
/-- the block's frame goes: nothing else has changed -/
theorem comp_end {X : Cx} {pins : List (Addr × Obj)} {s : Shared} {σ : L2.St} {H : Hp} {C : Addr} {h' : Heap} (I : Inv X pins σ H s) (f : FpOk X pins H C) (hs : Heap.SameBut C s.heap h') : Inv X pins σ H { s with heap := h' } := by
  have same : ∀ b o, b ≠ C → s.heap.get? b = some o → h'.get? b = some o := fun b o hb e => (hs.2 b hb).trans e
  have ne : ∀ b, b ∉ [C] → b ≠ C := fun b hb z => hb (by rw [z]; exact List.mem_singleton.mpr rfl)
  refine I.call' (s' := { s with heap := h' }) (ch := [C]) rfl ⟨fun b o e _ _ n3 => same b o (ne b n3) e, fun b o e _ _ n3 => ⟨o.slots, same b o (ne b n3) e⟩, fun b o _ n _ => n, fun b o e n3 => ⟨o, same b o (ne b n3) e⟩, fun _ _ e => e, fun _ _ _ e => e, fun b ps e => ⟨#[], by rw [Array.append_empty]; exact e⟩⟩ (fun a o e => ?_) I.bare fun b hb => ?_
  · have nC : ∀ b u, H b = some u → b ≠ C := fun b u q z => by rw [z, f.1] at q; cases q
    refine (I.hok a o e).stay (fun b u hb q => same b u ?_ q) (fun _ q => q) fun _ _ q => q
    rcases hb with rfl | hb
    · exact nC _ _ e
    · exact nC _ _ hb
  · rcases List.mem_singleton.mp hb with rfl
    exact ⟨f.2.2.2.1, f.2.1, f.2.2.2.2.1, f.2.2.2.2.2⟩
end Dl
namespace Dl
open PySem PySem.Spec PyProof.Rows L2
/-- the scope of a block within the scope o -/
def rlb (sc o : Scope) : Scope :=
  { sc with names := sc.names.map fun (n, k) => if (k == .free && o.kind == .function && o.names.lookup n == some .cell) then (n, .cell) else (n, k) }
/-- what a comprehension's scope asks, to be decided -/
def compOk (N : List Str) (sc : Scope) (N' : List Str) (scope : Scope) (k : Nat) : Bool :=
  (scope.kind == .function) && scope.names.all (fun y => (y.2 != .local) || (scope.names.lookup y.1 == some .local)) && scope.names.all (fun y => (y.2 != .free) || !(scope.names.any fun z => z.1 == y.1 && z.2 == .cell)) && (N'.length == N.length + k) &&
  scope.names.all (fun y => (y.2 != .free) || (sc.names.lookup y.1 == some .cell)) &&
  (List.range N.length).all (fun i => match N'[i]? with
    | some x => (match scope.names.lookup x with
      | some .local => false
      | some .cell => false
      | some .free => N[i]? == some x
      | _ => true)
    | none => true)
section
variable {X : Cx} {pos : Pos}
def gdTup2 (i j : Nat) : TGd := fun d δ Q => match d with
  | .tup [x, y] => Q ((δ.set i (.sh x)).set j (.sh y))
  | _ => False
end
end Dl

namespace Dl
open PySem PySem.Spec PyProof.Rows L2
/-! ## isinstance, chains, a written list times a number -/
def is_int : D → Bool
  | .non => false
  | .bl _ => true
  | .int _ => true
  | .str _ => false
  | .tup _ => false
  | .lst _ => false
def is_bool : D → Bool
  | .non => false
  | .bl _ => true
  | .int _ => false
  | .str _ => false
  | .tup _ => false
  | .lst _ => false
def is_tuple : D → Bool
  | .non => false
  | .bl _ => false
  | .int _ => false
  | .str _ => false
  | .tup _ => true
  | .lst _ => false
def is_list : D → Bool
  | .non => false
  | .bl _ => false
  | .int _ => false
  | .str _ => false
  | .tup _ => false
  | .lst _ => true
def is_str : D → Bool
  | .non => false
  | .bl _ => false
  | .int _ => false
  | .str _ => true
  | .tup _ => false
  | .lst _ => false
section
variable {X : Cx} {e : Expr} {te : TEd} {pos p q : Pos}
def rIsi (K : PySem.W.Frag) (T : String) (f : D → Bool) : List V → Hp → VK → Prop := fun xs H Q => ∃ x G d, xs = [x, .ty T] ∧ Same G H ∧ Den K G x d ∧ Q (.bl (f d)) H
def dIsi (f : D → Bool) (te : TEd) : TEd := fun δ Q => te δ fun d δ1 => Q (.bl (f d)) δ1
theorem is_int_non : is_int (D.non) = false := rfl
theorem is_int_bl {b : Bool} : is_int (D.bl b) = true := rfl
theorem is_int_int {i : Int} : is_int (D.int i) = true := rfl
theorem is_int_str {x : Str} : is_int (D.str x) = false := rfl
theorem is_int_tup {l : List D} : is_int (D.tup l) = false := rfl
theorem is_int_lst {l : List D} : is_int (D.lst l) = false := rfl
theorem is_bool_non : is_bool (D.non) = false := rfl
theorem is_bool_bl {b : Bool} : is_bool (D.bl b) = true := rfl
theorem is_bool_int {i : Int} : is_bool (D.int i) = false := rfl
theorem is_bool_str {x : Str} : is_bool (D.str x) = false := rfl
theorem is_bool_tup {l : List D} : is_bool (D.tup l) = false := rfl
theorem is_bool_lst {l : List D} : is_bool (D.lst l) = false := rfl
theorem is_tuple_non : is_tuple (D.non) = false := rfl
theorem is_tuple_bl {b : Bool} : is_tuple (D.bl b) = false := rfl
theorem is_tuple_int {i : Int} : is_tuple (D.int i) = false := rfl
theorem is_tuple_str {x : Str} : is_tuple (D.str x) = false := rfl
theorem is_tuple_tup {l : List D} : is_tuple (D.tup l) = true := rfl
theorem is_tuple_lst {l : List D} : is_tuple (D.lst l) = false := rfl
theorem is_list_non : is_list (D.non) = false := rfl
theorem is_list_bl {b : Bool} : is_list (D.bl b) = false := rfl
theorem is_list_int {i : Int} : is_list (D.int i) = false := rfl
theorem is_list_str {x : Str} : is_list (D.str x) = false := rfl
theorem is_list_tup {l : List D} : is_list (D.tup l) = false := rfl
theorem is_list_lst {l : List D} : is_list (D.lst l) = true := rfl
theorem is_str_non : is_str (D.non) = false := rfl
theorem is_str_bl {b : Bool} : is_str (D.bl b) = false := rfl
theorem is_str_int {i : Int} : is_str (D.int i) = false := rfl
theorem is_str_str {x : Str} : is_str (D.str x) = true := rfl
theorem is_str_tup {l : List D} : is_str (D.tup l) = false := rfl
theorem is_str_lst {l : List D} : is_str (D.lst l) = false := rfl

/-! ### [..] * n -/
variable {es : List Expr} {b : Expr} {tb : TEd} {ta : TAd}
def dRep (ta : TAd) (tb : TEd) : TEd := fun δ Q => ta δ fun xs δ1 => xs.length ≤ 1000 ∧ tb δ1 fun y δ2 => match y with
  | .int k => -1000000 ≤ k ∧ k ≤ 10000 ∧ Q (.lst (List.replicate k.toNat xs).flatten) δ2
  | _ => False
theorem DenL.rep {K : PySem.W.Frag} {G : Hp} {vs : List V} {ds : List D} (h : DenL K G vs ds) : ∀ k : Nat, DenL K G (List.replicate k vs).flatten (List.replicate k ds).flatten
  | 0 => .nil
  | k + 1 => by
    rw [List.replicate_succ, List.flatten_cons, List.replicate_succ, List.flatten_cons]
    exact h.append (DenL.rep h k)
theorem de_rep {lp : Pos} (ha : DA X es ta) (hb : DE X b tb) : DE X (.BinOp (.List es lp) .Mult b pos) (dRep ta tb) :=
  pe_imp (pe_op op_rep (L2.pe_lst ha) hb) fun σ H Q2 ⟨n, δ, G, Q, R, h, k⟩ => ⟨n, δ, G, _, R, h, fun vs G1 H1 ds δ1 R1 s1 d1 ⟨h1, h2⟩ => ⟨by rw [d1.length]; exact Nat.le_trans h1 (by decide), fun p hp => by
    have sG : Same G1 (upd G1 p (.lst vs)) := same_upd (R1.sub.free hp) _
    refine ⟨n, δ1, upd G1 p (.lst vs), _, R1.laid hp _, h2, fun w G3 H3 y δ3 R3 s3 d3 h3 => ?_⟩
    split at h3
    · rename_i i
      cases d3.int_inv
      have hp3 : H3 p = some (.lst vs) := R3.sub _ _ (s3 _ _ upd_same)
      have hl := d1.length
      have hk : vs.length * i.toNat ≤ sizeLine := by
        have : vs.length * i.toNat ≤ 1000 * 10000 := Nat.mul_le_mul (by omega) (by omega)
        exact Nat.le_trans this (by decide)
      refine ⟨p, i, vs, rfl, rfl, hp3, by omega, by omega, hk, fun q hq => ?_⟩
      exact k _ _ _ _ δ3 (R3.laid hq _) (s1.trans (sG.trans (s3.trans (same_upd (R3.sub.free hq) _)))) (.lst (SqL.of upd_same) (((d1.up (sG.trans s3)).rep _).up (same_upd (R3.sub.free hq) _))) h3.2.2
    · exact h3.elim⟩⟩
/-! ### a < b <= c -/
variable {a c : Expr} {ta' tc : TEd}
def dChain (p p' : Int → Int → Bool) (ta tb tc : TEd) : TEd := fun δ Q => ta δ fun x δ1 => tb δ1 fun y δ2 => match x, y with
  | .int i, .int j => if p i j = true then tc δ2 fun z δ3 => match z with
      | .int k => Q (.bl (p' j k)) δ3
      | _ => False
    else Q (.bl false) δ2
  | _, _ => False
end
end Dl

namespace Dl
open PySem PySem.Spec PyProof.Rows L2
/-! ## target = value, name op= value, more names, // and % by any number -/
section
variable {X : Cx} {a b e : Expr} {ta tb te : TEd} {pos : Pos}
def dAsg (te : TEd) (g : TGd) : TSd := fun E δ => te δ fun d δ1 => g d δ1 E.nx
def dAug (i : Nat) (f : Int → Int → Int) (te : TEd) : TSd := fun E δ => match δ[i]? with
  | some (.sh (.int x)) => te δ fun y δ1 => match y with
    | .int j => E.nx (δ1.set i (.sh (.int (f x j))))
    | _ => False
  | _ => False
/-! ### (a, b, c), (a, b, c, d) -/
def gdTup3 (i j l : Nat) : TGd := fun d δ Q => match d with
  | .tup [x, y, z] => Q (((δ.set i (.sh x)).set j (.sh y)).set l (.sh z))
  | _ => False
def gdTup4 (i j l m : Nat) : TGd := fun d δ Q => match d with
  | .tup [x, y, z, w] => Q ((((δ.set i (.sh x)).set j (.sh y)).set l (.sh z)).set m (.sh w))
  | _ => False
/-! ### xs.extend(l) of a list of one's own -/
def dExt (i : Nat) (te : TEd) : TSd := fun E δ => match δ[i]? with
  | some (.ow _) => te δ fun d δ1 => match δ1[i]?, d with
    | some (.ow l), .lst m => l.length + m.length ≤ sizeLine ∧ E.nx (δ1.set i (.ow (l ++ m)))
    | _, _ => False
  | _ => False
end
/-! ### sum(xs) of ints -/
section
variable {X : Cx} {e : Expr} {es : List Expr} {t : TAd} {p pos : Pos}
def intsF : List D → Option (List Int)
  | [] => some []
  | .int i :: r => (intsF r).map (i :: ·)
  | _ :: _ => none
def cSum : RC := fun ds Q => match ds with
  | [.lst l] => ∃ ns, intsF l = some ns ∧ Q (.int ns.sum)
  | _ => False
end
end Dl

namespace Dl
open PySem L2
/-! ## readings of more constructs -/
def dSlG (te : TEd) (tl th : TOd) : TEd := fun δ Q => te δ fun x δ1 => tl δ1 fun l δ2 => th δ2 fun u δ3 => ∃ d, slF x l u = some d ∧ Q d δ3
def stepTake (k : Nat) (l : List D) : List D := (List.range ((l.length + k - 1) / k)).filterMap fun i => l[k * i]?
def dSlS (k : Nat) (te : TEd) : TEd := fun δ Q => te δ fun x δ1 => match x with
  | .lst l => Q (.lst (stepTake k l)) δ1
  | _ => False
def boolsF : List D → Option (List Bool)
  | [] => some []
  | .bl i :: r => (boolsF r).map (i :: ·)
  | _ :: _ => none
theorem boolsF_some : ∀ {l : List D} {ns : List Bool}, boolsF l = some ns → l = ns.map D.bl
  | [], ns, h => by cases h; rfl
  | .bl i :: r, ns, h => by
    unfold boolsF at h
    cases q : boolsF r with
    | none => rw [q] at h; cases h
    | some m => rw [q] at h; cases h; rw [boolsF_some q]; rfl
def cAll : RC := fun ds Q => match ds with
  | [.lst l] => ∃ bs, boolsF l = some bs ∧ Q (.bl (bs.all id))
  | _ => False
def lstF : D → Option (List D)
  | .lst l => some l
  | _ => none
theorem lstF_lst {l : List D} : lstF (.lst l) = some l := rfl
def cSorted : RC := fun ds Q => match ds with
  | [d] => ∃ l, seqF d = some l ∧ ∃ ns, intsF l = some ns ∧ ns.length < 64 ∧ ∀ ms : List Int, ms.Perm ns → ms.Pairwise (· ≤ ·) → Q (.lst (ms.map D.int))
  | _ => False
def cMinL : RC := fun ds Q => match ds with
  | [d] => ∃ l, lstF d = some l ∧ ∃ ns, intsF l = some ns ∧ ns ≠ [] ∧ ns.length < 64 ∧ ∀ m : Int, m ∈ ns → (∀ x ∈ ns, m ≤ x) → Q (.int m)
  | _ => False
def cSortSet : RC := fun ds Q => match ds with
  | [d] => ∃ l, seqF d = some l ∧ ∃ ns, intsF l = some ns ∧ ns.length < 64 ∧ ∀ ms : List Int, ms.Pairwise (· < ·) → (∀ t, t ∈ ms ↔ t ∈ ns) → Q (.lst (ms.map D.int))
  | _ => False
def cLenSet : RC := fun ds Q => match ds with
  | [d] => ∃ l, lstF d = some l ∧ ∃ ns, intsF l = some ns ∧ ns.length < 64 ∧ ∀ ms : List Int, ms.Pairwise (· < ·) → (∀ t, t ∈ ms ↔ t ∈ ns) → Q (.int ms.length)
  | _ => False
def enumL (l : List D) : List D := (List.range l.length).map fun i => .tup [.int ((i : Nat) : Int), l.getD i .non]
def diEnum (ta : TAd) : TId := fun δ Q => ta δ fun ds δ1 => match ds with
  | [d] => ∃ l, seqF d = some l ∧ Q (enumL l) δ1
  | _ => False
def gdLst3 (i j l : Nat) : TGd := fun d δ Q => match d with
  | .lst [x, y, z] => Q (((δ.set i (.sh x)).set j (.sh y)).set l (.sh z))
  | _ => False
/-- the signs of a written text -/
def signL (x : Str) : List D := x.cps.toList.map fun c => .str ⟨#[c]⟩
def atS (x : Str) : D → Option D
  | .int i => if 0 ≤ i then (signL x)[i.toNat]? else none
  | _ => none
theorem atS_int {x : Str} {i : Int} : atS x (.int i) = if 0 ≤ i then (signL x)[i.toNat]? else none := rfl
def dSign (x : Str) (te : TEd) : TEd := fun δ Q => te δ fun d δ1 => ∃ e, atS x d = some e ∧ Q e δ1
def diSigns (x : Str) : TId := fun δ Q => Q (signL x) δ
def cMinD (c : Int) : RC := fun ds Q => match ds with
  | [d] => ∃ l, lstF d = some l ∧ ∃ ns, intsF l = some ns ∧ ns.length < 64 ∧ (ns = [] → Q (.int c)) ∧ ∀ m : Int, m ∈ ns → (∀ x ∈ ns, m ≤ x) → Q (.int m)
  | _ => False
end Dl

namespace Dl
open PySem PySem.Spec PyProof.Rows L2
def notStar : Expr → Bool
  | .Starred .. => false
  | _ => true
theorem star_cons {e : Expr} {es : List Expr} {env : Env} (h : notStar e = true) : starEach (e :: es) env = (false, eval e env) :: starEach es env := by
  cases e <;> first | rfl | cases h
section
variable {X : Cx} {e : Expr} {es : List Expr} {te : TEd} {t : TAd}
theorem da_consL (ha : DE X e te) (hr : DA X es t) (h : notStar e = true := by rfl) : DA X (e :: es) (dCons te t) := da_cons ha hr (star_cons h)
end
end Dl

namespace Dl
open PySem PySem.Spec PyProof.Rows L2

/-! ## Promises of defs that are handed things to change -/
/-- what is handed in: a value, an instance, a list that may be changed; x: nothing is known -/
inductive Ar where
  | v (d : D) | o (C : Nat) (fs : List (Str × Fl)) | l (xs : List D) | x | r (fs : List (Str × Fl))
  deriving Inhabited
abbrev SpO := List Ar → (D → List Ar → Prop) → Prop
def slA (h : Nat) : Ar → Sl
  | .v d => .sh d
  | .o C fs => .ob (some h) C fs
  | .l xs => .mu h xs
  | .x => .no
  | .r fs => .rc (some h) fs
/-- the slots at the entry -/
def entO (hs : Nat → Nat) : Nat → List Ar → List Sl
  | _, [] => []
  | i, a :: r => slA (hs i) a :: entO hs (i + 1) r
def startO (N : List Str) (hs : Nat → Nat) (as : List Ar) : Ev := entO hs 0 as ++ List.replicate (N.length - as.length) Sl.no
/-- what became of them -/
def outA (h : Nat) : Ar → Option Sl → Ar
  | .v d, _ => .v d
  | .o _ _, some (.ob (some a) C' fs') => if a = h then .o C' fs' else .x
  | .l _, some (.mu a ys) => if a = h then .l ys else .x
  | .r _, some (.rc (some a) fs') => if a = h then .r fs' else .x
  | _, _ => .x
def outO (hs : Nat → Nat) : Nat → List Ar → Ev → List Ar
  | _, [], _ => []
  | i, a :: r, δ => outA (hs i) a δ[i]? :: outO hs (i + 1) r δ
/-- an argument: a value, or what a name holds -/
inductive Ax where
  | v (d : D) | at (j : Nat)
abbrev TAo := Ev → (List Ax → Ev → Prop) → Prop
def atsOf : List Ax → List Nat
  | [] => []
  | .v _ :: r => atsOf r
  | .at j :: r => j :: atsOf r
def inA (δ : Ev) : Ax → Ar
  | .v d => .v d
  | .at j => match δ[j]? with
    | some (.ob _ C fs) => .o C fs
    | some (.ow l) => .l l
    | some (.mu _ l) => .l l
    | some (.sh d) => .v d
    | some (.rc _ fs) => .r fs
    | _ => .x
def upA : Sl → Option Ar → Sl
  | .ob h _ _, some (.o C fs) => .ob h C fs
  | .ow _, some (.l ys) => .ow ys
  | .mu a _, some (.l ys) => .mu a ys
  | .rc h _, some (.r fs) => .rc h fs
  | .sh d, _ => .sh d
  | _, _ => .no
def setO : Ev → List Ax → List Ar → Ev
  | δ, [], _ => δ
  | δ, .v _ :: r, os => setO δ r os.tail
  | δ, .at j :: r, os => setO (match δ[j]? with | some s => δ.set j (upA s os.head?) | none => δ) r os.tail
def dCallO (S : SpO) (t : TAo) : TEd := fun δ Q => t δ fun axs δ1 => (atsOf axs).Nodup ∧ S (axs.map (inA δ1)) fun d outs => Q d (setO δ1 axs outs)
def dMeth (i : Nat) (C : Nat) (m : Str) (S : SpO) (t : TAo) : TEd := fun δ Q => match δ[i]? with
  | some (.ob _ C' fs) => C' = C ∧ fs.lookup m = none ∧ t δ fun axs δ1 => (i :: atsOf axs).Nodup ∧ S (inA δ1 (.at i) :: axs.map (inA δ1)) fun d outs => Q d (setO δ1 (.at i :: axs) outs)
  | _ => False
def dMake (i : Nat) (C : Nat) (S : SpO) (t : TAd) : TSd := fun E δ => t δ fun ds δ1 => S (.o C [] :: ds.map .v) fun d outs => match d, outs with
  | .non, .o C' fs :: _ => E.nx (δ1.set i (.ob none C' fs))
  | _, _ => False
def aNil : TAo := fun δ Q => Q [] δ
def aCons (te : TEd) (t : TAo) : TAo := fun δ Q => te δ fun d δ1 => t δ1 fun axs δ2 => Q (.v d :: axs) δ2
def aAt (j : Nat) (t : TAo) : TAo := fun δ Q => t δ fun axs δ1 => Q (.at j :: axs) δ1

def ArW (K : PySem.W.Frag) (G H : Hp) (ow : Ow) (i : Nat) (v : V) : Ar → Prop
  | .v d => Den K G v d
  | .o C fs => ∃ a dx vfs, v = .ref a ∧ H a = some (.ins C dx vfs) ∧ H dx = some (.own a) ∧ ow a = some (i, ("" : Str)) ∧ ow dx = some (i, ("" : Str)) ∧ FsW K G H ow i vfs fs
  | .l xs => ∃ a vs, v = .ref a ∧ H a = some (.lst vs) ∧ ow a = some (i, ("" : Str)) ∧ DenL K G vs xs
  | .x => True
  | .r fs => ∃ a vfs, v = .ref a ∧ H a = some (.dK (vfs.map kx)) ∧ ow a = some (i, ("" : Str)) ∧ FsW K G H ow i vfs fs
/-- from one heap to a later one: all but M is as it was -/
structure ExtM (M : Addr → Prop) (G H G' H' : Hp) : Prop where
  gg : Same G G'
  gh : Same G' H'
  hh : ∀ b o, H b = some o → ¬ M b → H' b = some o
  al : ∀ b, H' b = none → H b = none
  fr : ∀ b o, G' b = some o → G b = none → H b = none
structure ArsW (K : PySem.W.Frag) (G H : Hp) (ow : Ow) (vs : List V) (as : List Ar) : Prop where
  at_ : ∀ k a v, as[k]? = some a → vs[k]? = some v → ArW K G H ow k v a
def spO (K : PySem.W.Frag) (S : SpO) : Sp := fun vs H Q _ => ∃ (G : Hp) (as : List Ar) (Qd : D → List Ar → Prop) (ow : Ow), Same G H ∧ as.length = vs.length ∧ ArsW K G H ow vs as ∧ (∀ p k, ow p = some k → G p = none ∧ H p ≠ none) ∧ S as Qd ∧
  ∀ (v : V) (G' H' : Hp) (d : D) (outs : List Ar) (ow' : Ow), ExtM (fun p => ow p ≠ none) G H G' H' → Den K G' v d → ArsW K G' H' ow' vs outs → (∀ p k, ow' p = some k → G' p = none ∧ H' p ≠ none ∧ (H p = none ∨ ow p ≠ none)) → Qd d outs → Q v H'

theorem entO_get (hs : Nat → Nat) : ∀ (as : List Ar) (i k : Nat), (entO hs i as)[k]? = (as[k]?).map (slA (hs (i + k)))
  | [], i, k => by simp [entO]
  | a :: r, i, 0 => by simp [entO]
  | a :: r, i, k + 1 => by simp only [entO, List.getElem?_cons_succ]; rw [entO_get hs r (i + 1) k]; congr 2; congr 1; omega
theorem entO_len (hs : Nat → Nat) : ∀ (as : List Ar) (i : Nat), (entO hs i as).length = as.length
  | [], i => rfl
  | a :: r, i => by simp [entO, entO_len hs r]
theorem outO_get (hs : Nat → Nat) (δ : Ev) : ∀ (as : List Ar) (i k : Nat), (outO hs i as δ)[k]? = (as[k]?).map fun a => outA (hs (i + k)) a δ[i + k]?
  | [], i, k => by simp [outO]
  | a :: r, i, 0 => by simp [outO]
  | a :: r, i, k + 1 => by
    simp only [outO, List.getElem?_cons_succ]; rw [outO_get hs δ r (i + 1) k]
    have : i + 1 + k = i + (k + 1) := by omega
    rw [this]
theorem setO_get : ∀ (axs : List Ax) (δ : Ev) (outs : List Ar) (j : Nat) (s' : Sl), (atsOf axs).Nodup → (setO δ axs outs)[j]? = some s' →
    (j ∉ atsOf axs ∧ δ[j]? = some s') ∨ ∃ (k : Nat) (s : Sl), axs[k]? = some (Ax.at j) ∧ δ[j]? = some s ∧ s' = upA s outs[k]?
  | [], δ, outs, j, s', _, h => .inl ⟨by simp [atsOf], h⟩
  | .v d :: r, δ, outs, j, s', nd, h => by
    rcases setO_get r δ outs.tail j s' nd h with ⟨h1, h2⟩ | ⟨k, s, h1, h2, h3⟩
    · exact .inl ⟨h1, h2⟩
    · exact .inr ⟨k + 1, s, by simpa using h1, h2, by rw [h3]; cases outs <;> simp⟩
  | .at i :: r, δ, outs, j, s', nd, h => by
    obtain ⟨n1, n2⟩ := List.nodup_cons.mp nd
    rcases setO_get r _ outs.tail j s' n2 h with ⟨h1, h2⟩ | ⟨k, s, h1, h2, h3⟩
    · by_cases e : i = j
      · subst e
        cases q : δ[i]? with
        | none => rw [q] at h2; simp only at h2; rw [q] at h2; cases h2
        | some s =>
          rw [q] at h2
          simp only at h2
          rcases set_get h2 with ⟨_, e2, _⟩ | ⟨z, _⟩
          · exact .inr ⟨0, s, rfl, rfl, by rw [e2]; cases outs <;> rfl⟩
          · exact absurd rfl z
      · refine .inl ⟨by simp only [atsOf, List.mem_cons, not_or]; exact ⟨fun z => e z.symm, h1⟩, ?_⟩
        cases q : δ[i]? with
        | none => rw [q] at h2; exact h2
        | some s => rw [q] at h2; simp only at h2; rwa [List.getElem?_set_ne e] at h2
    · have hj : j ∈ atsOf r := by
        have : ∀ (l : List Ax) (k : Nat), l[k]? = some (.at j) → j ∈ atsOf l := by
          intro l
          induction l with
          | nil => intro k z; simp at z
          | cons a t ih =>
            intro k z
            cases k with
            | zero => simp at z; subst z; simp [atsOf]
            | succ k => have := ih k (by simpa using z); cases a <;> simp [atsOf, this]
        exact this r k h1
      have e : i ≠ j := fun z => n1 (by rw [z]; exact hj)
      refine .inr ⟨k + 1, s, by simpa using h1, ?_, by rw [h3]; cases outs <;> simp⟩
      cases q : δ[i]? with
      | none => rw [q] at h2; exact h2
      | some s => rw [q] at h2; simp only at h2; rwa [List.getElem?_set_ne e] at h2
theorem setO_len : ∀ (axs : List Ax) (δ : Ev) (outs : List Ar), (setO δ axs outs).length = δ.length
  | [], δ, outs => rfl
  | .v d :: r, δ, outs => setO_len r δ outs.tail
  | .at i :: r, δ, outs => by
    show (setO (match δ[i]? with | some s => δ.set i (upA s outs.head?) | none => δ) r outs.tail).length = _
    rw [setO_len r]
    cases δ[i]? <;> simp
/-- the first place of a name among the arguments -/
def posOf (j : Nat) : List Ax → Option Nat
  | [] => none
  | .v _ :: r => (posOf j r).map (· + 1)
  | .at i :: r => if i = j then some 0 else (posOf j r).map (· + 1)
theorem posOf_none {j : Nat} : ∀ {axs : List Ax}, j ∉ atsOf axs → posOf j axs = none
  | [], _ => rfl
  | .v _ :: r, h => by simp only [posOf]; rw [posOf_none (axs := r) h]; rfl
  | .at i :: r, h => by
    simp only [atsOf, List.mem_cons, not_or] at h
    simp only [posOf]
    rw [if_neg (fun z => h.1 z.symm), posOf_none h.2]; rfl
theorem posOf_at {j : Nat} : ∀ {axs : List Ax} {k : Nat}, (atsOf axs).Nodup → axs[k]? = some (.at j) → posOf j axs = some k
  | [], k, _, h => by simp at h
  | .v _ :: r, 0, _, h => by simp at h
  | .v _ :: r, k + 1, nd, h => by simp only [posOf]; rw [posOf_at (axs := r) (k := k) nd (by simpa using h)]; rfl
  | .at i :: r, 0, _, h => by simp at h; subst h; simp [posOf]
  | .at i :: r, k + 1, nd, h => by
    obtain ⟨n1, n2⟩ := List.nodup_cons.mp nd
    have e := posOf_at (axs := r) (k := k) n2 (by simpa using h)
    have : i ≠ j := fun z => by
      subst z
      have := posOf_none (axs := r) n1
      rw [e] at this; cases this
    simp only [posOf]; rw [if_neg this, e]; rfl
section
variable {K : PySem.W.Frag} {G H G' H' : Hp} {ow ow' : Ow} {i i' : Nat}
theorem ArW.keep {v : V} {a : Ar} (hG : Same G G') (hO : ∀ p f, ow p = some (i, f) → ow' p = some (i', f)) (hH : ∀ p f o, ow p = some (i, f) → H p = some o → H' p = some o) (h : ArW K G H ow i v a) : ArW K G' H' ow' i' v a := by
  cases a with
  | v d => exact Den.up hG h
  | o C fs => obtain ⟨a, dx, vfs, h1, h3, h4, h5, h6, h7⟩ := h; exact ⟨a, dx, vfs, h1, hH _ _ _ h5 h3, hH _ _ _ h6 h4, hO _ _ h5, hO _ _ h6, h7.keep hG hO hH⟩
  | l xs => obtain ⟨a, vs, h1, h2, h4, h5⟩ := h; exact ⟨a, vs, h1, hH _ _ _ h4 h2, hO _ _ h4, h5.up hG⟩
  | x => trivial
  | r fs => obtain ⟨a, vfs, h1, h3, h5, h7⟩ := h; exact ⟨a, vfs, h1, hH _ _ _ h5 h3, hO _ _ h5, h7.keep hG hO hH⟩
/-- the addresses of what is handed in -/
def hsOf (vs : List V) : Nat → Nat := fun k => match vs[k]? with
  | some (.ref a) => a
  | _ => 0
theorem rel_startO {N : List Str} {vs : List V} {as : List Ar} (s : Same G H) (hl : as.length = vs.length) (h : ArsW K G H ow vs as) (ho : ∀ p k, ow p = some k → G p = none ∧ H p ≠ none) :
    Rel K ⟨G, H, fun p => ow p ≠ none⟩ (startO N (hsOf vs) as) (start N vs) G H := by
  refine ⟨s, Same.refl _, fun b o e _ => e, fun b e => e, fun b o e (e0 : G b = none) => (by rw [e0] at e; cases e), ⟨ow, ⟨fun p k hk => ⟨(ho p k hk).1, (ho p k hk).2, .inr (fun z => by rw [hk] at z; cases z)⟩⟩, fun i sl hs => ?_⟩, ?_⟩
  · unfold startO at hs
    by_cases hi : i < as.length
    · rw [List.getElem?_append_left (by rw [entO_len]; exact hi), entO_get, Nat.zero_add] at hs
      have q : as[i]? = some as[i] := List.getElem?_eq_getElem hi
      rw [q] at hs
      have hv : vs[i]? = some (vs[i]'(by omega)) := List.getElem?_eq_getElem (by omega)
      have hw := h.at_ i _ _ q hv
      have hst : (start N vs)[i]? = some (some (vs[i]'(by omega))) := by
        unfold L2.start
        rw [List.getElem?_append_left (by rw [List.length_map]; omega), List.getElem?_map, hv]; rfl
      rw [hst]
      generalize as[i] = a at hs hw
      generalize vs[i]'(by omega) = v at hv hw
      cases a with
      | v d => cases hs; exact ⟨v, rfl, hw⟩
      | x => cases hs; trivial
      | o C fs =>
        cases hs
        obtain ⟨a, dx, vfs, rfl, h3, h4, h5, h6, h7⟩ := hw
        refine ⟨a, dx, vfs, rfl, fun a0 z => ?_, h3, h4, h5, h6, h7⟩
        cases z; unfold hsOf; rw [hv]
      | r fs =>
        cases hs
        obtain ⟨a, vfs, rfl, h3, h5, h7⟩ := hw
        refine ⟨a, vfs, rfl, fun a0 z => ?_, h3, h5, h7⟩
        cases z; unfold hsOf; rw [hv]
      | l xs =>
        obtain ⟨a, ws, rfl, h3, h4, h5⟩ := hw
        have e : hsOf vs i = a := by unfold hsOf; rw [hv]
        cases hs
        rw [e]
        exact ⟨ws, rfl, h3, h4, h5⟩
    · rw [List.getElem?_append_right (by rw [entO_len]; omega), List.getElem?_replicate] at hs
      split at hs
      · cases hs; trivial
      · cases hs
  · simp [startO, L2.start, hl, entO_len]
theorem out_ok {n : En} {δ : Ev} {σ : L2.St} {vs : List V} {as : List Ar} (hw : ArsW K G H ow vs as) (hG : Same G G') (gh : ∀ (i : Nat) (s : Sl), δ[i]? = some s → SlW K n G' H' ow' i σ[i]? s) : ArsW K G' H' ow' vs (outO (hsOf vs) 0 as δ) := by
  refine ⟨fun k b v hb hv => ?_⟩
  rw [outO_get, Nat.zero_add] at hb
  cases qa : as[k]? with
  | none => rw [qa] at hb; cases hb
  | some a =>
    rw [qa] at hb
    have h0 := hw.at_ k a v qa hv
    cases a with
    | v d => cases hb; exact Den.up hG h0
    | x => cases hb; trivial
    | o C fs =>
      simp only [Option.map_some, Option.some.injEq] at hb
      subst hb
      obtain ⟨a, dx, vfs, rfl, -⟩ := h0
      cases q : δ[k]? with
      | none => trivial
      | some s =>
        cases s with
        | ob h C' fs' =>
          cases h with
          | none => trivial
          | some a' =>
            show ArW K G' H' ow' k (.ref a) (if a' = hsOf vs k then .o C' fs' else .x)
            split
            · rename_i e3
              obtain ⟨b, dy, wfs, g1, g2, g3, g4, g5, g6, g7⟩ := gh k _ q
              have : b = a := by rw [g2 _ rfl, e3]; unfold hsOf; rw [hv]
              subst this
              exact ⟨b, dy, wfs, rfl, g3, g4, g5, g6, g7⟩
            · trivial
        | _ => trivial
    | r fs =>
      simp only [Option.map_some, Option.some.injEq] at hb
      subst hb
      obtain ⟨a, vfs, rfl, -⟩ := h0
      cases q : δ[k]? with
      | none => trivial
      | some s =>
        cases s with
        | rc h fs' =>
          cases h with
          | none => trivial
          | some a' =>
            show ArW K G' H' ow' k (.ref a) (if a' = hsOf vs k then .r fs' else .x)
            split
            · rename_i e3
              obtain ⟨b, wfs, g1, g2, g3, g5, g7⟩ := gh k _ q
              have : b = a := by rw [g2 _ rfl, e3]; unfold hsOf; rw [hv]
              subst this
              exact ⟨b, wfs, rfl, g3, g5, g7⟩
            · trivial
        | _ => trivial
    | l xs =>
      simp only [Option.map_some, Option.some.injEq] at hb
      subst hb
      obtain ⟨a, ws, rfl, -⟩ := h0
      cases q : δ[k]? with
      | none => trivial
      | some s =>
        cases s with
        | mu a' ys =>
          show ArW K G' H' ow' k (.ref a) (if a' = hsOf vs k then .l ys else .x)
          split
          · rename_i e3
            obtain ⟨ws', g1, g2, g3, g4⟩ := gh k _ q
            have : a' = a := by rw [e3]; unfold hsOf; rw [hv]
            subst this
            exact ⟨_, ws', rfl, g2, g3, g4⟩
          · trivial
        | _ => trivial
end

section
variable {P : Program} {w : World} {K : PySem.W.Frag} {mg : Str → Option Value} {base : Heap}
theorem fnO {x qual : Str} {st : Stmt} {f : Addr} {fd : FuncData} {N ps : List Str} {k : Nat} {S : SpO} (F : Fun K x qual st f fd) (Sc : FnScope N ps (defScope st)) (len : ∀ as Q, S as Q → as.length = ps.length)
    (hbody : ∀ (cdv : Value) (A : Around) (outer : List Env) (s : Shared) (H : Hp) (E : XK), Room k (A.deeper (envOfC qual (defScope st) s.heap.objs.size f cdv)) →
      ∃ t, DSs (cxOf CX0 P w K mg base N qual (defScope st) f cdv A outer s H E).nox (defBody st) t ∧ ∀ (hs : Nat → Nat) as Q, S as Q → t { nx := fun δ => Q .non (outO hs 0 as δ), rt := fun d δ => Q d (outO hs 0 as δ) } (startO N hs as)) : FnOk P w K mg base CX0 (k + 1) f fd ps (spO K S) := by
  refine F.ok Sc (fun vs H Q E ⟨G, as, Qd, ow, sub, hl, hw, ho, h, _⟩ => ?_) (fun cdv A outer s H vs Q E hr ⟨G, as, Qd, ow, sub, hl, hw, ho, h, kk⟩ => ?_)
  · rw [← hl]; exact len as Qd h
  · obtain ⟨t, ht, hq⟩ := hbody cdv A outer s H E hr
    have fin : ∀ (v : V) (d : D) (δ : Ev) (σ : L2.St) (G' H' : Hp), Rel K ⟨G, H, fun p => ow p ≠ none⟩ δ σ G' H' → Den K G' v d → Qd d (outO (hsOf vs) 0 as δ) → Q v H' := fun v d δ σ G' H' R' dv q => by
      obtain ⟨ow', ok', gh'⟩ := R'.gh
      exact kk v G' H' d _ ow' ⟨R'.eg, R'.sub, R'.eh, R'.al, fun b o e e0 => R'.fr b o e e0⟩ dv (out_ok hw R'.eg gh') (fun p k hk => ok'.is p k hk) q
    exact ⟨_, ht, ⟨G, H, fun p => ow p ≠ none⟩, _, G, _, rel_startO (N := N) sub hl hw ho, hq (hsOf vs) as Qd h, ⟨fun δ σ G' H' R' q => fin .non .non δ σ G' H' R' .non q, fun v d δ σ G' H' R' dv q => fin v d δ σ G' H' R' dv q, fun _ _ _ _ _ q => q.elim, fun _ _ _ _ _ q => q.elim⟩⟩
end
end Dl

namespace Dl
open PySem PySem.Spec PyProof.Rows L2

/-! ### arguments of a call that may change what is handed in -/
inductive AxL (K : PySem.W.Frag) (G : Hp) (σ : L2.St) : List V → List Ax → Prop
  | nil : AxL K G σ [] []
  | v {x : V} {d : D} {xs : List V} {axs : List Ax} : Den K G x d → AxL K G σ xs axs → AxL K G σ (x :: xs) (.v d :: axs)
  | at {x : V} {j : Nat} {xs : List V} {axs : List Ax} : σ[j]? = some (some x) → AxL K G σ xs axs → AxL K G σ (x :: xs) (.at j :: axs)
section
variable {K : PySem.W.Frag} {G G' H H' : Hp} {σ : L2.St} {n : En} {δ : Ev}
theorem AxL.up (e : Same G G') : ∀ {vs : List V} {axs : List Ax}, AxL K G σ vs axs → AxL K G' σ vs axs
  | _, _, .nil => .nil
  | _, _, .v h t => .v (h.up e) (AxL.up e t)
  | _, _, .at h t => .at h (AxL.up e t)
theorem AxL.length : ∀ {vs : List V} {axs : List Ax}, AxL K G σ vs axs → vs.length = axs.length
  | _, _, .nil => rfl
  | _, _, .v _ t => by simp [AxL.length t]
  | _, _, .at _ t => by simp [AxL.length t]
theorem AxL.getV : ∀ {vs : List V} {axs : List Ax} {k : Nat} {d : D} {v : V}, AxL K G σ vs axs → axs[k]? = some (.v d) → vs[k]? = some v → Den K G v d
  | _, _, _, _, _, .nil, h, _ => by simp at h
  | _, _, 0, _, _, .v h _, h1, h2 => by simp at h1 h2; subst h1 h2; exact h
  | _, _, 0, _, _, .at h _, h1, h2 => by simp at h1
  | _, _, k + 1, _, _, .v _ t, h1, h2 => AxL.getV (k := k) t (by simpa using h1) (by simpa using h2)
  | _, _, k + 1, _, _, .at _ t, h1, h2 => AxL.getV (k := k) t (by simpa using h1) (by simpa using h2)
theorem AxL.getA : ∀ {vs : List V} {axs : List Ax} {k j : Nat}, AxL K G σ vs axs → axs[k]? = some (.at j) → ∃ v, vs[k]? = some v ∧ σ[j]? = some (some v)
  | _, _, _, _, .nil, h => by simp at h
  | _, _, 0, _, .v h _, h1 => by simp at h1
  | _, _, 0, _, .at h _, h1 => by simp at h1; subst h1; exact ⟨_, rfl, h⟩
  | _, _, k + 1, _, .v _ t, h1 => by
    obtain ⟨v, e1, e2⟩ := AxL.getA (k := k) t (by simpa using h1)
    exact ⟨v, by simpa using e1, e2⟩
  | _, _, k + 1, _, .at _ t, h1 => by
    obtain ⟨v, e1, e2⟩ := AxL.getA (k := k) t (by simpa using h1)
    exact ⟨v, by simpa using e1, e2⟩
theorem Rel.after {M : Addr → Prop} (R : Rel K n δ σ G H) (e : ExtM M G H G' H') (hM : ∀ p, M p → n.H p = none ∨ n.M p) :
    Same G' H' ∧ Same n.G G' ∧ (∀ b o, n.H b = some o → ¬ n.M b → H' b = some o) ∧ (∀ b, H' b = none → n.H b = none) ∧ (∀ b o, G' b = some o → n.G b = none → n.H b = none) := by
  refine ⟨e.gh, R.eg.trans e.gg, fun b o q m => e.hh b o (R.eh b o q m) fun z => ?_, fun b q => R.al b (e.al b q), fun b o q q0 => ?_⟩
  · rcases hM b z with h | h
    · rw [h] at q; cases q
    · exact m h
  · cases h : G b with
    | none => exact R.al b (e.fr b o q h)
    | some w => exact R.fr b w h q0
theorem Rel.enter (R : Rel K n δ σ G H) {axs : List Ax} {vs : List V} (nd : (atsOf axs).Nodup) (ha : AxL K G σ vs axs) : ∃ owC : Ow, ArsW K G H owC vs (axs.map (inA δ)) ∧ (∀ p k, owC p = some k → G p = none ∧ H p ≠ none) ∧
    ∀ (G' H' : Hp) (outs : List Ar) (ow' : Ow), ExtM (fun p => owC p ≠ none) G H G' H' → ArsW K G' H' ow' vs outs → (∀ p k, ow' p = some k → G' p = none ∧ H' p ≠ none ∧ (H p = none ∨ owC p ≠ none)) → Rel K n (setO δ axs outs) σ G' H' := by
  obtain ⟨ow, ok, gh⟩ := R.gh
  have oc : ∀ {p : Addr} {j k : Nat} {f : Str}, axs[k]? = some (.at j) → ow p = some (j, f) → ((ow p).bind fun jf => (posOf jf.1 axs).map fun k => (k, jf.2)) = some (k, f) := fun {p j k f} hk h => by
    rw [h]
    show (posOf j axs).map _ = _
    rw [posOf_at nd hk]; rfl
  have oc' : ∀ {p : Addr}, ((ow p).bind fun jf => (posOf jf.1 axs).map fun k => (k, jf.2)) ≠ none → ∃ jf, ow p = some jf := fun {p} h => by
    cases q : ow p with
    | none => rw [q] at h; exact absurd rfl h
    | some w => exact ⟨w, rfl⟩
  refine ⟨fun p => (ow p).bind fun jf => (posOf jf.1 axs).map fun k => (k, jf.2), ⟨fun k a v h1 h2 => ?_⟩, fun p k hk => ?_, fun G' H' outs ow' e hw ho => ?_⟩
  · rw [List.getElem?_map] at h1
    cases q : axs[k]? with
    | none => rw [q] at h1; cases h1
    | some ax =>
      rw [q] at h1
      cases ax with
      | v d => cases h1; exact ha.getV q h2
      | «at» j =>
        obtain ⟨v', e1, e2⟩ := ha.getA q
        rw [h2] at e1; cases e1
        simp only [Option.map_some, Option.some.injEq] at h1
        subst h1
        show ArW K G H _ k v (match δ[j]? with | some (.ob _ C fs) => .o C fs | some (.ow l) => .l l | some (.mu _ l) => .l l | some (.sh d) => .v d | some (.rc _ fs) => .r fs | _ => .x)
        cases qs : δ[j]? with
        | none => trivial
        | some s =>
          have hs := gh j s qs
          rw [e2] at hs
          cases s with
          | no => trivial
          | sh d => obtain ⟨w, g1, g2⟩ := hs; cases g1; exact g2
          | ow l => obtain ⟨p, ws, g1, g2, g3, g4, g5⟩ := hs; cases g1; exact ⟨p, ws, rfl, g2, oc q g4, g5⟩
          | mu b l => obtain ⟨ws, g1, g2, g4, g5⟩ := hs; cases g1; exact ⟨b, ws, rfl, g2, oc q g4, g5⟩
          | ob h C fs =>
            obtain ⟨a, dx, vfs, g1, g2, g3, g4, g5, g6, g7⟩ := hs
            cases g1
            exact ⟨a, dx, vfs, rfl, g3, g4, oc q g5, oc q g6, g7.keep (Same.refl _) (fun p f z => oc q z) fun _ _ _ _ z => z⟩
          | pt a => trivial
          | rc h fs =>
            obtain ⟨a, vfs, g1, g2, g3, g5, g7⟩ := hs
            cases g1
            exact ⟨a, vfs, rfl, g3, oc q g5, g7.keep (Same.refl _) (fun p f z => oc q z) fun _ _ _ _ z => z⟩
  · obtain ⟨jf, hj⟩ := oc' (p := p) (fun z => by have w := z.symm.trans hk; cases w)
    obtain ⟨h1, h2, h3⟩ := ok.is p jf hj
    exact ⟨h1, h2⟩
  · obtain ⟨a1, a2, a3, a4, a5⟩ := R.after e (fun p hp => by obtain ⟨jf, hj⟩ := oc' hp; exact (ok.is p jf hj).2.2)
    -- who owns what behind it
    refine ⟨a1, a2, a3, a4, a5, ⟨fun p => match ow' p with
      | some (k, f) => (match axs[k]? with | some (.at j) => some (j, f) | _ => none)
      | none => match ow p with
        | some (j, f) => if posOf j axs = none then some (j, f) else none
        | none => none, ⟨fun p kk hk => ?_⟩, fun j s' hs' => ?_⟩, by rw [setO_len]; exact R.len⟩
    · cases q : ow' p with
      | some kf =>
        obtain ⟨h1, h2, h3⟩ := ho p kf q
        refine ⟨h1, h2, ?_⟩
        rcases h3 with h3 | h3
        · exact .inl (R.al p h3)
        · obtain ⟨jf, hj⟩ := oc' h3; exact (ok.is p jf hj).2.2
      | none =>
        simp only [q] at hk
        cases q2 : ow p with
        | none => rw [q2] at hk; cases hk
        | some jf =>
          obtain ⟨j, f⟩ := jf
          rw [q2] at hk
          simp only at hk
          split at hk
          · rename_i hp
            obtain ⟨h1, h2, h3⟩ := ok.is p _ q2
            have nM : ¬ (((ow p).bind fun jf => (posOf jf.1 axs).map fun k => (k, jf.2)) ≠ none) := fun z => z (by rw [q2]; show (posOf j axs).map _ = _; rw [hp]; rfl)
            refine ⟨?_, fun z => h2 (e.al p z), h3⟩
            cases q3 : G' p with
            | none => rfl
            | some w => exact absurd (e.fr p w q3 h1) h2
          · cases hk
    · rcases setO_get axs δ outs j s' nd hs' with ⟨hj, hs⟩ | ⟨k, s, hk, hs, rfl⟩
      · have hp : posOf j axs = none := posOf_none hj
        have nC : ∀ p f, ow p = some (j, f) → ((ow p).bind fun jf => (posOf jf.1 axs).map fun k => (k, jf.2)) = none := fun p f z => by rw [z]; show (posOf j axs).map _ = _; rw [hp]; rfl
        refine (gh j s' hs).keep e.gg (fun p f z => ?_) fun p f o z q => e.hh p o q fun w => w (nC p f z)
        have q : ow' p = none := by
          cases q : ow' p with
          | none => rfl
          | some kf =>
            obtain ⟨h1, h2, h3⟩ := ho p kf q
            rcases h3 with h3 | h3
            · exact absurd h3 (ok.is p _ z).2.1
            · exact absurd (nC p f z) h3
        simp only [q, z, hp]; simp
      · obtain ⟨v, e1, e2⟩ := ha.getA hk
        have h0 := gh j s hs
        rw [e2] at h0 ⊢
        have hO : ∀ p f, ow' p = some (k, f) → (match ow' p with
            | some (k, f) => (match axs[k]? with | some (.at j) => some (j, f) | _ => none)
            | none => match ow p with
              | some (j, f) => if posOf j axs = none then some (j, f) else none
              | none => none) = some (j, f) := fun p f z => by simp only [z, hk]
        cases qo : outs[k]? with
        | none =>
          cases s with
          | sh d => obtain ⟨w, g1, g2⟩ := h0; exact ⟨w, g1, g2.up e.gg⟩
          | _ => trivial
        | some ar =>
          have hr := hw.at_ k ar v qo e1
          cases s with
          | no => cases ar <;> trivial
          | pt a => cases ar <;> trivial
          | sh d => obtain ⟨w, g1, g2⟩ := h0; exact ⟨w, g1, g2.up e.gg⟩
          | ow l =>
            cases ar with
            | l ys =>
              obtain ⟨a, ws, rfl, r1, r2, r3⟩ := hr
              obtain ⟨p, zs, g1, g2, g3, g4, g5⟩ := h0
              cases g1
              exact ⟨a, ws, rfl, r1, g3, hO _ _ r2, r3⟩
            | _ => trivial
          | mu b l =>
            cases ar with
            | l ys =>
              obtain ⟨a, ws, rfl, r1, r2, r3⟩ := hr
              obtain ⟨zs, g1, g2, g4, g5⟩ := h0
              cases g1
              exact ⟨ws, rfl, r1, hO _ _ r2, r3⟩
            | _ => trivial
          | ob h C fs =>
            cases ar with
            | o C' fs' =>
              obtain ⟨a, dx, vfs, rfl, r1, r2, r3, r4, r5⟩ := hr
              obtain ⟨a', dx', vfs', g1, g2, _⟩ := h0
              cases g1
              exact ⟨a, dx, vfs, rfl, g2, r1, r2, hO _ _ r3, hO _ _ r4, r5.keep (Same.refl _) hO fun _ _ _ _ z => z⟩
            | _ => trivial
          | rc h fs =>
            cases ar with
            | r fs' =>
              obtain ⟨a, vfs, rfl, r1, r3, r5⟩ := hr
              obtain ⟨a', vfs', g1, g2, _⟩ := h0
              cases g1
              exact ⟨a, vfs, rfl, g2, r1, hO _ _ r3, r5.keep (Same.refl _) hO fun _ _ _ _ z => z⟩
            | _ => trivial
end
def lAo (K : PySem.W.Frag) (t : TAo) : TA := fun σ H Q2 => ∃ (n : En) (δ : Ev) (G : Hp) (Q : List Ax → Ev → Prop), Rel K n δ σ G H ∧ t δ Q ∧
  ∀ (v : List V) (G' H' : Hp) (d : List Ax) (δ' : Ev), Rel K n δ' σ G' H' → Same G G' → AxL K G' σ v d → Q d δ' → Q2 v H'
abbrev DAo (X : Cx) (es : List Expr) (t : TAo) : Prop := PA X es (lAo X.K t)
def held : Option Sl → Bool
  | some (.ob _ _ _) => true
  | some (.ow _) => true
  | some (.mu _ _) => true
  | some (.rc _ _) => true
  | _ => false
def aAt' (j : Nat) (t : TAo) : TAo := fun δ Q => held δ[j]? = true ∧ aAt j t δ Q
section
variable {X : Cx} {e : Expr} {es : List Expr} {te : TEd} {t : TAo} {x : Str} {p pos : Pos} {f C : Addr} {fd : FuncData} {ps : List Str} {S : SpO} {k : Nat} {m : Str} {apos : Pos}
theorem dao_nil : DAo X [] aNil := pa_imp pa_nil fun σ H Q2 ⟨n, δ, G, Q, R, h, k⟩ => k [] G H [] δ R (Same.refl _) .nil h
theorem dao_cons (ha : DE X e te) (hr : DAo X es t) (hs : starEach (e :: es) X.env = (false, eval e X.env) :: starEach es X.env := by rfl) : DAo X (e :: es) (aCons te t) :=
  pa_imp (pa_cons ha hr hs) fun σ H Q2 ⟨n, δ, G, Q, R, h, k⟩ => ⟨n, δ, G, _, R, h, fun v G1 H1 d δ1 R1 s1 d1 h1 => ⟨n, δ1, G1, _, R1, h1, fun vs G2 H2 ds δ2 R2 s2 d2 h2 =>
    k (v :: vs) G2 H2 (.v d :: ds) δ2 R2 (s1.trans s2) (.v (d1.up s2) d2) h2⟩⟩
theorem held_of {K : PySem.W.Frag} {n : En} {δ : Ev} {σ : L2.St} {G H : Hp} {j : Nat} (R : Rel K n δ σ G H) (h : held δ[j]? = true) : ∃ v, σ[j]? = some (some v) := by
  cases q : δ[j]? with
  | none => rw [q] at h; cases h
  | some s =>
    have hs := R.sl j s q
    rw [q] at h
    cases s with
    | no => cases h
    | sh d => cases h
    | ow l => obtain ⟨p, vs, g1, _⟩ := hs; exact ⟨_, g1⟩
    | mu a l => obtain ⟨vs, g1, _⟩ := hs; exact ⟨_, g1⟩
    | ob h C fs => obtain ⟨a, dx, vfs, g1, _⟩ := hs; exact ⟨_, g1⟩
    | pt a => cases h
    | rc h fs => obtain ⟨a, vfs, g1, _⟩ := hs; exact ⟨_, g1⟩
theorem dao_at (j : Nat) (hr : DAo X es t) (hN : X.N[j]? = some x := by rfl) (hv : Vis X.env.scope x := by first | exact Or.inl rfl | exact Or.inr (Or.inl rfl) | exact Or.inr (Or.inr rfl)) (hd : (x == ("__debug__" : Str)) = false := by decide)
    (hcd : (x == ("__classdict__" : Str)) = false := by decide) (hs : starEach (.Name x p :: es) X.env = (false, eval (.Name x p) X.env) :: starEach es X.env := by rfl) : DAo X (.Name x p :: es) (aAt' j t) :=
  pa_imp (pa_cons (pe_var hN hv hd hcd) hr hs) fun σ H Q2 ⟨n, δ, G, Q, R, ⟨hh, h⟩, k⟩ => by
    obtain ⟨v, hv⟩ := held_of R hh
    exact ⟨v, hv, n, δ, G, _, R, h, fun vs G2 H2 ds δ2 R2 s2 d2 h2 => k (v :: vs) G2 H2 (.at j :: ds) δ2 R2 s2 (.at hv d2) h2⟩
/-- f(..) -/
theorem de_callO (F : FnOk X.prog X.w X.K X.mg X.base CX0 k f fd ps (spO X.K S)) (hr : Room k X.A) (hm : X.mg x = some (.ref f)) (hk : PySem.W.keepIn X.K (.ref f) = true) (hb : Binds X.K fd ps [])
    (ha : DAo X (e :: es) t) (hg : Gl X x := by rfl) (hdb : (x == ("__debug__" : Str)) = false := by decide) (he : starEach (e :: es) X.env = (false, eval e X.env) :: starEach es X.env := by rfl) (hpl : (backTo pos (starEach es X.env)).any (·.1) = false := by rfl) :
    DE X (.Call (.Name x p) (e :: es) [] pos) (dCallO S t) :=
  pe_imp (pe_call F hr hg hm hk hb .nil pass0 ha hdb he hpl) fun σ H Q2 ⟨n, δ, G, Q, R, h, kk⟩ => ⟨n, δ, G, _, R, h, fun vs G1 H1 axs δ1 R1 s1 d1 ⟨nd, h1⟩ => by
    show spO X.K S (vs ++ []) H1 Q2 E0
    rw [List.append_nil]
    obtain ⟨owC, c1, c2, c3⟩ := R1.enter nd d1
    exact ⟨G1, _, _, owC, R1.sub, by rw [List.length_map, d1.length], c1, c2, h1, fun v G2 H2 d outs ow' e2 dv w2 o2 q2 => kk v G2 H2 d _ (c3 G2 H2 outs ow' e2 w2 o2) (s1.trans e2.gg) dv q2⟩⟩
/-- x.m(e, ..) -/
theorem de_meth (i : Nat) {y : Str} {op : Pos} {pl : Sem Bool} (c : Cls X.K C) (hm : Meth X.K C m f) (F : FnOk X.prog X.w X.K X.mg X.base CX0 k f fd ps (spO X.K S)) (hr : Room k X.A) (hb : Binds X.K fd ps []) (ha : DAo X (e :: es) t)
    (hN : X.N[i]? = some y := by rfl) (hv : Vis X.env.scope y := by first | exact Or.inl rfl | exact Or.inr (Or.inl rfl) | exact Or.inr (Or.inr rfl)) (hd : (y == ("__debug__" : Str)) = false := by decide) (hcd : (y == ("__classdict__" : Str)) = false := by decide)
    (hst : starEach (e :: es) X.env = (false, eval e X.env) :: starEach es X.env := by rfl) (hpl : (backTo pos (starEach es X.env)).any (·.1) = false := by rfl)
    (ht : eval (.Call (.Attribute (.Name y op) m apos) (e :: es) [] pos) X.env = (do
      let ov ← eval (.Name y op) X.env
      standAt apos.atName
      let (f, first) ← holding [ov] (getMethod ov m pl)
      callWith pos f first (backTo pos (starEach (e :: es) X.env)) (backToKw pos (keywordEach [] X.env))) := by rfl) :
    DE X (.Call (.Attribute (.Name y op) m apos) (e :: es) [] pos) (dMeth i C m S t) :=
  pe_imp (pe_meth (pl := pl) (pe_var hN hv hd hcd) c hm F hr hb .nil pass0 ha hst hpl ht) fun σ H Q2 ⟨n, δ, G, Q, R, h, kk⟩ => by
    unfold dMeth at h
    split at h
    · rename_i h0 C' fs q
      obtain ⟨rfl, hl, h⟩ := h
      obtain ⟨a, dx, vfs, g1, g2, g3, g4, ow, i', g5⟩ := R.sl i _ q
      refine ⟨.ref a, g1, a, dx, vfs, rfl, g3, ?_, n, δ, G, _, R, h, fun vs G1 H1 axs δ1 R1 s1 d1 ⟨nd, h1⟩ => ?_⟩
      · have hk : m ∉ fs.map (·.1) := fun z => by
          obtain ⟨p, hp, e⟩ := List.mem_map.mp z
          exact absurd hl (by intro hh; have := List.lookup_eq_none_iff.mp hh p hp; simp [e] at this)
        rw [← g5.keys] at hk
        exact List.lookup_eq_none_iff.mpr fun p hp => by
          have : p.1 ≠ m := fun z => hk (List.mem_map.mpr ⟨p, hp, z⟩)
          simpa using fun z => this z.symm
      · show spO X.K S (.ref a :: (vs ++ [])) H1 Q2 E0
        rw [List.append_nil]
        obtain ⟨owC, c1, c2, c3⟩ := R1.enter (axs := .at i :: axs) nd (.at g1 d1)
        exact ⟨G1, _, _, owC, R1.sub, by simp [d1.length], c1, c2, h1, fun v G2 H2 d outs ow' e2 dv w2 o2 q2 => kk v G2 H2 d _ (c3 G2 H2 outs ow' e2 w2 o2) (s1.trans e2.gg) dv q2⟩
    · exact h.elim
/-- x.m() -/
theorem de_meth0 (i : Nat) {y : Str} {op : Pos} {pl : Sem Bool} (c : Cls X.K C) (hm : Meth X.K C m f) (F : FnOk X.prog X.w X.K X.mg X.base CX0 k f fd ps (spO X.K S)) (hr : Room k X.A) (hb : Binds X.K fd ps [])
    (hN : X.N[i]? = some y := by rfl) (hv : Vis X.env.scope y := by first | exact Or.inl rfl | exact Or.inr (Or.inl rfl) | exact Or.inr (Or.inr rfl)) (hd : (y == ("__debug__" : Str)) = false := by decide) (hcd : (y == ("__classdict__" : Str)) = false := by decide)
    (ht : eval (.Call (.Attribute (.Name y op) m apos) [] [] pos) X.env = (do
      let ov ← eval (.Name y op) X.env
      standAt apos.atName
      let (f, first) ← holding [ov] (getMethod ov m pl)
      callWith pos f first (backTo pos (starEach [] X.env)) (backToKw pos (keywordEach [] X.env))) := by rfl) :
    DE X (.Call (.Attribute (.Name y op) m apos) [] [] pos) (dMeth i C m S aNil) :=
  pe_imp (pe_meth0 (pl := pl) (pe_var hN hv hd hcd) c hm F hr hb .nil pass0 ht) fun σ H Q2 ⟨n, δ, G, Q, R, h, kk⟩ => by
    unfold dMeth at h
    split at h
    · rename_i h0 C' fs q
      obtain ⟨rfl, hl, nd, h⟩ := h
      obtain ⟨a, dx, vfs, g1, g2, g3, g4, ow, i', g5⟩ := R.sl i _ q
      refine ⟨.ref a, g1, a, dx, vfs, rfl, g3, ?_, ?_⟩
      · have hk : m ∉ fs.map (·.1) := fun z => by
          obtain ⟨p, hp, e⟩ := List.mem_map.mp z
          exact absurd hl (by intro hh; have := List.lookup_eq_none_iff.mp hh p hp; simp [e] at this)
        rw [← g5.keys] at hk
        exact List.lookup_eq_none_iff.mpr fun p hp => by
          have : p.1 ≠ m := fun z => hk (List.mem_map.mpr ⟨p, hp, z⟩)
          simpa using fun z => this z.symm
      · obtain ⟨owC, c1, c2, c3⟩ := R.enter (axs := [.at i]) nd (.at g1 .nil)
        exact ⟨G, _, _, owC, R.sub, by simp, c1, c2, h, fun v G2 H2 d outs ow' e2 dv w2 o2 q2 => kk v G2 H2 d _ (c3 G2 H2 outs ow' e2 w2 o2) e2.gg dv q2⟩
    · exact h.elim
end
end Dl

namespace Dl
open PySem PySem.Spec PyProof.Rows L2

/-! ## Attributes -/
def putFl (f : Str) (s : Fl) : List (Str × Fl) → List (Str × Fl)
  | [] => [(f, s)]
  | (g, x) :: r => if g = f then (g, s) :: r else (g, x) :: putFl f s r
def putK (f : Str) : List Str → List Str
  | [] => [f]
  | g :: r => if g = f then g :: r else g :: putK f r
theorem keysF_put (f : Str) (v : V) : ∀ l : List (Str × V), (putF f v l).map (·.1) = putK f (l.map (·.1))
  | [] => rfl
  | (g, x) :: r => by
    simp only [putF, List.map_cons, putK]
    split
    · rfl
    · rw [List.map_cons, keysF_put f v r]
theorem keysFl_put (f : Str) (s : Fl) : ∀ l : List (Str × Fl), (putFl f s l).map (·.1) = putK f (l.map (·.1))
  | [] => rfl
  | (g, x) :: r => by
    simp only [putFl, List.map_cons, putK]
    split
    · rfl
    · rw [List.map_cons, keysFl_put f s r]
theorem putK_mem (f : Str) : ∀ l : List Str, f ∈ l → putK f l = l
  | [], h => by simp at h
  | g :: r, h => by
    simp only [putK]
    split
    · rfl
    · rename_i ne
      rcases List.mem_cons.mp h with e | e
      · exact absurd e.symm ne
      · rw [putK_mem f r e]
theorem lookup_putFl (f g : Str) (s : Fl) : ∀ fs : List (Str × Fl), (putFl f s fs).lookup g = if g = f then some s else fs.lookup g
  | [] => by
    show List.lookup g [(f, s)] = _
    by_cases h : g = f
    · have hb : (g == f) = true := beq_iff_eq.mpr h
      simp only [List.lookup, hb, if_pos h]
    · have hb : (g == f) = false := beq_eq_false_iff_ne.mpr h
      simp only [List.lookup, hb, if_neg h]
  | (k, x) :: r => by
    have ih := lookup_putFl f g s r
    rw [show putFl f s ((k, x) :: r) = (if k = f then (k, s) :: r else (k, x) :: putFl f s r) from rfl]
    by_cases hk : k = f
    · rw [if_pos hk]
      by_cases h : g = k
      · have hb : (g == k) = true := beq_iff_eq.mpr h
        simp only [List.lookup, hb, if_pos (h.trans hk)]
      · have hb : (g == k) = false := beq_eq_false_iff_ne.mpr h
        simp only [List.lookup, hb, if_neg (fun e : g = f => h (e.trans hk.symm))]
    · rw [if_neg hk]
      by_cases h : g = k
      · have hb : (g == k) = true := beq_iff_eq.mpr h
        simp only [List.lookup, hb, if_neg (fun e : g = f => hk (h.symm.trans e))]
      · have hb : (g == k) = false := beq_eq_false_iff_ne.mpr h
        simp only [List.lookup, hb]
        exact ih
abbrev TXd := Ev → (D → Prop) → Prop
abbrev TXA := Ev → (List D → Prop) → Prop
/-- an attribute that is a value -/
def fldOf (C i : Nat) (f : Str) (δ : Ev) : Option D := match δ[i]? with
  | some (.ob _ C' fs) => if C' = C then (match fs.lookup f with
    | some (.sh d) => some d
    | _ => none) else none
  | _ => none
/-- an attribute that is a list of its own -/
def lstOf (C i : Nat) (f : Str) (δ : Ev) : Option (List D) := match δ[i]? with
  | some (.ob _ C' fs) => if C' = C then (match fs.lookup f with
    | some (.ow l) => some l
    | _ => none) else none
  | _ => none
def putAt (i : Nat) (f : Str) (s : Fl) (δ : Ev) : Ev := match δ[i]? with
  | some (.ob h C fs) => δ.set i (.ob h C (putFl f s fs))
  | _ => δ
def fewOf (C i : Nat) (δ : Ev) : Bool := match δ[i]? with
  | some (.ob _ C' fs) => decide (C' = C) && decide (fs.length < 999)
  | _ => false
def xVar (i : Nat) : TXd := fun δ Q => match δ[i]? with
  | some (.sh d) => Q d
  | _ => False
def xC (d : D) : TXd := fun _ Q => Q d
def xFld (C i : Nat) (f : Str) : TXd := fun δ Q => match fldOf C i f δ with
  | some d => Q d
  | none => False
def xOp (r : RD) (ta tb : TXd) : TXd := fun δ Q => ta δ fun x => tb δ fun y => r x y Q
def xNil : TXA := fun _ Q => Q []
def xCons (ta : TXd) (t : TXA) : TXA := fun δ Q => ta δ fun x => t δ fun xs => Q (x :: xs)
def xTup (t : TXA) : TXd := fun δ Q => t δ fun xs => xs.length ≤ sizeLine ∧ Q (.tup xs)
def dX (t : TXd) : TEd := fun δ Q => t δ fun d => Q d δ
def dSetF (C i : Nat) (f : Str) (te : TEd) : TSd := fun E δ => te δ fun d δ1 => fewOf C i δ1 = true ∧ E.nx (putAt i f (.sh d) δ1)
def dSetL (C i : Nat) (f : Str) (ta : TAd) : TSd := fun E δ => ta δ fun ds δ1 => ds.length ≤ sizeLine ∧ fewOf C i δ1 = true ∧ E.nx (putAt i f (.ow ds) δ1)
def dFApp (C i : Nat) (f : Str) (tx : TXd) : TSd := fun E δ => match lstOf C i f δ with
  | some l => tx δ fun d => l.length < sizeLine ∧ E.nx (putAt i f (.ow (l ++ [d])) δ)
  | none => False
def dFIx (C i : Nat) (f : Str) (tx : TXd) : TXd := fun δ Q => match lstOf C i f δ with
  | some l => tx δ fun z => match z with
    | .int k => ∃ d, atI l k = some d ∧ Q d
    | _ => False
  | none => False
def dFAug (C i : Nat) (f : Str) (g : Int → Int → Int) (tx tz : TXd) : TSd := fun E δ => match lstOf C i f δ with
  | some l => tx δ fun z => match z with
    | .int k => ∃ j x, ixN l.length k = some j ∧ atI l k = some (.int x) ∧ tz δ fun y => match y with
      | .int y => E.nx (putAt i f (.ow (l.set j (.int (g x y)))) δ)
      | _ => False
    | _ => False
  | none => False
def dFList (C i : Nat) (f : Str) : TEd := fun δ Q => match lstOf C i f δ with
  | some l => Q (.lst l) δ
  | none => False

section
variable {K : PySem.W.Frag} {n : En} {G H G' H' : Hp} {ow ow' : Ow} {i i' : Nat} {f : Str} {v : V} {s : Fl} {vfs : List (Str × V)} {fs : List (Str × Fl)} {δ : Ev} {σ : L2.St} {p q : Addr} {o : HO}
theorem FlW.keepL (hH : ∀ p f vs, ow p = some (i, f) → H p = some (.lst vs) → H' p = some (.lst vs)) (h : FlW K G H ow i f v s) : FlW K G H' ow i f v s := by
  cases s with
  | sh d => exact h
  | ow l => obtain ⟨q, vs, h1, h2, h3, h4⟩ := h; exact ⟨q, vs, h1, hH _ _ _ h3 h2, h3, h4⟩
theorem FsW.keepL (hH : ∀ p f vs, ow p = some (i, f) → H p = some (.lst vs) → H' p = some (.lst vs)) (h : FsW K G H ow i vfs fs) : FsW K G H' ow i vfs fs :=
  ⟨h.keys, fun f s e => let ⟨v, h1, h2⟩ := h.at_ f s e; ⟨v, h1, h2.keepL hH⟩⟩
theorem FsW.put (h : FsW K G H ow i vfs fs) (hv : FlW K G H ow i f v s) : FsW K G H ow i (putF f v vfs) (putFl f s fs) := by
  refine ⟨by rw [keysF_put, keysFl_put, h.keys], fun g s' e => ?_⟩
  rw [lookup_putFl] at e
  rw [lookup_putF]
  by_cases z : g = f
  · rw [if_pos z] at e ⊢
    cases e
    subst z
    exact ⟨v, rfl, hv⟩
  · rw [if_neg z] at e ⊢
    exact h.at_ g s' e
theorem FsW.list {l l' : List D} {vs' : List V} (h : FsW K G H ow i vfs fs) (hf : fs.lookup f = some (.ow l)) (hq : vfs.lookup f = some (.ref q)) (ho : ow q = some (i, f)) (hd : DenL K G vs' l') : FsW K G (upd H q (.lst vs')) ow i vfs (putFl f (.ow l') fs) := by
  refine ⟨?_, fun g s' e => ?_⟩
  · rw [keysFl_put, putK_mem, h.keys]
    cases hm : fs.find? (fun p => f == p.1) with
    | none =>
      have := List.find?_eq_none.mp hm
      have : fs.lookup f = none := List.lookup_eq_none_iff.mpr fun p hp => by simpa using this p hp
      rw [hf] at this; cases this
    | some p =>
      have h1 := List.mem_of_find?_eq_some hm
      have h2 := List.find?_some hm
      exact List.mem_map.mpr ⟨p, h1, (beq_iff_eq.mp h2).symm⟩
  · rw [lookup_putFl] at e
    by_cases z : g = f
    · rw [if_pos z] at e
      cases e
      subst z
      exact ⟨.ref q, hq, q, vs', rfl, upd_same, ho, hd⟩
    · rw [if_neg z] at e
      obtain ⟨v, h1, h2⟩ := h.at_ g s' e
      refine ⟨v, h1, ?_⟩
      cases s' with
      | sh d => exact h2
      | ow m =>
        obtain ⟨r, ws, g1, g2, g3, g4⟩ := h2
        have : r ≠ q := fun w => by subst w; rw [ho] at g3; cases g3; exact z rfl
        exact ⟨r, ws, g1, by rw [upd_ne this]; exact g2, g3, g4⟩
theorem Rel.updOwn (R : Rel K n δ σ G H) (ok : OwOk n G H ow) (gh : ∀ (i : Nat) (s : Sl), δ[i]? = some s → SlW K n G H ow i σ[i]? s) (hp : ow p = some (i, f)) {s' : Sl} (hs : SlW K n G (upd H p o) ow i σ[i]? s') : Rel K n (δ.set i s') σ G (upd H p o) := by
  obtain ⟨g3, g7, g8⟩ := ok.is _ _ hp
  have ne : ∀ b u, G b = some u → b ≠ p := fun b u e z => by subst z; rw [g3] at e; cases e
  refine ⟨fun b u e => by rw [upd_ne (ne b u e)]; exact R.sub b u e, R.eg, fun b u q m => ?_, fun b q => ?_, R.fr, ⟨ow, ⟨fun b k hk => ?_⟩, fun j s hj => ?_⟩, by rw [List.length_set]; exact R.len⟩
  · have : b ≠ p := fun z => by
      subst z
      rcases g8 with g8 | g8
      · rw [g8] at q; cases q
      · exact m g8
    rw [upd_ne this]; exact R.eh b u q m
  · by_cases hb : b = p
    · subst hb; rw [upd_same] at q; cases q
    · rw [upd_ne hb] at q; exact R.al b q
  · obtain ⟨h1, h2, h3⟩ := ok.is b k hk; exact ⟨h1, upd_some h2, h3⟩
  · rcases set_get hj with ⟨e, rfl, hl⟩ | ⟨e, hj⟩
    · subst e; exact hs
    · refine (gh j s hj).keep (Same.refl _) (fun _ _ z => z) fun b f' u z q => ?_
      have : b ≠ p := fun w => by subst w; rw [hp] at z; cases z; exact e rfl
      rw [upd_ne this]; exact q
theorem own_new (R : Rel K n δ σ G H) (ok : OwOk n G H ow) (gh : ∀ (i : Nat) (s : Sl), δ[i]? = some s → SlW K n G H ow i σ[i]? s) (hq : H q = none) (i : Nat) (f : Str) (o : HO) :
    OwOk n G (upd H q o) (owSet ow q (some (i, f))) ∧ ∀ (i' : Nat) (s : Sl), δ[i']? = some s → SlW K n G (upd H q o) (owSet ow q (some (i, f))) i' σ[i']? s := by
  have hne : ∀ b k, ow b = some k → b ≠ q := fun b k hk z => by subst z; exact (ok.is _ _ hk).2.1 hq
  refine ⟨⟨fun b k hk => ?_⟩, fun j s hs => ?_⟩
  · by_cases hb : b = q
    · subst hb; exact ⟨R.sub.free hq, by rw [upd_same]; exact (fun z => by cases z), .inl (R.al _ hq)⟩
    · rw [owSet_ne hb] at hk
      obtain ⟨h1, h2, h3⟩ := ok.is b k hk
      exact ⟨h1, upd_some h2, h3⟩
  · exact (gh j s hs).keep (Same.refl _) (fun b f z => by rw [owSet_ne (hne _ _ z)]; exact z) fun b f u z q => by rw [upd_ne (hne _ _ z)]; exact q
theorem fldOf_inv {C i : Nat} {d : D} (h : fldOf C i f δ = some d) : ∃ h0 fs, δ[i]? = some (.ob h0 C fs) ∧ fs.lookup f = some (.sh d) := by
  unfold fldOf at h
  split at h
  · rename_i h0 C' fs e
    split at h
    · rename_i ec
      subst ec
      split at h
      · rename_i d' e2; cases h; exact ⟨h0, fs, e, e2⟩
      · cases h
    · cases h
  · cases h
theorem lstOf_inv {C i : Nat} {l : List D} (h : lstOf C i f δ = some l) : ∃ h0 fs, δ[i]? = some (.ob h0 C fs) ∧ fs.lookup f = some (.ow l) := by
  unfold lstOf at h
  split at h
  · rename_i h0 C' fs e
    split at h
    · rename_i ec
      subst ec
      split at h
      · rename_i d' e2; cases h; exact ⟨h0, fs, e, e2⟩
      · cases h
    · cases h
  · cases h
theorem fewOf_inv {C i : Nat} (h : fewOf C i δ = true) : ∃ h0 fs, δ[i]? = some (.ob h0 C fs) ∧ fs.length < 999 := by
  unfold fewOf at h
  split at h
  · rename_i h0 C' fs e
    simp only [Bool.and_eq_true, decide_eq_true_eq] at h
    obtain ⟨rfl, h⟩ := h
    exact ⟨h0, fs, e, h⟩
  · cases h
theorem putAt_of {h0 : Option Nat} {C : Nat} (e : δ[i]? = some (.ob h0 C fs)) (s : Fl) : putAt i f s δ = δ.set i (.ob h0 C (putFl f s fs)) := by
  unfold putAt; rw [e]
/-- an attribute gets a value -/
theorem Rel.putV (R : Rel K n δ σ G H) {h0 : Option Nat} {C : Nat} {d : D} (e : δ[i]? = some (.ob h0 C fs)) (hv : Den K G v d) : ∃ a dx vfs, σ[i]? = some (some (.ref a)) ∧ H a = some (.ins C dx vfs) ∧ vfs.length = fs.length ∧
    Rel K n (δ.set i (.ob h0 C (putFl f (.sh d) fs))) σ G (upd H a (.ins C dx (putF f v vfs))) := by
  obtain ⟨ow, ok, gh⟩ := R.gh
  obtain ⟨a, dx, vfs, g1, g2, g3, g4, g5, g6, g7⟩ := gh i _ e
  refine ⟨a, dx, vfs, g1, g3, by have := congrArg List.length g7.keys; simpa using this, R.updOwn ok gh g5 ⟨a, dx, _, g1, g2, upd_same, ?_, g5, g6, ?_⟩⟩
  · rw [upd_ne (fun z => by subst z; rw [g3] at g4; cases g4)]; exact g4
  · refine FsW.put (g7.keepL fun p f vs z q => ?_) hv
    rw [upd_ne (fun z => by subst z; rw [g3] at q; cases q)]; exact q
/-- an attribute gets a new list of its own -/
theorem Rel.putL (R : Rel K n δ σ G H) {h0 : Option Nat} {C : Nat} {ds : List D} {vs : List V} (e : δ[i]? = some (.ob h0 C fs)) (hv : DenL K G vs ds) (hq : H q = none) : ∃ a dx vfs, σ[i]? = some (some (.ref a)) ∧ (upd H q (.lst vs)) a = some (.ins C dx vfs) ∧ vfs.length = fs.length ∧
    Rel K n (δ.set i (.ob h0 C (putFl f (.ow ds) fs))) σ G (upd (upd H q (.lst vs)) a (.ins C dx (putF f (.ref q) vfs))) := by
  obtain ⟨ow, ok, gh⟩ := R.gh
  have R1 : Rel K n δ σ G (upd H q (.lst vs)) := R.other (R.sub.free hq) (R.al _ hq) hq _
  obtain ⟨ok1, gh1⟩ := own_new R ok gh hq i f (.lst vs)
  obtain ⟨a, dx, vfs, g1, g2, g3, g4, g5, g6, g7⟩ := gh1 i _ e
  have qa : q ≠ a := fun z => by subst z; rw [upd_same] at g3; cases g3
  refine ⟨a, dx, vfs, g1, g3, by have := congrArg List.length g7.keys; simpa using this, R1.updOwn ok1 gh1 g5 ⟨a, dx, _, g1, g2, upd_same, ?_, g5, g6, ?_⟩⟩
  · rw [upd_ne (fun z => by subst z; rw [g3] at g4; cases g4)]; exact g4
  · refine FsW.put (g7.keepL fun p f vs z q => ?_) ⟨q, vs, rfl, ?_, owSet_same, hv⟩
    · rw [upd_ne (fun z => by subst z; rw [g3] at q; cases q)]; exact q
    · rw [upd_ne qa]; exact upd_same
/-- an attribute's list: where it is; it is changed -/
theorem Rel.fldList (R : Rel K n δ σ G H) {h0 : Option Nat} {C : Nat} {l : List D} (e : δ[i]? = some (.ob h0 C fs)) (hl : fs.lookup f = some (.ow l)) : ∃ a dx vfs q vs, σ[i]? = some (some (.ref a)) ∧ H a = some (.ins C dx vfs) ∧ vfs.lookup f = some (.ref q) ∧ H q = some (.lst vs) ∧ DenL K G vs l ∧
    ∀ (G' H' : Hp) (vs' : List V) (l' : List D), Ext G H G' H' → DenL K G' vs' l' → Rel K n (δ.set i (.ob h0 C (putFl f (.ow l') fs))) σ G' (upd H' q (.lst vs')) := by
  obtain ⟨ow, ok, gh⟩ := R.gh
  obtain ⟨a, dx, vfs, g1, g2, g3, g4, g5, g6, g7⟩ := gh i _ e
  obtain ⟨w, k1, q, vs, rfl, k2, k3, k4⟩ := g7.at_ f _ hl
  refine ⟨a, dx, vfs, q, vs, g1, g3, k1, k2, k4, fun G' H' vs' l' x hd => ?_⟩
  have ok' : OwOk n G' H' ow := ⟨fun p k hk => by
    obtain ⟨h1, h2, h3⟩ := ok.is p k hk
    refine ⟨?_, same_some x.hh h2, h3⟩
    cases q : G' p with
    | none => rfl
    | some w => exact absurd (x.fr p w q h1) h2⟩
  have gh' : ∀ (i : Nat) (s : Sl), δ[i]? = some s → SlW K n G' H' ow i σ[i]? s := fun i s hs => (gh i s hs).keep x.gg (fun _ _ z => z) fun p f u _ z => x.hh p u z
  refine (R.ext x).updOwn ok' gh' k3 ⟨a, dx, vfs, g1, g2, ?_, ?_, g5, g6, ?_⟩
  · rw [upd_ne (fun z => by subst z; rw [g3] at k2; cases k2)]; exact x.hh _ _ g3
  · rw [upd_ne (fun z => by subst z; rw [g4] at k2; cases k2)]; exact x.hh _ _ g4
  · exact (g7.keep x.gg (fun _ _ z => z) fun p f u _ z => x.hh p u z).list hl k1 k3 hd
end
def lX (K : PySem.W.Frag) (t : TXd) : TE := fun σ H Q2 => ∃ (n : En) (δ : Ev) (G : Hp) (Q : D → Prop), Rel K n δ σ G H ∧ t δ Q ∧ ∀ (v : V) (G' H' : Hp) (d : D), Ext G H G' H' → Den K G' v d → Q d → Q2 v H'
def lXA (K : PySem.W.Frag) (t : TXA) : TA := fun σ H Q2 => ∃ (n : En) (δ : Ev) (G : Hp) (Q : List D → Prop), Rel K n δ σ G H ∧ t δ Q ∧ ∀ (v : List V) (G' H' : Hp) (d : List D), Ext G H G' H' → DenL K G' v d → Q d → Q2 v H'
abbrev DX (X : Cx) (e : Expr) (t : TXd) : Prop := PE X e (lX X.K t)
abbrev DXA (X : Cx) (es : List Expr) (t : TXA) : Prop := PA X es (lXA X.K t)
section
variable {X : Cx} {a b e : Expr} {es : List Expr} {ta tb te : TXd} {t : TXA} {pos : Pos} {C : Addr} {f : Str}
theorem dx_de (h : DX X e te) : DE X e (dX te) := pe_imp h fun σ H Q2 ⟨n, δ, G, Q, R, h, k⟩ => ⟨n, δ, G, _, R, h, fun v G' H' d x dv q => k v G' H' d δ (R.ext x) x.gg dv q⟩
theorem dx_var (i : Nat) {x : Str} {pos : Pos} (hN : X.N[i]? = some x := by rfl) (hv : Vis X.env.scope x := by first | exact Or.inl rfl | exact Or.inr (Or.inl rfl) | exact Or.inr (Or.inr rfl)) (hd : (x == ("__debug__" : Str)) = false := by decide)
    (hcd : (x == ("__classdict__" : Str)) = false := by decide) : DX X (.Name x pos) (xVar i) :=
  pe_imp (pe_var hN hv hd hcd) fun σ H Q2 ⟨n, δ, G, Q, R, h, k⟩ => by
    unfold xVar at h
    split at h
    · rename_i d e
      obtain ⟨v, h1, h2⟩ := R.sl i _ e
      exact ⟨v, h1, k v G H d (Ext.refl R.sub) h2 h⟩
    · exact h.elim
theorem dxc_of {d : D} {v : V} (h : PE X e (tC v)) (hd : ∀ G, Den X.K G v d) : DX X e (xC d) := pe_imp h fun σ H Q2 ⟨n, δ, G, Q, R, h, k⟩ => k v G H d (Ext.refl R.sub) (hd G) h
theorem dx_int {i j pos} : DX X (.Constant (.int i) j pos) (xC (.int i)) := dxc_of pe_int fun _ => .int i
theorem dx_non {j pos} : DX X (.Constant .none j pos) (xC .non) := dxc_of pe_non fun _ => .non
/-- x.f -/
theorem dx_fld (i : Nat) {x : Str} {np : Pos} (c : Cls X.K C) (na : NoAttr X.K C f) (hN : X.N[i]? = some x := by rfl) (hv : Vis X.env.scope x := by first | exact Or.inl rfl | exact Or.inr (Or.inl rfl) | exact Or.inr (Or.inr rfl))
    (hd : (x == ("__debug__" : Str)) = false := by decide) (hcd : (x == ("__classdict__" : Str)) = false := by decide) (hb : attributeBase (.Name x np) f X.env (eval (.Name x np) X.env) = eval (.Name x np) X.env := by rfl) : DX X (.Attribute (.Name x np) f pos) (xFld C i f) :=
  pe_imp (pe_fld (pe_var hN hv hd hcd) hb) fun σ H Q2 ⟨n, δ, G, Q, R, h, k⟩ => by
    unfold xFld at h
    split at h
    · rename_i d e
      obtain ⟨h0, fs, e1, e2⟩ := fldOf_inv e
      obtain ⟨a, dx, vfs, g1, g2, g3, g4, ow, i', g5⟩ := R.sl i _ e1
      obtain ⟨v, k1, k2⟩ := g5.at_ f _ e2
      exact ⟨.ref a, g1, a, C, dx, vfs, v, rfl, g3, c, na, k1, k v G H d (Ext.refl R.sub) k2 h⟩
    · exact h.elim
theorem dx_bin {op : Operator} {r2 : R2} {r : RD} (ho : OpR X (binaryOp op) r2) (hs : OpS X.K r2 r) (ha : DX X a ta) (hb : DX X b tb) : DX X (.BinOp a op b pos) (xOp r ta tb) :=
  pe_imp (pe_op ho ha hb) fun σ H Q2 ⟨n, δ, G, Q, R, h, k⟩ => ⟨n, δ, G, _, R, h, fun v G1 H1 x e1 d1 h1 => ⟨n, δ, G1, _, R.ext e1, h1, fun w G2 H2 y e2 d2 h2 =>
    hs G2 H2 v w x y _ Q2 e2.gh (d1.up e2.gg) d2 h2 fun u G3 H3 d e3 d3 q3 => k u G3 H3 d ((e1.trans e2).trans e3) d3 q3⟩⟩
theorem dx_sub (ha : DX X a ta) (hb : DX X b tb) : DX X (.BinOp a .Sub b pos) (xOp (rII fun i j => .int (i - j)) ta tb) := dx_bin op_sub (os_ii fun _ _ _ => .int _) ha hb
theorem dx_add (ha : DX X a ta) (hb : DX X b tb) : DX X (.BinOp a .Add b pos) (xOp (rII fun i j => .int (i + j)) ta tb) := dx_bin op_add (os_ii fun _ _ _ => .int _) ha hb
theorem dxa_nil : DXA X [] xNil := pa_imp pa_nil fun σ H Q2 ⟨n, δ, G, Q, R, h, k⟩ => k [] G H [] (Ext.refl R.sub) .nil h
theorem dxa_cons (ha : DX X e te) (hr : DXA X es t) (hs : starEach (e :: es) X.env = (false, eval e X.env) :: starEach es X.env := by rfl) : DXA X (e :: es) (xCons te t) :=
  pa_imp (pa_cons ha hr hs) fun σ H Q2 ⟨n, δ, G, Q, R, h, k⟩ => ⟨n, δ, G, _, R, h, fun v G1 H1 d e1 d1 h1 => ⟨n, δ, G1, _, R.ext e1, h1, fun vs G2 H2 ds e2 d2 h2 =>
    k (v :: vs) G2 H2 (d :: ds) (e1.trans e2) (.cons (d1.up e2.gg) d2) h2⟩⟩
theorem dx_tup {x1} (h : DXA X es t) : DX X (.Tuple es x1 pos) (xTup t) :=
  pe_imp (L2.pe_tup h) fun σ H Q2 ⟨n, δ, G, Q, R, h, k⟩ => ⟨n, δ, G, _, R, h, fun vs G1 H1 ds e1 d1 h1 => ⟨by rw [d1.length]; exact h1.1, fun p hp =>
    k _ _ _ _ (e1.trans (.laid e1.gh hp _)) (.tup (SqT.of upd_same) (d1.up (same_upd (e1.gh.free hp) _))) h1.2⟩⟩
/-- x.f = e -/
theorem ds_setF (i : Nat) {x : Str} {np tp : Pos} {tv : TEd} (c : Cls X.K C) (na : NoAttr X.K C f) (he : DE X e tv) (hN : X.N[i]? = some x := by rfl) (hv : Vis X.env.scope x := by first | exact Or.inl rfl | exact Or.inr (Or.inl rfl) | exact Or.inr (Or.inr rfl))
    (hd : (x == ("__debug__" : Str)) = false := by decide) (hcd : (x == ("__classdict__" : Str)) = false := by decide) (hs : swapsWith e (some (.Attribute (.Name x np) f tp)) pos.line X.env = pure false := by rfl) :
    DS X (.Assign [.Attribute (.Name x np) f tp] e pos) (dSetF C i f tv) :=
  ps_imp (ps_fld (pe_var hN hv hd hcd) he hs) fun F σ H ⟨n, δ, G, E, R, h, k⟩ => ⟨n, δ, G, _, R, h, fun v G1 H1 d δ1 R1 s1 d1 ⟨h1, h2⟩ => by
    obtain ⟨h0, fs, e1, lt⟩ := fewOf_inv h1
    obtain ⟨a, dx, vfs, g1, g2, g3, R2⟩ := R1.putV (f := f) e1 d1
    rw [putAt_of e1] at h2
    exact ⟨.ref a, g1, a, C, dx, vfs, rfl, g2, c, na, by omega, k.nx _ σ G1 _ R2 h2⟩⟩
/-- x.f = [..] -/
theorem ds_setL (i : Nat) {x : Str} {np tp lp : Pos} {tv : TAd} (c : Cls X.K C) (na : NoAttr X.K C f) (he : DA X es tv) (hN : X.N[i]? = some x := by rfl) (hv : Vis X.env.scope x := by first | exact Or.inl rfl | exact Or.inr (Or.inl rfl) | exact Or.inr (Or.inr rfl))
    (hd : (x == ("__debug__" : Str)) = false := by decide) (hcd : (x == ("__classdict__" : Str)) = false := by decide) (hs : swapsWith (.List es lp) (some (.Attribute (.Name x np) f tp)) pos.line X.env = pure false := by rfl) :
    DS X (.Assign [.Attribute (.Name x np) f tp] (.List es lp) pos) (dSetL C i f tv) :=
  ps_imp (ps_fld (pe_var hN hv hd hcd) (L2.pe_lst he) hs) fun F σ H ⟨n, δ, G, E, R, h, k⟩ => ⟨n, δ, G, _, R, h, fun vs G1 H1 ds δ1 R1 s1 d1 ⟨h1, h2, h3⟩ => ⟨by rw [d1.length]; exact h1, fun p hp => by
    obtain ⟨h0, fs, e1, lt⟩ := fewOf_inv h2
    obtain ⟨a, dx, vfs, g1, g2, g3, R2⟩ := R1.putL (f := f) e1 d1 hp
    rw [putAt_of e1] at h3
    exact ⟨.ref a, g1, a, C, dx, vfs, rfl, g2, c, na, by omega, k.nx _ σ G1 _ R2 h3⟩⟩⟩
/-- x.f.append(e) -/
theorem ds_fapp (i : Nat) {x : Str} {np fp ap cp : Pos} (c : Cls X.K C) (na : NoAttr X.K C f) (he : DX X e te) (hN : X.N[i]? = some x := by rfl) (hv : Vis X.env.scope x := by first | exact Or.inl rfl | exact Or.inr (Or.inl rfl) | exact Or.inr (Or.inr rfl))
    (hd : (x == ("__debug__" : Str)) = false := by decide) (hcd : (x == ("__classdict__" : Str)) = false := by decide) (hb : attributeBase (.Name x np) f X.env (eval (.Name x np) X.env) = eval (.Name x np) X.env := by rfl)
    (hs : swapsWith (.Call (.Attribute (.Attribute (.Name x np) f fp) "append" ap) [e] [] cp) none pos.line X.env = pure false := by rfl)
    (hbase : attributeBase (.Attribute (.Name x np) f fp) "append" X.env (eval (.Attribute (.Name x np) f fp) X.env) = eval (.Attribute (.Name x np) f fp) X.env := by rfl)
    (hfew : ((backTo cp (starEach [e] X.env)).all (fun x => !x.1) && (backToKw cp (keywordEach [] X.env)).all (fun x => x.1.isSome)
      && decide ([e].length + ([] : List Keyword).length + (if ([] : List Keyword).isEmpty then 0 else 1) < 30)) = true := by rfl)
    (hline : (ap.endLine == cp.line) = true := by rfl) (hst : starEach [e] X.env = (false, eval e X.env) :: starEach [] X.env := by rfl) (hplain : (backTo cp (starEach [] X.env)).any (·.1) = false := by rfl) :
    DS X (.Expr (.Call (.Attribute (.Attribute (.Name x np) f fp) "append" ap) [e] [] cp) pos) (dFApp C i f te) :=
  ps_imp (ps_expr (pe_bm PySem.F.plainAttrs_list PySem.F.slot_list_append PySem.F.type_list_append mt_append (pe_fld (pe_var hN hv hd hcd) hb) (pa_cons he pa_nil hst) hbase hfew hline hst hplain) hs) fun F σ H ⟨n, δ, G, E, R, h, k⟩ => by
    unfold dFApp at h
    split at h
    · rename_i l el
      obtain ⟨h0, fs, e1, e2⟩ := lstOf_inv el
      obtain ⟨a, dx, vfs, q, vs, g1, g2, g3, g4, g5, g6⟩ := R.fldList e1 e2
      refine ⟨.ref a, g1, a, C, dx, vfs, .ref q, rfl, g2, c, na, g3, .inl ⟨rfl, vs, SqL.of g4⟩, n, δ, G, _, R, h, fun v G1 H1 d x1 d1 h1 => ?_⟩
      refine ⟨q, vs, v, rfl, rfl, x1.hh _ _ g4, by rw [g5.length]; exact h1.1, ?_⟩
      have h2 := h1.2
      rw [putAt_of e1] at h2
      exact k.nx _ σ G1 _ (g6 G1 H1 _ _ x1 ((g5.up x1.gg).append (.cons d1 .nil))) h2
    · exact h.elim
/-- x.f[e] -/
theorem dx_fix (i : Nat) {x : Str} {np fp : Pos} (c : Cls X.K C) (na : NoAttr X.K C f) (he : DX X e te) (hN : X.N[i]? = some x := by rfl) (hv : Vis X.env.scope x := by first | exact Or.inl rfl | exact Or.inr (Or.inl rfl) | exact Or.inr (Or.inr rfl))
    (hd : (x == ("__debug__" : Str)) = false := by decide) (hcd : (x == ("__classdict__" : Str)) = false := by decide) (hb : attributeBase (.Name x np) f X.env (eval (.Name x np) X.env) = eval (.Name x np) X.env := by rfl) (hp : PlainIx e := by exact fun _ _ => rfl) :
    DX X (.Subscript (.Attribute (.Name x np) f fp) e pos) (dFIx C i f te) :=
  pe_imp (pe_ix ix_seq (pe_fld (pe_var hN hv hd hcd) hb) he hp) fun σ H Q2 ⟨n, δ, G, Q, R, h, k⟩ => by
    unfold dFIx at h
    split at h
    · rename_i l el
      obtain ⟨h0, fs, e1, e2⟩ := lstOf_inv el
      obtain ⟨a, dx, vfs, q, vs, g1, g2, g3, g4, g5, g6⟩ := R.fldList e1 e2
      refine ⟨.ref a, g1, a, C, dx, vfs, .ref q, rfl, g2, c, na, g3, n, δ, G, _, R, h, fun v G1 H1 d x1 d1 h1 => ?_⟩
      split at h1
      · cases d1.int_inv
        obtain ⟨d, ed, hq⟩ := h1
        obtain ⟨w, h1, h2⟩ := atI_den (g5.up x1.gg) ed
        exact .inl ⟨q, vs, _, w, rfl, rfl, SqL.of (x1.hh _ _ g4), h1, k _ G1 H1 _ x1 h2 hq⟩
      · exact h1.elim
    · exact h.elim
theorem get_list : PGet X (rIxL X.K) := by
  intro pins s σ H x y v u Q I rx ry h
  obtain ⟨p, xs, i, z, rfl, rfl, hq, he, q⟩ := h
  cases rx
  obtain ⟨t, rfl⟩ := ry
  obtain ⟨its, r, pl, hz⟩ := I.list hq
  obtain ⟨j, h1, h2, h3, h4, h5⟩ := atI_get he
  obtain ⟨w, ew, rw'⟩ := r.get h2
  have hl := r.length
  have hn := line63
  have fin : EP X pins σ Q w s := ⟨z, H, I, rw', q⟩
  by_cases h0 : 0 ≤ i
  · have hj : i.toNat = j := by
      rw [seqIndex_of h0 h5] at h1
      exact Option.some.inj h1
    exact wpAny_getItem_list pl.isList h0 (by omega) (by rw [hj]; simpa using ew) fin
  · have hj : (i + (its.toArray.size : Int)).toNat = j := by
      rw [seqIndex_neg (by omega) h4] at h1
      rw [List.size_toArray, ← hl]
      exact Option.some.inj h1
    exact wpAny_getItem_list_neg pl.isList (by omega) (by rw [List.size_toArray] <;> omega) (by omega) (by rw [hj]; simpa using ew) fin
theorem denl_set' {K : PySem.W.Frag} {G : Hp} {vs : List V} {ds : List D} (h : DenL K G vs ds) (j : Nat) {v : V} {d : D} (hv : Den K G v d) : DenL K G (vs.set j v) (ds.set j d) := by
  induction vs generalizing ds j with
  | nil => cases h; exact .nil
  | cons x r ih =>
    cases h with
    | cons a b =>
      cases j with
      | zero => exact .cons hv b
      | succ j => exact .cons a (ih b j)
/-- x.f[e] op= z -/
theorem ds_faug (i : Nat) {x : Str} {np fp tp : Pos} {z : Expr} {tz : TXd} {op : Operator} {g : Int → Int → Int} (c : Cls X.K C) (na : NoAttr X.K C f) (hg : PIp X op (ipI g)) (he : DX X e te) (hz : DX X z tz) (hN : X.N[i]? = some x := by rfl) (hv : Vis X.env.scope x := by first | exact Or.inl rfl | exact Or.inr (Or.inl rfl) | exact Or.inr (Or.inr rfl))
    (hd : (x == ("__debug__" : Str)) = false := by decide) (hcd : (x == ("__classdict__" : Str)) = false := by decide) (hb : attributeBase (.Name x np) f X.env (eval (.Name x np) X.env) = eval (.Name x np) X.env := by rfl)
    (ha : ∀ ov iv new, augStore e ov iv new = (do holding [new, ov, iv] (setItem ov iv new); release [new, ov, iv] []; pure .next) := by intros; rfl) :
    DS X (.AugAssign (.Subscript (.Attribute (.Name x np) f fp) e tp) op z pos) (dFAug C i f g te tz) :=
  ps_imp (ps_augS (pe_fld (pe_var hN hv hd hcd) hb) he get_list hz hg set_list ha) fun F σ H ⟨n, δ, G, E, R, h, k⟩ => by
    unfold dFAug at h
    split at h
    · rename_i l el
      obtain ⟨h0, fs, e1, e2⟩ := lstOf_inv el
      obtain ⟨a, dx, vfs, q, vs, g1, g2, g3, g4, g5, g6⟩ := R.fldList e1 e2
      refine ⟨.ref a, g1, a, C, dx, vfs, .ref q, rfl, g2, c, na, g3, n, δ, G, _, R, h, fun v G1 H1 d x1 d1 h1 => ?_⟩
      split at h1
      · rename_i kk
        cases d1.int_inv
        obtain ⟨j, xx, ej, ex, h1⟩ := h1
        obtain ⟨w, w1, w2⟩ := atI_den (g5.up x1.gg) ex
        cases w2.int_inv
        refine ⟨q, vs, _, _, rfl, rfl, SqL.of (x1.hh _ _ g4), w1, n, δ, G1, _, R.ext x1, h1, fun v2 G2 H2 d2 x2 dd2 h2 => ?_⟩
        split at h2
        · cases dd2.int_inv
          refine ⟨_, _, rfl, rfl, q, vs, kk, j, rfl, rfl, x2.hh _ _ (x1.hh _ _ g4), by rw [g5.length]; exact ej, ?_⟩
          rw [putAt_of e1] at h2
          exact k.nx _ σ G2 _ (g6 G2 H2 _ _ (x1.trans x2) (denl_set' (g5.up (x1.trans x2).gg) j (.int _))) h2
        · exact h2.elim
      · exact h1.elim
    · exact h.elim
/-- list(x.f) -/
theorem de_flist (i : Nat) {x : Str} {np fp p : Pos} (c : Cls X.K C) (na : NoAttr X.K C f) (hm : X.mg "list" = none) (hN : X.N[i]? = some x := by rfl) (hv : Vis X.env.scope x := by first | exact Or.inl rfl | exact Or.inr (Or.inl rfl) | exact Or.inr (Or.inr rfl))
    (hd : (x == ("__debug__" : Str)) = false := by decide) (hcd : (x == ("__classdict__" : Str)) = false := by decide) (hb : attributeBase (.Name x np) f X.env (eval (.Name x np) X.env) = eval (.Name x np) X.env := by rfl)
    (hg : Gl X "list" := by rfl) (he : starEach [.Attribute (.Name x np) f fp] X.env = (false, eval (.Attribute (.Name x np) f fp) X.env) :: starEach [] X.env := by rfl) (hpl : (backTo pos (starEach [] X.env)).any (·.1) = false := by rfl) :
    DE X (.Call (.Name "list" p) [.Attribute (.Name x np) f fp] [] pos) (dFList C i f) :=
  pe_imp (pe_callTy call_list_of hg hm rfl (pa_cons (pe_fld (pe_var hN hv hd hcd) hb) pa_nil he) (by decide) (by decide) he hpl) fun σ H Q2 ⟨n, δ, G, Q, R, h, k⟩ => by
    unfold dFList at h
    split at h
    · rename_i l el
      obtain ⟨h0, fs, e1, e2⟩ := lstOf_inv el
      obtain ⟨a, dx, vfs, q, vs, g1, g2, g3, g4, g5, g6⟩ := R.fldList e1 e2
      refine ⟨.ref a, g1, a, C, dx, vfs, .ref q, rfl, g2, c, na, g3, q, vs, rfl, .inl (SqL.of g4), fun p hp => ?_⟩
      exact k _ _ _ _ δ (R.laid hp _) (same_upd (R.sub.free hp) _) (.lst (SqL.of upd_same) (g5.up (same_upd (R.sub.free hp) _))) h
    · exact h.elim
end
/-- a new instance, and its __init__ -/
theorem make_core {K : PySem.W.Frag} {n : En} {δ1 : Ev} {σ : L2.St} {G1 H1 : Hp} {vs : List V} {ds : List D} {S : SpO} {y dy C : Addr} {Qf : Nat → List (Str × Fl) → Prop} {Q2 : Hp → Prop} (i : Nat) (R1 : Rel K n δ1 σ G1 H1) (d1 : DenL K G1 vs ds) (hy : H1 y = none) (hdy : H1 dy = none) (ne : dy ≠ y)
    (h1 : S (.o C [] :: ds.map .v) fun d outs => match d, outs with
      | .non, .o C' fs :: _ => Qf C' fs
      | _, _ => False)
    (k : ∀ C' fs G2 H2, Same G1 G2 → Rel K n (δ1.set i (.ob none C' fs)) (σ.set i (some (.ref y))) G2 H2 → Qf C' fs → Q2 H2) : spO K S (.ref y :: vs) (upd (upd H1 dy (.own y)) y (.ins C dy [])) (fun v H2 => v = .non ∧ Q2 H2) E0 := by
  have nd : (upd H1 dy (.own y)) y = none := by rw [upd_ne (Ne.symm ne)]; exact hy
  have R2 : Rel K n δ1 σ G1 (upd H1 dy (.own y)) := R1.other (R1.sub.free hdy) (R1.al _ hdy) hdy _
  have R3 : Rel K n δ1 σ G1 (upd (upd H1 dy (.own y)) y (.ins C dy [])) := R2.other (R2.sub.free nd) (R2.al _ nd) nd _
  have hown : ∀ p, (owSet (owSet (fun _ => none) dy (some (0, ("" : Str)))) y (some (0, ("" : Str)))) p ≠ none → p = y ∨ p = dy := fun p hp => by
    by_cases h1 : p = y
    · exact .inl h1
    · rw [owSet_ne h1] at hp
      by_cases h2 : p = dy
      · exact .inr h2
      · rw [owSet_ne h2] at hp; exact absurd rfl hp
  have h1none : ∀ p, p = y ∨ p = dy → H1 p = none := fun p hp => by
    rcases hp with rfl | rfl
    · exact hy
    · exact hdy
  refine ⟨G1, _, _, owSet (owSet (fun _ => none) dy (some (0, ("" : Str)))) y (some (0, ("" : Str))), R3.sub, by simp [d1.length], ⟨fun k a v ka kv => ?_⟩, fun p k hp => ?_, h1, fun v G2 H2 d outs ow' e2 dv w2 o2 q2 => ?_⟩
  · cases k with
    | zero =>
      simp only [List.getElem?_cons_zero, Option.some.injEq] at ka kv
      subst ka kv
      exact ⟨y, dy, [], rfl, upd_same, by rw [upd_ne ne]; exact upd_same, owSet_same, by rw [owSet_ne ne]; exact owSet_same, ⟨rfl, fun f s z => by cases z⟩⟩
    | succ k =>
      simp only [List.getElem?_cons_succ, List.getElem?_map] at ka kv
      cases q : ds[k]? with
      | none => rw [q] at ka; cases ka
      | some d =>
        rw [q] at ka; cases ka
        obtain ⟨v', g1, g2⟩ := d1.get q
        rw [kv] at g1; cases g1
        exact g2
  · have hp' := hown p (fun z => by rw [z] at hp; cases hp)
    refine ⟨R1.sub.free (h1none p hp'), ?_⟩
    rcases hp' with rfl | rfl
    · rw [upd_same]; exact fun z => by cases z
    · rw [upd_ne ne, upd_same]; exact fun z => by cases z
  · show v = .non ∧ Q2 H2
    cases outs with
    | nil => cases d <;> exact q2.elim
    | cons a0 outs =>
      cases a0 with
      | o C' fs =>
        cases d with
        | non =>
          refine ⟨dv.non_inv, ?_⟩
          obtain ⟨a1, a2, a3, a4, a5⟩ := R3.after e2 (fun p hp => .inl (R1.al p (h1none p (hown p hp))))
          obtain ⟨ow, ok, gh⟩ := R1.gh
          obtain ⟨a, dx, vfs, g1, g2, g3, g4, g5, g6⟩ := w2.at_ 0 _ _ rfl rfl
          cases g1
          have owN : ∀ p jf, ow p = some jf → ow' p = none ∧ H2 p = H1 p ∧ G2 p = none := fun p jf z => by
            obtain ⟨h1, h2, h3⟩ := ok.is p jf z
            have np : ¬ (p = y ∨ p = dy) := fun w => h2 (h1none p w)
            have h3p : (upd (upd H1 dy (.own y)) y (.ins C dy [])) p = H1 p := by rw [upd_ne (fun w => np (.inl w)), upd_ne (fun w => np (.inr w))]
            refine ⟨?_, ?_, ?_⟩
            · cases q : ow' p with
              | none => rfl
              | some kf =>
                obtain ⟨j1, j2, j3⟩ := o2 p kf q
                rcases j3 with j3 | j3
                · rw [h3p] at j3; exact absurd j3 h2
                · exact absurd (hown p j3) np
            · cases q : H1 p with
              | none => exact absurd q h2
              | some u => exact e2.hh p u (by rw [h3p]; exact q) fun w => np (hown p w)
            · cases q : G2 p with
              | none => rfl
              | some u => have := e2.fr p u q h1; rw [h3p] at this; exact absurd this h2
          refine k C' fs G2 H2 e2.gg ⟨a1, a2, a3, a4, a5, ⟨fun p => match ow' p with
            | some (0, f) => some (i, f)
            | some _ => none
            | none => ow p, ⟨fun p jf hj => ?_⟩, fun j s hs => ?_⟩, by rw [List.length_set, List.length_set]; exact R1.len⟩ q2
          · cases q : ow' p with
            | some kf =>
              obtain ⟨j1, j2, j3⟩ := o2 p kf q
              refine ⟨j1, j2, .inl ?_⟩
              rcases j3 with j3 | j3
              · exact R3.al p j3
              · exact R1.al p (h1none p (hown p j3))
            | none =>
              simp only [q] at hj
              obtain ⟨h1, h2, h3⟩ := ok.is p jf hj
              obtain ⟨_, n2, n3⟩ := owN p jf hj
              exact ⟨n3, by rw [n2]; exact h2, h3⟩
          · have hO : ∀ p f, ow' p = some (0, f) → (match ow' p with | some (0, f) => some (i, f) | some _ => none | none => ow p) = some (i, f) := fun p f z => by simp only [z]
            rcases set_get hs with ⟨e, rfl, hl⟩ | ⟨e, hs⟩
            · subst e
              exact ⟨_, dx, vfs, List.getElem?_set_self (Nat.lt_of_lt_of_le hl (Nat.le_of_eq R1.len)), (fun a0 z => by cases z), g2, g3, hO _ _ g4, hO _ _ g5, g6.keep (Same.refl _) hO fun _ _ _ _ z => z⟩
            · rw [List.getElem?_set_ne e]
              refine (gh j s hs).keep e2.gg (fun p f z => ?_) fun p f u z q => ?_
              · simp only [(owN p _ z).1]; exact z
              · rw [(owN p _ z).2.1]; exact q
        | _ => exact q2.elim
      | _ => cases d <;> exact q2.elim
/-- x = C(..) -/
theorem ds_make {X : Cx} (i : Nat) {x cn : Str} {p pos pos' cpos : Pos} {e : Expr} {es : List Expr} {t : TAd} {S : SpO} {k : Nat} {f C : Addr} {fd : FuncData} {ps : List Str} (hN : X.N.Nodup) (M : Mk X.K C f) (F : FnOk X.prog X.w X.K X.mg X.base CX0 k f fd ps (spO X.K S)) (hr : Room (k + 1) X.A) (hm : X.mg cn = some (.ref C)) (hb : Binds X.K fd ps [])
    (ha : DA X (e :: es) t) (hi : X.N[i]? = some x := by rfl) (hx : Loc X.env.scope x := by first | exact Or.inl rfl | exact Or.inr rfl) (hs : swapsWith (.Call (.Name cn p) (e :: es) [] cpos) (some (.Name x pos')) pos.line X.env = pure false := by rfl)
    (hf : X.fn x = true ∨ X.env.scope.names.lookup x = some .local := by first | exact .inl rfl | exact .inr rfl | assumption) (hg : Gl X cn := by rfl) (hdb : (cn == ("__debug__" : Str)) = false := by decide)
    (he : starEach (e :: es) X.env = (false, eval e X.env) :: starEach es X.env := by rfl) (hpl : (backTo cpos (starEach es X.env)).any (·.1) = false := by rfl) :
    DS X (.Assign [.Name x pos'] (.Call (.Name cn p) (e :: es) [] cpos) pos) (dMake i C S t) :=
  ps_imp (ps_set (i := i) hN hi hx (pe_make M F hr hg hm hb .nil pass0 ha hdb he hpl) hs hf) fun F σ H ⟨n, δ, G, E, R, h, k⟩ => ⟨n, δ, G, _, R, h, fun vs G1 H1 ds δ1 R1 s1 d1 h1 y dy hy hdy ne => by
    show spO X.K S (.ref y :: (vs ++ [])) _ _ E0
    rw [List.append_nil]
    exact make_core i R1 d1 hy hdy ne h1 fun C' fs G2 H2 s2 R2 q => k.nx _ _ G2 H2 R2 q⟩
end Dl

namespace Dl
open PySem PySem.Spec PyProof.Rows L2
/-! ## more on attributes: walked in a comprehension; a list that was handed in -/
def diF (C i : Nat) (f : Str) : TId := fun δ Q => match lstOf C i f δ with
  | some l => Q l δ
  | none => False
def dAppM (i : Nat) (tx : TXd) : TSd := fun E δ => match δ[i]? with
  | some (.mu a l) => tx δ fun d => l.length < sizeLine ∧ E.nx (δ.set i (.mu a (l ++ [d])))
  | _ => False
/-- a != xs, xs a list of one's own -/
def dNeOw (i : Nat) (ta : TEd) : TTd := fun δ Q => ta δ fun d δ1 => match δ1[i]? with
  | some (.ow l) => okEq d (.lst l) ∧ Q (!eqD d (.lst l)) δ1
  | _ => False
section
variable {X : Cx} {e : Expr} {te : TXd} {pos : Pos} {C : Addr} {f : Str}
end
end Dl

namespace L2
open PySem PySem.Spec PyProof.Rows

/-! ### lists of pairs as tables -/
section
variable {κ : Type} [DecidableEq κ]
def valV (kvs : List (κ × V)) (k : κ) : Option V := (kvs.find? fun kv => decide (kv.1 = k)).map (·.2)
/-- in its place, or at the end -/
def putK (kvs : List (κ × V)) (k : κ) (v : V) : List (κ × V) :=
  if (kvs.any fun kv => decide (kv.1 = k)) = true then kvs.map (fun kv => if kv.1 = k then (kv.1, v) else kv) else kvs ++ [(k, v)]
def dropK (kvs : List (κ × V)) (k : κ) : List (κ × V) := kvs.filter fun kv => decide (kv.1 ≠ k)

theorem valV_pos {p : κ × V} {r : List (κ × V)} {k : κ} (e : p.1 = k) : valV (p :: r) k = some p.2 := by simp [valV, List.find?_cons, e]
theorem valV_neg {p : κ × V} {r : List (κ × V)} {k : κ} (e : ¬ p.1 = k) : valV (p :: r) k = valV r k := by simp [valV, List.find?_cons, e]
theorem valV_any (k : κ) : ∀ kvs : List (κ × V), (kvs.any fun kv => decide (kv.1 = k)) = (valV kvs k).isSome
  | [] => rfl
  | p :: r => by
    rw [List.any_cons]
    by_cases e : p.1 = k
    · simp only [valV_pos e, decide_eq_true e, Bool.true_or, Option.isSome_some]
    · rw [valV_neg e, decide_eq_false e, Bool.false_or]; exact valV_any k r
theorem length_putK (kvs : List (κ × V)) (k : κ) (v : V) : (putK kvs k v).length ≤ kvs.length + 1 := by
  unfold putK
  split
  · rw [List.length_map]; omega
  · rw [List.length_append, List.length_cons, List.length_nil]; omega
theorem putK_new {kvs : List (κ × V)} {k : κ} (v : V) (h : valV kvs k = none) : putK kvs k v = kvs ++ [(k, v)] := by
  unfold putK
  rw [valV_any, h]
  exact if_neg (by decide)

theorem RelO.isSome_eq {o : Option V} {u : Option Value} (r : RelO o u) : o.isSome = u.isSome := by
  cases o with
  | none => cases u with
    | none => rfl
    | some _ => exact (show False from r).elim
  | some _ => cases u with
    | none => exact (show False from r).elim
    | some _ => rfl
theorem RelO.getD {o : Option V} {u : Option Value} {d : V} {d' : Value} (r : RelO o u) (rd : RelV d d') : RelV (o.getD d) (u.getD d') := by
  cases o with
  | none => cases u with
    | none => exact rd
    | some _ => exact (show False from r).elim
  | some _ => cases u with
    | none => exact (show False from r).elim
    | some _ => exact r

/-- raw tables of the same keys -/
theorem KV.val {kvs : List (κ × V)} {vs : List (κ × Value)} (r : KV kvs vs) (k : κ) : RelO (valV kvs k) (valueAt vs k) := by
  unfold KV at r
  induction r with
  | nil => exact True.intro
  | @cons p q ps qs h t ih =>
    obtain ⟨h1, h2⟩ := h
    by_cases e : p.1 = k
    · have e' : q.1 = k := h1.symm.trans e
      have b : valueAt (q :: qs) k = some q.2 := by simp [valueAt, List.find?_cons, e']
      rw [valV_pos e, b]; exact h2
    · have e' : ¬ q.1 = k := fun z => e (h1.trans z)
      have b : valueAt (q :: qs) k = valueAt qs k := by simp [valueAt, List.find?_cons, e']
      rw [valV_neg e, b]; exact ih
theorem KV.any {kvs : List (κ × V)} {vs : List (κ × Value)} (r : KV kvs vs) (k : κ) : (kvs.any fun kv => decide (kv.1 = k)) = vs.any fun kv => decide (kv.1 = k) := by
  unfold KV at r
  induction r with
  | nil => rfl
  | cons h t ih => rw [List.any_cons, List.any_cons, ih, h.1]
theorem KV.repl {kvs : List (κ × V)} {vs : List (κ × Value)} (r : KV kvs vs) (k : κ) {y : V} {u : Value} (ry : RelV y u) :
    KV (kvs.map fun kv => if kv.1 = k then (kv.1, y) else kv) (vs.map fun kv => if kv.1 = k then (kv.1, u) else kv) := by
  unfold KV at r ⊢
  induction r with
  | nil => exact .nil
  | @cons p q ps qs h t ih =>
    rw [List.map_cons, List.map_cons]
    refine .cons ?_ ih
    obtain ⟨h1, h2⟩ := h
    by_cases e : p.1 = k
    · rw [if_pos e, if_pos (h1.symm.trans e)]; exact ⟨h1, ry⟩
    · rw [if_neg e, if_neg (fun z => e (h1.trans z))]; exact ⟨h1, h2⟩
theorem KV.put {kvs : List (κ × V)} {vs : List (κ × Value)} (r : KV kvs vs) (k : κ) {y : V} {u : Value} (ry : RelV y u) : KV (putK kvs k y) (stored vs k u) := by
  unfold putK stored
  rw [r.any k]
  by_cases e : (vs.any fun kv => decide (kv.1 = k)) = true
  · rw [if_pos e, if_pos e]; exact r.repl k ry
  · rw [if_neg e, if_neg e]; exact Paired.snoc r ⟨rfl, ry⟩
theorem KV.drop {kvs : List (κ × V)} {vs : List (κ × Value)} (r : KV kvs vs) (k : κ) : KV (dropK kvs k) (without vs k) := by
  unfold KV at r ⊢
  unfold dropK without
  induction r with
  | nil => exact .nil
  | @cons p q ps qs h t ih =>
    obtain ⟨h1, h2⟩ := h
    rw [List.filter_cons, List.filter_cons]
    by_cases e : p.1 = k
    · have a : ¬ decide (p.1 ≠ k) = true := by simp [e]
      have b : ¬ decide (q.1 ≠ k) = true := by simp [h1.symm.trans e]
      rw [if_neg a, if_neg b]; exact ih
    · have e' : ¬ q.1 = k := fun z => e (h1.trans z)
      have a : decide (p.1 ≠ k) = true := by simp [e]
      have b : decide (q.1 ≠ k) = true := by simp [e']
      rw [if_pos a, if_pos b]; exact .cons ⟨h1, h2⟩ ih
theorem KV.keys {kvs : List (κ × V)} {vs : List (κ × Value)} (r : KV kvs vs) : kvs.map (·.1) = vs.map (·.1) := by
  unfold KV at r
  induction r with
  | nil => rfl
  | cons h t ih => rw [List.map_cons, List.map_cons, ih, h.1]
theorem KV.length {kvs : List (κ × V)} {vs : List (κ × Value)} (r : KV kvs vs) : kvs.length = vs.length := Paired.length r
end


/-! ### a tracked dict, its keys ints and texts or tuples of these -/
theorem kV_is {P : Program} {w : World} {k : Key} {u : Value} (r : RelV (kV k) u) : (mixKind P w).is k u = true := by
  cases k with
  | inl i => obtain ⟨t, e⟩ := (show ∃ t, u = Value.int i t from r); subst e; exact mixKind_int P w i t
  | inr x => obtain ⟨t, e⟩ := (show ∃ t, u = Value.str x t from r); subst e; exact mixKind_str P w x t
theorem items_are {P : Program} {w : World} : ∀ {ks : List Key} {us : List Value}, Vals (ks.map kV) us → ItemsAre (mixKind P w) ks us
  | [], _, r => by rw [List.map_nil] at r; cases r; exact .nil
  | k :: ks, _, r => by
    rw [List.map_cons] at r
    cases r with
    | cons h t => exact .cons (kV_is h) (items_are t)

/-- raw entries of a dict with tuple keys -/
abbrev KT (H : Hp) : List (List Key × V) → List (List Key × Addr × Value) → Prop := Paired fun p q => p.1 = q.1 ∧ H q.2.1 = some (.tup (p.1.map kV)) ∧ RelV p.2 q.2.2
theorem KT.val {H : Hp} {kvs : List (List Key × V)} {xs : List (List Key × Addr × Value)} (r : KT H kvs xs) (k : List Key) : RelO (valV kvs k) ((atKey xs k).map (·.2)) := by
  induction r with
  | nil => exact True.intro
  | @cons p q ps qs h t ih =>
    obtain ⟨h1, _, h2⟩ := h
    by_cases e : p.1 = k
    · have e' : q.1 = k := h1.symm.trans e
      have b : atKey (q :: qs) k = some q.2 := by simp [atKey, List.find?_cons, e']
      rw [valV_pos e, b]; exact h2
    · have e' : ¬ q.1 = k := fun z => e (h1.trans z)
      have b : atKey (q :: qs) k = atKey qs k := by simp [atKey, List.find?_cons, e']
      rw [valV_neg e, b]; exact ih
theorem KT.repl {H : Hp} {kvs : List (List Key × V)} {xs : List (List Key × Addr × Value)} (r : KT H kvs xs) (k : List Key) {y : V} {u : Value} (ry : RelV y u) :
    KT H (kvs.map fun kv => if kv.1 = k then (kv.1, y) else kv) (xs.map (putAt k u)) := by
  induction r with
  | nil => exact .nil
  | @cons p q ps qs h t ih =>
    rw [List.map_cons, List.map_cons]
    refine .cons ?_ ih
    obtain ⟨h1, h2, h3⟩ := h
    unfold putAt
    by_cases e : p.1 = k
    · rw [if_pos e, if_pos (h1.symm.trans e)]; exact ⟨h1, h2, ry⟩
    · rw [if_neg e, if_neg (fun z => e (h1.trans z))]; exact ⟨h1, h2, h3⟩
theorem KT.put {H : Hp} {kvs : List (List Key × V)} {xs : List (List Key × Addr × Value)} (r : KT H kvs xs) (k : List Key) {b : Addr} {y : V} {u : Value} (hb : H b = some (.tup (k.map kV))) (ry : RelV y u) :
    KT H (putK kvs k y) (storedH xs k b u) := by
  have e : (kvs.any fun kv => decide (kv.1 = k)) = (atKey xs k).isSome := by
    rw [valV_any, (r.val k).isSome_eq, Option.isSome_map]
  unfold putK storedH
  rw [e]
  by_cases q : (atKey xs k).isSome = true
  · rw [if_pos q, if_pos q]; exact r.repl k ry
  · rw [if_neg q, if_neg q]; exact Paired.snoc r ⟨rfl, hb, ry⟩
theorem KT.keeps {H H' : Hp} {kvs : List (List Key × V)} {xs : List (List Key × Addr × Value)} (r : KT H kvs xs) (ht : ∀ b ys, H b = some (.tup ys) → H' b = some (.tup ys)) : KT H' kvs xs :=
  Paired.mapP r fun _ _ z => ⟨z.1, ht _ _ z.2.1, z.2.2⟩

section
variable {P : Program} {w : World} {H : Hp} {h : Heap} {a : Addr}
theorem rd_of {u : HO} (ok : HOk P w H h) (e : Rd H a u) : ObjOk P w H h a u := e.ok ok
theorem dk_rd {kvs : List (Key × V)} (ok : HOk P w H h) (e : Rd H a (.dK kvs)) : kvs.length ≤ sizeLine ∧ (a == sysModules) = false ∧ ∃ vs, KV kvs vs ∧ h.DictOf (mixKind P w) a vs :=
  show ObjOk P w H h a (.dK kvs) from rd_of ok e
theorem dk_of {kvs : List (Key × V)} (ok : HOk P w H h) (e : H a = some (.dK kvs)) : kvs.length ≤ sizeLine ∧ (a == sysModules) = false ∧ ∃ vs, KV kvs vs ∧ h.DictOf (mixKind P w) a vs := dk_rd ok (.inl e)
/-- a tracked tuple of ints and texts is a key -/
theorem key_of {ks : List Key} (ok : HOk P w H h) (e : H a = some (.tup (ks.map kV))) : (tupleKind (mixKind P w)).is h ks a := by
  obtain ⟨_, its, r, o, h1, h2, n, h3⟩ := (show ObjOk P w H h a (.tup (ks.map kV)) from ok a _ e)
  exact ⟨o, its.toArray, n, h1, h2, h3, by simpa using items_are r⟩
theorem dt_rd {kvs : List (List Key × V)} (ok : HOk P w H h) (e : Rd H a (.dT kvs)) : kvs.length ≤ sizeLine ∧ (a == sysModules) = false ∧
    ∃ xs, KT H kvs xs ∧ h.DictOfH (tupleKind (mixKind P w)) a xs := by
  obtain ⟨z, y, xs, r, o, es, ep, h1, h2, h3, h4, h5⟩ := (show ObjOk P w H h a (.dT kvs) from rd_of ok e)
  refine ⟨z, y, xs, r, o, es, ep, h1, h2, h3, h4, fun x hx => ?_, h5⟩
  have all : ∀ {l : List (List Key × V)} {m : List (List Key × Addr × Value)}, KT H l m → ∀ x ∈ m, (tupleKind (mixKind P w)).is h x.1 x.2.1 := by
    intro l m q
    induction q with
    | nil => intro x hx; exact nomatch hx
    | @cons p q ps qs hq t ih =>
      intro x hx
      rcases List.mem_cons.mp hx with e | hx
      · subst e
        exact key_of ok (by rw [← hq.1]; exact hq.2.1)
      · exact ih x hx
  exact all r x hx
theorem dt_of {kvs : List (List Key × V)} (ok : HOk P w H h) (e : H a = some (.dT kvs)) : kvs.length ≤ sizeLine ∧ (a == sysModules) = false ∧
    ∃ xs, KT H kvs xs ∧ h.DictOfH (tupleKind (mixKind P w)) a xs := dt_rd ok (.inl e)
end

/-- what the dict at a holds at the key y -/
def DGet (H : Hp) (a : Addr) (y : V) (r : Option V) : Prop :=
  (∃ kvs k, Rd H a (.dK kvs) ∧ y = kV k ∧ r = valV kvs k) ∨ ∃ kvs k b, Rd H a (.dT kvs) ∧ y = .ref b ∧ H b = some (.tup (k.map kV)) ∧ r = valV kvs k
/-- the heap behind a[y] = v -/
def DPut (H : Hp) (a : Addr) (y v : V) (H' : Hp) : Prop :=
  (∃ kvs k, H a = some (.dK kvs) ∧ y = kV k ∧ kvs.length < sizeLine ∧ H' = upd H a (.dK (putK kvs k v))) ∨
  ∃ kvs k b, H a = some (.dT kvs) ∧ y = .ref b ∧ H b = some (.tup (k.map kV)) ∧ kvs.length < sizeLine ∧ H' = upd H a (.dT (putK kvs k v))
theorem DGet.k {H : Hp} {a : Addr} {kvs : List (Key × V)} {k : Key} (e : H a = some (.dK kvs)) : DGet H a (kV k) (valV kvs k) := .inl ⟨kvs, k, .inl e, rfl, rfl⟩
theorem DGet.t {H : Hp} {a b : Addr} {kvs : List (List Key × V)} {k : List Key} (e : H a = some (.dT kvs)) (eb : H b = some (.tup (k.map kV))) : DGet H a (.ref b) (valV kvs k) := .inr ⟨kvs, k, b, .inl e, rfl, eb, rfl⟩
theorem DPut.k {H : Hp} {a : Addr} {kvs : List (Key × V)} {k : Key} {v : V} (e : H a = some (.dK kvs)) (hl : kvs.length < sizeLine) : DPut H a (kV k) v (upd H a (.dK (putK kvs k v))) := .inl ⟨kvs, k, e, rfl, hl, rfl⟩
theorem DPut.t {H : Hp} {a b : Addr} {kvs : List (List Key × V)} {k : List Key} {v : V} (e : H a = some (.dT kvs)) (eb : H b = some (.tup (k.map kV))) (hl : kvs.length < sizeLine) :
    DPut H a (.ref b) v (upd H a (.dT (putK kvs k v))) := .inr ⟨kvs, k, b, e, rfl, eb, hl, rfl⟩


section
variable {X : Cx} {pins : List (Addr × Obj)} {σ : St} {H : Hp} {s : Shared} {a : Addr} {y v : V} {u r : Value} {o : Option V} {A : Around} {E : Value → Shared → Prop}

theorem Inv.big (I : Inv X pins σ H s) : sysModules < s.heap.objs.size := by
  have h : mainGlobals < s.heap.objs.size := (I.mod.glob.keeps I.bk).lt
  exact Nat.lt_trans (by decide) h

/-- d[y], there -/
theorem d_getItem {Q : Value → Shared → Prop} (hu : A.units + 1 < cLine) (I : Inv X pins σ H s) (g : DGet H a y (some v)) (ry : RelV y u) (h : ∀ w' s', Inv X pins σ H s' → RelV v w' → Q w' s') :
    wpAny (model X.prog X.w) A (getItem (.ref a) u) Q E s := by
  rcases g with ⟨kvs, k, e, ey, l⟩ | ⟨kvs, k, b, e, ey, eb, l⟩
  · subst ey
    obtain ⟨z, hd, vs, rel, dd⟩ := dk_rd I.hok e
    obtain ⟨w', hw, rw'⟩ := RelO.some_of (v := v) (o := valueAt vs k) (by rw [l]; exact rel.val k)
    exact wpAny_getItem_of (kV_is ry) dd.mapOf hw (h w' _ (I.tok _) rw')
  · subst ey
    cases (show u = Value.ref b from ry)
    obtain ⟨z, hd, xs, rel, dd⟩ := dt_rd I.hok e
    obtain ⟨w', hw, rw'⟩ := RelO.some_of (v := v) (o := (atKey xs k).map (·.2)) (by rw [l]; exact rel.val k)
    obtain ⟨p, hp, hp2⟩ := Option.map_eq_some_iff.mp hw
    refine wpAny_getItem_heap (tupleKind_room_in1 hu) (key_of I.hok eb) dd hp ?_
    rw [hp2]
    exact h w' _ (I.tok _) rw'
/-- a dict's object is replaced -/
theorem d_write {h' : Heap} {t' : Nat} {ob : HO} (I : Inv X pins σ H s) (mu : Mut (H a)) (hs : Heap.SameBut a s.heap h') (he : ∃ q, h'.get? a = some q) (new : ObjOk X.prog X.w (upd H a ob) h' a ob) :
    Inv X pins σ (upd H a ob) { s with heap := h', toks := t' } :=
  I.write (x := a) (e := a) mu (.inl rfl) (fun b q hb z => (hs.2 b hb).trans z) he new
theorem dk_new {P : Program} {w : World} {H' : Hp} {h' : Heap} {kvs : List (Key × V)} {vs : List (Key × Value)} (z : kvs.length ≤ sizeLine) (hd : (a == sysModules) = false) (rel : KV kvs vs) (dd : h'.DictOf (mixKind P w) a vs) :
    ObjOk P w H' h' a (.dK kvs) := ⟨z, hd, vs, rel, dd⟩
/-- d[y] = v -/
theorem d_setItem {H' : Hp} {Q : Unit → Shared → Prop} (hu : A.units + 1 < cLine) (I : Inv X pins σ H s) (g : DPut H a y v H') (ry : RelV y u) (rv : RelV v r) (h : ∀ s', Inv X pins σ H' s' → Q () s') :
    wpAny (model X.prog X.w) A (setItem (.ref a) u r) Q E s := by
  rcases g with ⟨kvs, k, e, ey, l, eH⟩ | ⟨kvs, k, b, e, ey, eb, l, eH⟩
  · subst ey eH
    obtain ⟨z, hd, vs, rel, dd⟩ := dk_of I.hok e
    have hz : vs.length ≤ sizeLine := by rw [← rel.length]; exact z
    have hl : (putK kvs k v).length ≤ sizeLine := by have := length_putK kvs k v; omega
    refine wpAny_setItem_pairs (hsz := hz) (kV_is ry) dd fun h' dd' hs => h _ ?_
    have he : ∃ q, h'.get? a = some q := let ⟨q, _, _, hq, _⟩ := dd'; ⟨q, hq⟩
    exact d_write I (by rw [e]; exact True.intro) hs he (dk_new hl hd (rel.put k rv) dd')
  · subst ey eH
    cases (show u = Value.ref b from ry)
    obtain ⟨z, hd, xs, rel, dd⟩ := dt_of I.hok e
    have hz : xs.length ≤ sizeLine := by rw [← Paired.length rel]; exact z
    have hl : (putK kvs k v).length ≤ sizeLine := by have := length_putK kvs k v; omega
    refine wpAny_setItem_heap (hsz := hz) (tupleKind_room_in1 hu) (key_of I.hok eb) dd fun h' dd' hs => h _ ?_
    obtain ⟨q, es, ep, hq, h2, h3, h4, _, h5⟩ := dd'
    refine d_write I (by rw [e]; exact True.intro) hs ⟨q, hq⟩ ⟨hl, hd, _, (rel.put k eb rv).keeps fun c ys ec => ?_, q, es, ep, hq, h2, h3, h4, h5⟩
    rw [upd_ne (ne_of ec e (fun z => nomatch z))]
    exact ec
end

section
variable {X : Cx} {pins : List (Addr × Obj)} {σ : St} {H : Hp} {s : Shared} {a : Addr} {kvs : List (Key × V)} {k : Key} {u : Value} {A : Around} {E : Value → Shared → Prop}
end


/-! ### readings and rules -/
/-- the element of a subscription, not a slice -/
def NoSl (i : Expr) : Prop := ∀ ov iv, subscripted i false ov iv = operate [ov, iv] (getItem ov iv)
theorem subD_of {prog : Program} {w : World} {A : Around} {E : Value → Shared → Prop} {s : Shared} {env : Env} {value slice : Expr} {pos : Pos} {T id : String} {Q : Value → Shared → Prop}
    (hl : typeLookup (.type T) "__getitem__" = pure (some (.builtin id))) (hs : NoSl slice)
    (h : wpAny (model prog w) A (eval value env) (fun o s₁ => wpAny (model prog w) A (eval slice env) (fun i s₂ => s₂.TypeIs o T ∧ wpAny (model prog w) A (getItem o i) Q E s₂) E s₁) E s) :
    wpAny (model prog w) A (eval (.Subscript value slice pos) env) Q E s := by
  refine Subscript_ (wpAny_mono h (fun o s₁ h₁ => wpAny_mono h₁ (fun i s₂ h₂ => ?_) fun _ _ x => x) fun _ _ x => x)
  obtain ⟨hT, h₂⟩ := h₂
  unfold subscriptTail
  refine wpAny_bind ?_
  rw [getitemInPython_of_ne hT.not_modules]
  refine wpAny_bind (wpAny_specialOf hT hl ?_)
  have fin : wpAny (model prog w) A (subscripted slice false o i) (fun r s₃ => wpAny (model prog w) A (letTemporaryGo value o r >>= fun _ => pure r) Q E s₃) E s₂ := by
    rw [hs o i]
    exact wpAny_operating (wpAny_mono h₂ (fun r s₃ h₃ => wpAny_bind (wpAny_letTemporaryGo (wpAny_pure h₃))) fun _ _ x => x)
  first
    | exact wpAny_pure (wpAny_bind fin)
    | exact wpAny_bind (wpAny_pure (wpAny_bind fin))
    | exact wpAny_bind fin

theorem dict_typeIs {X : Cx} {pins : List (Addr × Obj)} {σ : St} {H : Hp} {s : Shared} {a : Addr} {y : V} {o : Option V} (I : Inv X pins σ H s) (g : DGet H a y o) : s.TypeIs (.ref a) "dict" := by
  rcases g with ⟨kvs, k, e, _, _⟩ | ⟨kvs, k, b, e, _, _, _⟩
  · obtain ⟨_, _, vs, _, dd⟩ := dk_rd I.hok e
    exact dd.typeIs
  · obtain ⟨_, _, xs, _, dd⟩ := dt_rd I.hok e
    exact dd.typeIs
/-- d[y] -/
def tDGet (td ty : TE) : TE := fun σ H Q => td σ H fun x H1 => ty σ H1 fun y H2 => ∃ a v, x = .ref a ∧ DGet H2 a y (some v) ∧ Q v H2
/-- y in d, y not in d -/
def tDIn (ty td : TE) : TE := fun σ H Q => ty σ H fun y H1 => td σ H1 fun x H2 => ∃ a o, x = .ref a ∧ DGet H2 a y o ∧ Q (.bl o.isSome) H2
def tDNotIn (ty td : TE) : TE := fun σ H Q => ty σ H fun y H1 => td σ H1 fun x H2 => ∃ a o, x = .ref a ∧ DGet H2 a y o ∧ Q (.bl (!o.isSome)) H2
/-- d[y] = v -/
def sDPut (td ty tv : TE) : TS := fun D σ H => tv σ H fun v H1 => td σ H1 fun x H2 => ty σ H2 fun y H3 => ∃ a H4, x = .ref a ∧ DPut H3 a y v H4 ∧ D.nx σ H4
/-- d[y] op= v -/
def sDAug (td ty tv : TE) (rd : V → V → Hp → VK → Prop) : TS := fun D σ H => td σ H fun x H1 => ty σ H1 fun y H2 => ∃ a v, x = .ref a ∧ DGet H2 a y (some v) ∧
  tv σ H2 fun y2 H3 => rd v y2 H3 fun z H4 => ∃ H5, DPut H4 a y z H5 ∧ D.nx σ H5
/-- del d[y] -/
def sDDel (td ty : TE) : TS := fun D σ H => td σ H fun x H1 => ty σ H1 fun y H2 => ∃ a kvs k, x = .ref a ∧ H2 a = some (.dK kvs) ∧ y = kV k ∧ (valV kvs k).isSome = true ∧ D.nx σ (upd H2 a (.dK (dropK kvs k)))

section
variable {X : Cx} {o i e value : Expr} {pos pos' tpos : Pos} {td ty tv : TE}
theorem pe_dget (hu : X.A.units + 1 < cLine) (ho : PE X o td) (hi : PE X i ty) (hs : NoSl i) : PE X (.Subscript o i pos) (tDGet td ty) := by
  intro pins s σ H Q I h
  refine subD_of PySem.F.slot_dict_getitem.lookup hs (thn (ho pins s σ H _ I h) fun u s1 ⟨x, H1, I1, rx, q1⟩ => thn (hi pins s1 σ H1 _ I1 q1) fun iv s2 ⟨y, H2, I2, ry, a, v, ex, g, q2⟩ => ?_)
  subst ex
  obtain rfl : u = Value.ref a := rx
  exact ⟨dict_typeIs I2 g, d_getItem hu I2 g ry fun w' s3 I3 rw' => ⟨v, H2, I3, rw', q2⟩⟩
theorem ps_dput (hu : X.A.units + 1 < cLine) (ho : PE X o td) (hi : PE X i ty) (hv : PE X value tv) (hs : swapsWith value (some (.Subscript o i pos')) pos.line X.env = pure false) :
    PS X (.Assign [.Subscript o i pos'] value pos) (sDPut td ty tv) := by
  intro pins s σ H D I h
  refine wpAny_Assign_Subscript (thn (hv pins s σ H _ I h) fun r s1 ⟨v, H1, I1, rv, q1⟩ => thn (ho pins s1 σ H1 _ I1 q1) fun u s2 ⟨x, H2, I2, rx, q2⟩ => thn (hi pins s2 σ H2 _ I2 q2) fun iv s3 ⟨y, H3, I3, ry, a, H4, ex, g, q3⟩ => ?_) hs
  subst ex
  obtain rfl : u = Value.ref a := rx
  exact d_setItem hu I3 g ry rv fun s4 I4 => ⟨σ, H4, I4, q3⟩
end


/-! ### displays -/
theorem dk_empty {P : Program} {w : World} {H : Hp} (h : Heap) (hb : sysModules < h.objs.size) : ObjOk P w H (h.push { cls := .type "dict", data := .dict #[] }) h.objs.size (.dK []) :=
  ⟨Nat.zero_le _, beq_eq_false_iff_ne.mpr (Ne.symm (Nat.ne_of_lt hb)), [], .nil, Heap.DictOf.new h⟩
/-- {}, to be a dict of the kind that is wanted -/
def tDNewK : TE := fun _ H Q => ∀ p, H p = none → Q (.ref p) (upd H p (.dK []))
def tDNewT : TE := fun _ H Q => ∀ p, H p = none → Q (.ref p) (upd H p (.dT []))
section
variable {X : Cx} {pos : Pos}
end

/-- the pairs of a display, from the left -/
def tPairs : List (TE × TE) → St → Hp → (List (V × V) → Hp → Prop) → Prop
  | [], _, H, Q => Q [] H
  | (tk, tv) :: r, σ, H, Q => tk σ H fun x H1 => tv σ H1 fun y H2 => tPairs r σ H2 fun ps H3 => Q ((x, y) :: ps) H3
abbrev VV : List (V × V) → List (Value × Value) → Prop := Paired fun p q => RelV p.1 q.1 ∧ RelV p.2 q.2
def PPs (X : Cx) (pos : Pos) (keys : List (Option Expr)) (values : List Expr) (trs : List (TE × TE)) : Prop :=
  ∀ (pins : List (Addr × Obj)) (s : Shared) (σ : St) (H : Hp) (Q : List (V × V) → Hp → Prop), Inv X pins σ H s → tPairs trs σ H Q →
    wpAny (model X.prog X.w) X.A (evalPairs (pairTrees keys values X.env pos)) (fun vs s' => ∃ ps H', Inv X pins σ H' s' ∧ VV ps vs ∧ Q ps H') X.xe s
theorem pps_nil {X : Cx} {pos : Pos} : PPs X pos [] [] [] := fun pins s σ H Q I h => pairTrees_nil_walk ⟨[], H, I, .nil, h⟩
theorem pps_cons {X : Cx} {pos : Pos} {k v : Expr} {ks : List (Option Expr)} {vs : List Expr} {tk tv : TE} {trs : List (TE × TE)} (hk : PE X k tk) (hv : PE X v tv) (hr : PPs X pos ks vs trs) :
    PPs X pos (some k :: ks) (v :: vs) ((tk, tv) :: trs) := fun pins s σ H Q I h =>
  pairTrees_cons_walk (thn (hk pins s σ H _ I h) fun u s1 ⟨x, H1, I1, rx, q1⟩ => thn (hv pins s1 σ H1 _ I1 q1) fun w2 s2 ⟨y, H2, I2, ry, q2⟩ =>
    thn (hr pins s2 σ H2 _ I2 q2) fun ws s3 ⟨ps, H3, I3, rel, q3⟩ => ⟨(x, y) :: ps, H3, I3, .cons ⟨rx, ry⟩ rel, q3⟩)

def mergeK (kvs more : List (Key × V)) : List (Key × V) := more.foldl (fun acc kv => putK acc kv.1 kv.2) kvs
theorem KV.merge : ∀ {more : List (Key × V)} {rs : List (Key × Value)} {kvs : List (Key × V)} {vs : List (Key × Value)}, KV more rs → KV kvs vs → KV (mergeK kvs more) (merged vs rs) := by
  intro more rs kvs vs r
  unfold KV at r
  induction r generalizing kvs vs with
  | nil => intro q; exact q
  | @cons p q ps qs h t ih =>
    intro r0
    have e : KV (putK kvs p.1 p.2) (stored vs q.1 q.2) := by
      have := r0.put p.1 h.2
      rw [← h.1]; exact this
    exact ih e
theorem length_mergeK : ∀ (more kvs : List (Key × V)), (mergeK kvs more).length ≤ kvs.length + more.length
  | [], kvs => by show kvs.length ≤ kvs.length + 0; omega
  | p :: r, kvs => by
    have h1 := length_mergeK r (putK kvs p.1 p.2)
    have h2 := length_putK kvs p.1 p.2
    show (mergeK (putK kvs p.1 p.2) r).length ≤ _
    rw [List.length_cons]; omega
theorem carries_of {P : Program} {w : World} : ∀ {kvs : List (Key × V)} {ws : List (Value × Value)}, VV (kvs.map fun kv => (kV kv.1, kv.2)) ws → ∃ rs, Carries (mixKind P w) ws rs ∧ KV kvs rs
  | [], _, r => by rw [List.map_nil] at r; cases r; exact ⟨[], True.intro, .nil⟩
  | p :: kvs, _, r => by
    rw [List.map_cons] at r
    cases r with
    | @cons a b as bs h t =>
      obtain ⟨rs, c, q⟩ := carries_of (P := P) (w := w) t
      obtain ⟨b1, b2⟩ := b
      exact ⟨(p.1, b2) :: rs, ⟨kV_is h.1, rfl, c⟩, .cons ⟨rfl, h.2⟩ q⟩
/-- {k: v, ..} with keys ints and texts; the new dict stands empty while the pairs are made -/
def tDisp (trs : List (TE × TE)) : TE := fun σ H Q => ∀ p, H p = none → tPairs trs σ (upd H p (.dK [])) fun ps H2 => H2 p = some (.dK []) ∧ ∃ kvs : List (Key × V), ps = kvs.map (fun kv => (kV kv.1, kv.2)) ∧ kvs.length ≤ 15 ∧ Q (.ref p) (upd H2 p (.dK (mergeK [] kvs)))
theorem pe_disp {X : Cx} {pos : Pos} {keys : List (Option Expr)} {values : List Expr} {trs : List (TE × TE)} (h : PPs X pos keys values trs) (hall : keys.all (·.isSome) = true) (hl : keys.length = values.length) (h0 : keys ≠ [])
    (h15 : keys.length ≤ 15) : PE X (.Dict keys values pos) (tDisp trs) := by
  intro pins s σ H Q I q
  have hn := I.hok.fresh (Nat.le_refl s.heap.objs.size)
  have I1 := I.laid (a := s.heap.objs.size) (o := .dK []) (h' := s.heap.push { cls := .type "dict", data := .dict #[] }) (t' := s.toks) (fun _ _ q => Heap.get?_push_of_some _ q) (Nat.le_refl _) (dk_empty s.heap I.big)
  refine wpAny_Dict_walk (knd := mixKind X.prog X.w) hall hl h0 h15 (thn (h pins _ σ _ _ I1 (q _ hn)) fun ws s2 ⟨ps, H2, I2, rel, e, kvs, ep, lk, q2⟩ => ?_)
  subst ep
  obtain ⟨rs, c, rk⟩ := carries_of (P := X.prog) (w := X.w) rel
  obtain ⟨z, hd, vs0, r0, dd⟩ := dk_of I2.hok e
  cases r0
  refine ⟨rs, c, dd, fun h' dd' hs => ⟨.ref s.heap.objs.size, _, ?_, rfl, q2⟩⟩
  have hz : (mergeK [] kvs).length ≤ sizeLine := by
    have h1 := length_mergeK kvs []
    rw [List.length_nil] at h1
    rw [sizeLine_eq]; omega
  have he : ∃ q, h'.get? s.heap.objs.size = some q := let ⟨q, _, _, hq, _⟩ := dd'; ⟨q, hq⟩
  exact d_write I2 (by rw [e]; exact True.intro) hs he (dk_new hz hd (rk.merge .nil) dd')


/-! ### methods -/
/-- a method call o.m(e) of a built-in, with one argument: what must be seen of the text -/
structure M1 (X : Cx) (o : Expr) (m : Str) (apos : Pos) (e : Expr) (cpos : Pos) : Prop where
  base : attributeBase o m X.env (eval o X.env) = eval o X.env
  few : ((backTo cpos (starEach [e] X.env)).all (fun x => !x.1) && (backToKw cpos (keywordEach [] X.env)).all (fun x => x.1.isSome)
    && decide (([e] : List Expr).length + ([] : List Keyword).length + (if ([] : List Keyword).isEmpty then 0 else 1) < 30)) = true
  line : (apos.endLine == cpos.line) = true
  trees : backTo cpos (starEach [e] X.env) = [(false, eval e X.env)]
structure M2 (X : Cx) (o : Expr) (m : Str) (apos : Pos) (e f : Expr) (cpos : Pos) : Prop where
  base : attributeBase o m X.env (eval o X.env) = eval o X.env
  few : ((backTo cpos (starEach [e, f] X.env)).all (fun x => !x.1) && (backToKw cpos (keywordEach [] X.env)).all (fun x => x.1.isSome)
    && decide (([e, f] : List Expr).length + ([] : List Keyword).length + (if ([] : List Keyword).isEmpty then 0 else 1) < 30)) = true
  line : (apos.endLine == cpos.line) = true
  trees : backTo cpos (starEach [e, f] X.env) = [(false, eval e X.env), (false, eval f X.env)]

/-- a is a dict, whatever its keys -/
def IsD (H : Hp) (a : Addr) : Prop := (∃ kvs, Rd H a (.dK kvs)) ∨ ∃ kvs, Rd H a (.dT kvs)
section
variable {X : Cx} {pins : List (Addr × Obj)} {σ : St} {H : Hp} {s : Shared} {a : Addr} {y d : V} {u r : Value} {o : Option V} {A : Around} {E : Value → Shared → Prop}
end

def tDGet1 (td ty : TE) : TE := fun σ H Q => td σ H fun x H1 => ∃ a, x = .ref a ∧ IsD H1 a ∧ ty σ H1 fun y H2 => ∃ o, DGet H2 a y o ∧ Q (o.getD .non) H2
def tDGet2 (td ty tx : TE) : TE := fun σ H Q => td σ H fun x H1 => ∃ a, x = .ref a ∧ IsD H1 a ∧ ty σ H1 fun y H2 => tx σ H2 fun z H3 => ∃ o, DGet H3 a y o ∧ Q (o.getD z) H3
/-- d.pop(k): there; d.pop(k, x): there or not -/
def tDPop1 (td ty : TE) : TE := fun σ H Q => td σ H fun x H1 => ∃ a, x = .ref a ∧ IsD H1 a ∧ ty σ H1 fun y H2 => ∃ kvs k v, H2 a = some (.dK kvs) ∧ y = kV k ∧ valV kvs k = some v ∧ Q v (upd H2 a (.dK (dropK kvs k)))
def tDPop2 (td ty tx : TE) : TE := fun σ H Q => td σ H fun x H1 => ∃ a, x = .ref a ∧ IsD H1 a ∧ ty σ H1 fun y H2 => tx σ H2 fun z H3 => ∃ kvs k, H3 a = some (.dK kvs) ∧ y = kV k ∧
  (∀ v, valV kvs k = some v → Q v (upd H3 a (.dK (dropK kvs k)))) ∧ (valV kvs k = none → Q z H3)
section
variable {X : Cx} {o e f : Expr} {apos cpos : Pos} {td ty tx : TE}
end

/-! ### dict(d): a copy -/
section
variable {X : Cx} {pins : List (Addr × Obj)} {σ : St} {H : Hp} {s : Shared} {a : Addr} {kvs : List (Key × V)} {A : Around} {E : Value → Shared → Prop}
end


section
variable {X : Cx} {pins : List (Addr × Obj)} {σ : St} {H : Hp} {s : Shared} {a : Addr} {y : V} {u : Value} {A : Around} {E : Value → Shared → Prop}
end
end L2

namespace Dl
open PySem PySem.Spec PyProof.Rows L2
/-! ## Dicts with texts as keys, as records -/
/-- a key's value; a key's list of its own -/
def recOf (i : Nat) (f : Str) (δ : Ev) : Option D := match δ[i]? with
  | some (.rc _ fs) => (match fs.lookup f with
    | some (.sh d) => some d
    | _ => none)
  | _ => none
def rlsOf (i : Nat) (f : Str) (δ : Ev) : Option (List D) := match δ[i]? with
  | some (.rc _ fs) => (match fs.lookup f with
    | some (.ow l) => some l
    | _ => none)
  | _ => none
def putRc (i : Nat) (f : Str) (s : Fl) (δ : Ev) : Ev := match δ[i]? with
  | some (.rc h fs) => δ.set i (.rc h (putFl f s fs))
  | _ => δ
def hasRc (i : Nat) (f : Str) (δ : Ev) : Bool := match δ[i]? with
  | some (.rc _ fs) => decide (fs.length < 999) && (fs.lookup f).isSome
  | _ => false
def xKey (i : Nat) (f : Str) : TXd := fun δ Q => match recOf i f δ with
  | some d => Q d
  | none => False
def dSetK (i : Nat) (f : Str) (te : TEd) : TSd := fun E δ => te δ fun d δ1 => hasRc i f δ1 = true ∧ E.nx (putRc i f (.sh d) δ1)
def dKApp (i : Nat) (f : Str) (tx : TXd) : TSd := fun E δ => match rlsOf i f δ with
  | some l => tx δ fun d => l.length < sizeLine ∧ E.nx (putRc i f (.ow (l ++ [d])) δ)
  | none => False
def xKIx (i : Nat) (f : Str) (tx : TXd) : TXd := fun δ Q => match rlsOf i f δ with
  | some l => tx δ fun z => match z with
    | .int k => ∃ d, atI l k = some d ∧ Q d
    | _ => False
  | none => False
def dKSet (i : Nat) (f : Str) (te tz : TXd) : TSd := fun E δ => match rlsOf i f δ with
  | some l => te δ fun d => tz δ fun z => match z with
    | .int k => ∃ j, ixN l.length k = some j ∧ E.nx (putRc i f (.ow (l.set j d)) δ)
    | _ => False
  | none => False
def diK (i : Nat) (f : Str) : TId := fun δ Q => match rlsOf i f δ with
  | some l => Q l δ
  | none => False
def dNeK (i : Nat) (f : Str) (ta : TEd) : TTd := fun δ Q => ta δ fun d δ1 => match rlsOf i f δ1 with
  | some l => okEq d (.lst l) ∧ Q (!eqD d (.lst l)) δ1
  | none => False
def dEqK (i : Nat) (f : Str) (ta : TEd) : TTd := fun δ Q => ta δ fun d δ1 => match rlsOf i f δ1 with
  | some l => okEq d (.lst l) ∧ Q (eqD d (.lst l)) δ1
  | none => False
def xDe (te : TEd) : TXd := fun δ Q => te (dropOw δ) fun d _ => Q d
abbrev TPd := Ev → (List (Str × Fl) → Prop) → Prop
def pNil : TPd := fun _ Q => Q []
def pSh (f : Str) (tx : TXd) (t : TPd) : TPd := fun δ Q => tx δ fun d => t δ fun fs => Q ((f, .sh d) :: fs)
def pOw (f : Str) (ta : TXA) (t : TPd) : TPd := fun δ Q => ta δ fun ds => ds.length ≤ sizeLine ∧ t δ fun fs => Q ((f, .ow ds) :: fs)
def dRec (i : Nat) (t : TPd) : TSd := fun E δ => t δ fun fs => (fs.map (·.1)).Nodup ∧ fs.length ≤ 15 ∧ E.nx (δ.set i (.rc none fs))

section
variable {K : PySem.W.Frag} {n : En} {G H G' H' : Hp} {ow ow' : Ow} {i i' : Nat} {f : Str} {v : V} {s : Fl} {vfs : List (Str × V)} {fs : List (Str × Fl)} {δ : Ev} {σ : L2.St} {p q : Addr} {o : HO}
theorem recOf_inv {d : D} (h : recOf i f δ = some d) : ∃ h0 fs, δ[i]? = some (.rc h0 fs) ∧ fs.lookup f = some (.sh d) := by
  unfold recOf at h
  split at h
  · rename_i h0 fs e
    split at h
    · rename_i d' e2; cases h; exact ⟨h0, fs, e, e2⟩
    · cases h
  · cases h
theorem rlsOf_inv {l : List D} (h : rlsOf i f δ = some l) : ∃ h0 fs, δ[i]? = some (.rc h0 fs) ∧ fs.lookup f = some (.ow l) := by
  unfold rlsOf at h
  split at h
  · rename_i h0 fs e
    split at h
    · rename_i d' e2; cases h; exact ⟨h0, fs, e, e2⟩
    · cases h
  · cases h
theorem hasRc_inv (h : hasRc i f δ = true) : ∃ h0 fs s, δ[i]? = some (.rc h0 fs) ∧ fs.length < 999 ∧ fs.lookup f = some s := by
  unfold hasRc at h
  split at h
  · rename_i h0 fs e
    simp only [Bool.and_eq_true, decide_eq_true_eq] at h
    obtain ⟨s, hs⟩ := Option.isSome_iff_exists.mp h.2
    exact ⟨h0, fs, s, e, h.1, hs⟩
  · cases h
theorem putRc_of {h0 : Option Nat} (e : δ[i]? = some (.rc h0 fs)) (s : Fl) : putRc i f s δ = δ.set i (.rc h0 (putFl f s fs)) := by
  unfold putRc; rw [e]
theorem valV_kx (f : Str) : ∀ vfs : List (Str × V), valV (vfs.map kx) (Sum.inr f : Key) = vfs.lookup f
  | [] => rfl
  | (g, x) :: r => by
    rw [List.map_cons]
    by_cases h : g = f
    · subst h
      rw [valV_pos (show (kx (g, x)).1 = Sum.inr g from rfl)]
      simp [List.lookup, kx]
    · rw [valV_neg (fun z => h (Sum.inr.inj z)), valV_kx f r]
      have hb : (f == g) = false := beq_eq_false_iff_ne.mpr fun z => h z.symm
      simp only [List.lookup, hb]
def mapA (f : Str) (v : V) (l : List (Str × V)) : List (Str × V) := l.map fun p => if p.1 = f then (p.1, v) else p
theorem mapA_keys (f : Str) (v : V) (l : List (Str × V)) : (mapA f v l).map (·.1) = l.map (·.1) := by
  unfold mapA
  rw [List.map_map]
  refine List.map_congr_left fun p _ => ?_
  show (if p.1 = f then (p.1, v) else p).1 = p.1
  split <;> rfl
theorem mapA_lookup (f g : Str) (v : V) : ∀ l : List (Str × V), (mapA f v l).lookup g = (l.lookup g).map fun x => if g = f then v else x
  | [] => rfl
  | (k, x) :: r => by
    have ih := mapA_lookup f g v r
    unfold mapA at ih ⊢
    rw [List.map_cons]
    by_cases h : g = k
    · subst h
      by_cases hf : g = f
      · rw [if_pos hf]; simp [List.lookup, hf]
      · rw [if_neg hf]; simp [List.lookup, hf]
    · have hb : (g == k) = false := beq_eq_false_iff_ne.mpr h
      by_cases hf : k = f
      · rw [if_pos hf]; simp only [List.lookup, hb]; exact ih
      · rw [if_neg hf]; simp only [List.lookup, hb]; exact ih
theorem putK_kx {x : V} (h : vfs.lookup f = some x) : L2.putK (vfs.map kx) (Sum.inr f : Key) v = (mapA f v vfs).map kx := by
  unfold L2.putK
  rw [valV_any, valV_kx, h]
  show List.map _ (vfs.map kx) = _
  unfold mapA
  rw [List.map_map, List.map_map]
  refine List.map_congr_left fun p _ => ?_
  show (if (kx p).1 = Sum.inr f then ((kx p).1, v) else kx p) = kx (if p.1 = f then (p.1, v) else p)
  by_cases e : p.1 = f
  · rw [if_pos e, if_pos (by show Sum.inr p.1 = _; rw [e])]; rfl
  · rw [if_neg e]; exact if_neg (fun z : (Sum.inr p.1 : Key) = Sum.inr f => e (Sum.inr.inj z))
theorem FsW.mapA (h : FsW K G H ow i vfs fs) {s0 : Fl} (hf : fs.lookup f = some s0) (hv : FlW K G H ow i f v s) : FsW K G H ow i (Dl.mapA f v vfs) (putFl f s fs) := by
  refine ⟨?_, fun g s' e => ?_⟩
  · rw [mapA_keys, keysFl_put, Dl.putK_mem, h.keys]
    obtain ⟨p, hp, e⟩ : ∃ p ∈ fs, f = p.1 := by
      cases hm : fs.find? (fun p => f == p.1) with
      | none =>
        have := List.find?_eq_none.mp hm
        have : fs.lookup f = none := List.lookup_eq_none_iff.mpr fun p hp => by simpa using this p hp
        rw [hf] at this; cases this
      | some p =>
        have h2 := List.find?_some hm
        exact ⟨p, List.mem_of_find?_eq_some hm, beq_iff_eq.mp h2⟩
    exact List.mem_map.mpr ⟨p, hp, e.symm⟩
  · rw [lookup_putFl] at e
    rw [mapA_lookup]
    by_cases z : g = f
    · rw [if_pos z] at e
      cases e
      subst z
      obtain ⟨w, h1, _⟩ := h.at_ g _ hf
      exact ⟨v, by rw [h1]; simp, hv⟩
    · rw [if_neg z] at e
      obtain ⟨w, h1, h2⟩ := h.at_ g s' e
      exact ⟨w, by rw [h1]; simp [z], h2⟩
/-- a key gets a value -/
theorem Rel.putRV (R : Rel K n δ σ G H) {h0 : Option Nat} {d : D} {s0 : Fl} (e : δ[i]? = some (.rc h0 fs)) (hf : fs.lookup f = some s0) (hv : Den K G v d) : ∃ (a : Addr) (vfs : List (Str × V)), σ[i]? = some (some (.ref a)) ∧ H a = some (.dK (vfs.map kx)) ∧ vfs.length = fs.length ∧
    Rel K n (δ.set i (.rc h0 (putFl f (.sh d) fs))) σ G (upd H a (.dK (L2.putK (vfs.map kx) (Sum.inr f : Key) v))) := by
  obtain ⟨ow, ok, gh⟩ := R.gh
  obtain ⟨a, vfs, g1, g2, g3, g5, g7⟩ := gh i _ e
  obtain ⟨x, hx, _⟩ := g7.at_ f _ hf
  refine ⟨a, vfs, g1, g3, by have := congrArg List.length g7.keys; simpa using this, ?_⟩
  rw [putK_kx hx]
  refine R.updOwn ok gh g5 ⟨a, _, g1, g2, upd_same, g5, ?_⟩
  refine FsW.mapA (g7.keepL fun p f vs z q => ?_) hf hv
  rw [upd_ne (fun z => by subst z; rw [g3] at q; cases q)]; exact q
theorem ow_ext (ok : OwOk n G H ow) (x : Ext G H G' H') : OwOk n G' H' ow := ⟨fun p k hk => by
    obtain ⟨h1, h2, h3⟩ := ok.is p k hk
    refine ⟨?_, same_some x.hh h2, h3⟩
    cases q : G' p with
    | none => rfl
    | some w => exact absurd (x.fr p w q h1) h2⟩
theorem gh_ext (gh : ∀ (i : Nat) (s : Sl), δ[i]? = some s → SlW K n G H ow i σ[i]? s) (x : Ext G H G' H') : ∀ (i : Nat) (s : Sl), δ[i]? = some s → SlW K n G' H' ow i σ[i]? s := fun i s hs => (gh i s hs).keep x.gg (fun _ _ z => z) fun p f u _ z => x.hh p u z
/-- a key's list: where it is; it is changed -/
theorem Rel.rcList (R : Rel K n δ σ G H) {h0 : Option Nat} {l : List D} (e : δ[i]? = some (.rc h0 fs)) (hl : fs.lookup f = some (.ow l)) : ∃ (a : Addr) (vfs : List (Str × V)) (q : Addr) (vs : List V), σ[i]? = some (some (.ref a)) ∧ H a = some (.dK (vfs.map kx)) ∧ vfs.lookup f = some (.ref q) ∧ H q = some (.lst vs) ∧ G q = none ∧ DenL K G vs l ∧
    ∀ (G' H' : Hp) (vs' : List V) (l' : List D), Ext G H G' H' → DenL K G' vs' l' → Rel K n (δ.set i (.rc h0 (putFl f (.ow l') fs))) σ G' (upd H' q (.lst vs')) := by
  obtain ⟨ow, ok, gh⟩ := R.gh
  obtain ⟨a, vfs, g1, g2, g3, g5, g7⟩ := gh i _ e
  obtain ⟨w, k1, q, vs, rfl, k2, k3, k4⟩ := g7.at_ f _ hl
  refine ⟨a, vfs, q, vs, g1, g3, k1, k2, (ok.is _ _ k3).1, k4, fun G' H' vs' l' x hd => ?_⟩
  refine (R.ext x).updOwn (ow_ext ok x) (gh_ext gh x) k3 ⟨a, vfs, g1, g2, ?_, g5, ?_⟩
  · rw [upd_ne (fun z => by subst z; rw [g3] at k2; cases k2)]; exact x.hh _ _ g3
  · exact (g7.keep x.gg (fun _ _ z => z) fun p f u _ z => x.hh p u z).list hl k1 k3 hd
/-- the pairs of a display, made one after the other from the heap H0 on -/
inductive RcL (K : PySem.W.Frag) (G H : Hp) : Hp → List (Str × V) → List (Str × Fl) → Prop
  | nil {H0 : Hp} : RcL K G H H0 [] []
  | sh {H0 : Hp} {f : Str} {v : V} {d : D} {r : List (Str × V)} {fs : List (Str × Fl)} : Den K G v d → RcL K G H H0 r fs → RcL K G H H0 ((f, v) :: r) ((f, .sh d) :: fs)
  | ow {H0 H1 : Hp} {f : Str} {q : Addr} {vs : List V} {l : List D} {r : List (Str × V)} {fs : List (Str × Fl)} : H0 q = none → H1 q ≠ none → Same H0 H1 → H q = some (.lst vs) → G q = none → DenL K G vs l → RcL K G H H1 r fs → RcL K G H H0 ((f, .ref q) :: r) ((f, .ow l) :: fs)
theorem RcL.older {H0 H1 : Hp} (s : Same H0 H1) (h : RcL K G H H1 vfs fs) : RcL K G H H0 vfs fs := by
  induction h generalizing H0 with
  | nil => exact .nil
  | sh a _ ih => exact .sh a (ih s)
  | ow a b c d e f g _ => exact .ow (s.free a) b (s.trans c) d e f g
theorem RcL.own {H0 : Hp} (h : RcL K G H H0 vfs fs) : ∃ m : Addr → Option Str, (∀ q f, m q = some f → H0 q = none ∧ G q = none ∧ H q ≠ none) ∧ vfs.map (·.1) = fs.map (·.1) ∧
    ∀ f s, fs.lookup f = some s → ∃ v, vfs.lookup f = some v ∧ (match s with | .sh d => Den K G v d | .ow l => ∃ q vs, v = .ref q ∧ H q = some (.lst vs) ∧ m q = some f ∧ DenL K G vs l) := by
  induction h with
  | nil => exact ⟨fun _ => none, (fun _ _ z => by cases z), rfl, (fun _ _ z => by cases z)⟩
  | @sh H0 f v d r fs a _ ih =>
    obtain ⟨m, m1, m2, m3⟩ := ih
    refine ⟨m, m1, by simp [m2], fun g s e => ?_⟩
    by_cases hg : g = f
    · subst hg
      simp [List.lookup] at e
      subst e
      exact ⟨v, by simp [List.lookup], a⟩
    · have hb : (g == f) = false := beq_eq_false_iff_ne.mpr hg
      simp only [List.lookup, hb] at e ⊢
      exact m3 g s e
  | @ow H0 H1 f q vs l r fs a b c d e0 e _ ih =>
    obtain ⟨m, m1, m2, m3⟩ := ih
    refine ⟨fun p => if p = q then some f else m p, fun p g hp => ?_, by simp [m2], fun g s hs => ?_⟩
    · by_cases hq : p = q
      · subst hq; exact ⟨a, e0, by rw [d]; exact fun z => by cases z⟩
      · simp only [if_neg hq] at hp
        obtain ⟨k1, k2, k3⟩ := m1 p g hp
        exact ⟨c.free k1, k2, k3⟩
    · by_cases hg : g = f
      · subst hg
        simp [List.lookup] at hs
        subst hs
        exact ⟨.ref q, by simp [List.lookup], q, vs, rfl, d, by simp, e⟩
      · have hb : (g == f) = false := beq_eq_false_iff_ne.mpr hg
        simp only [List.lookup, hb] at hs ⊢
        obtain ⟨v, h1, h2⟩ := m3 g s hs
        refine ⟨v, h1, ?_⟩
        cases s with
        | sh d => exact h2
        | ow l =>
          obtain ⟨q', ws, k1, k2, k3, k4⟩ := h2
          have : q' ≠ q := fun z => by subst z; exact b (m1 _ _ k3).1
          exact ⟨q', ws, k1, k2, by simp only [if_neg this]; exact k3, k4⟩
/-- a name gets a new record -/
theorem Rel.record (R : Rel K n δ σ G H) (i : Nat) (hp : H p = none) (e : Ext G (upd H p (.dK [])) G' H') (h : RcL K G' H' (upd H p (.dK [])) vfs fs) : Rel K n (δ.set i (.rc none fs)) (σ.set i (some (.ref p))) G' (upd H' p (.dK (vfs.map kx))) := by
  have e0 : Ext G H G (upd H p (.dK [])) := ⟨Same.refl _, R.sub.trans (same_upd hp _), same_upd hp _, fun b v e e0 => (by rw [e0] at e; cases e)⟩
  have e1 := e0.trans e
  have R2 := R.ext e1
  obtain ⟨ow, ok, gh⟩ := R.gh
  have ok2 := ow_ext ok e1
  have gh2 := gh_ext gh e1
  obtain ⟨m, m1, m2, m3⟩ := h.own
  have hpG : G' p = none := by
    cases z : G' p with
    | none => rfl
    | some u => have := e.fr p u z (R.sub.free hp); rw [upd_same] at this; cases this
  have mp : ∀ b g, m b = some g → b ≠ p ∧ H b = none := fun b g hb => by
    obtain ⟨k1, _, _⟩ := m1 b g hb
    by_cases z : b = p
    · subst z; rw [upd_same] at k1; cases k1
    · rw [upd_ne z] at k1; exact ⟨z, k1⟩
  have owp : ∀ b k, ow b = some k → b ≠ p ∧ m b = none := fun b k hb => by
    have h2 := (ok.is b k hb).2.1
    refine ⟨fun z => by subst z; exact h2 hp, ?_⟩
    cases z : m b with
    | none => rfl
    | some g => exact absurd (mp b g z).2 h2
  refine ⟨fun b u q => ?_, R2.eg, fun b u q mm => ?_, fun b q => ?_, R2.fr, ⟨fun b => if b = p then some (i, ("" : Str)) else match m b with | some g => some (i, g) | none => ow b, ⟨fun b k hk => ?_⟩, fun j s hs => ?_⟩, by rw [List.length_set, List.length_set]; exact R.len⟩
  · rw [upd_ne (ne_of_none q hpG)]; exact e.gh b u q
  · rw [upd_ne (fun z => by subst z; rw [R.al _ hp] at q; cases q)]; exact R2.eh b u q mm
  · by_cases z : b = p
    · subst z; exact R.al _ hp
    · rw [upd_ne z] at q; exact R2.al b q
  · by_cases z : b = p
    · subst z; exact ⟨hpG, by rw [upd_same]; exact (fun z => by cases z), .inl (R.al _ hp)⟩
    · simp only [if_neg z] at hk
      cases q : m b with
      | some g =>
        obtain ⟨k1, k2, k3⟩ := m1 b g q
        exact ⟨k2, by rw [upd_ne z]; exact k3, .inl (R.al _ (mp b g q).2)⟩
      | none =>
        rw [q] at hk
        obtain ⟨k1, k2, k3⟩ := ok2.is b k hk
        exact ⟨k1, by rw [upd_ne z]; exact k2, k3⟩
  · rcases set_get hs with ⟨ej, rfl, hl⟩ | ⟨ej, hs⟩
    · subst ej
      refine ⟨p, vfs, List.getElem?_set_self (Nat.lt_of_lt_of_le hl (Nat.le_of_eq R.len)), (fun a0 z => by cases z), upd_same, by simp, ⟨m2, fun g s hg => ?_⟩⟩
      obtain ⟨w, k1, k2⟩ := m3 g s hg
      refine ⟨w, k1, ?_⟩
      cases s with
      | sh d => exact k2
      | ow l =>
        obtain ⟨q, ws, j1, j2, j3, j4⟩ := k2
        have nq := (mp q g j3).1
        exact ⟨q, ws, j1, by rw [upd_ne nq]; exact j2, by simp only [if_neg nq, j3], j4⟩
    · rw [List.getElem?_set_ne ej]
      refine (gh2 j s hs).keep (Same.refl _) (fun b g z => ?_) fun b g u z q => ?_
      · simp only [if_neg (owp b _ z).1, (owp b _ z).2]; exact z
      · rw [upd_ne (owp b _ z).1]; exact q
end
theorem merge_kx : ∀ (more : List (Str × V)) (acc : List (Str × V)), ((acc ++ more).map (·.1)).Nodup → mergeK (acc.map kx) (more.map kx) = (acc ++ more).map kx
  | [], acc, _ => by simp [mergeK]
  | (f, v) :: r, acc, nd => by
    have hn : valV (acc.map kx) (Sum.inr f : Key) = none := by
      rw [valV_kx]
      refine List.lookup_eq_none_iff.mpr fun p hp => ?_
      rw [List.map_append, List.nodup_append] at nd
      have := nd.2.2 p.1 (List.mem_map.mpr ⟨p, hp, rfl⟩) f (by simp)
      simpa using Ne.symm this
    show mergeK (L2.putK (acc.map kx) (Sum.inr f) v) (r.map kx) = _
    rw [putK_new v hn]
    have e : acc.map kx ++ [((Sum.inr f : Key), v)] = (acc ++ [(f, v)]).map kx := by simp [kx]
    rw [e, merge_kx r (acc ++ [(f, v)]) (by simpa using nd)]
    simp
/-- the pairs of a display -/
def DP (X : Cx) (pos : Pos) (keys : List (Option Expr)) (values : List Expr) (t : TPd) : Prop := ∃ trs, PPs X pos keys values trs ∧
  ∀ (n : En) (δ : Ev) (σ : L2.St) (G H : Hp) (Q : List (Str × Fl) → Prop) (Q2 : List (V × V) → Hp → Prop), Rel X.K n δ σ G H → t δ Q →
    (∀ vfs fs G' H', Ext G H G' H' → RcL X.K G' H' H vfs fs → Q fs → Q2 (vfs.map fun p => (V.str p.1, p.2)) H') → tPairs trs σ H Q2
section
variable {X : Cx} {a e : Expr} {es : List Expr} {ta te : TXd} {tA : TXA} {pos dpos : Pos} {f : Str} {ks : List (Option Expr)} {vs : List Expr} {t : TPd} {x : Str} {np kp : Pos} {kj : Nat}
theorem dp_nil : DP X dpos [] [] pNil := ⟨[], pps_nil, fun n δ σ G H Q Q2 R h k => k [] [] G H (Ext.refl R.sub) .nil h⟩
theorem RcL.up {K : PySem.W.Frag} {G H G' H' H0 : Hp} {vfs : List (Str × V)} {fs : List (Str × Fl)} (h : RcL K G H H0 vfs fs) (e : Same G G') (e2 : Same H H') (e3 : ∀ q, H q ≠ none → G q = none → G' q = none) : RcL K G' H' H0 vfs fs := by
  induction h with
  | nil => exact .nil
  | sh a _ ih => exact .sh (a.up e) ih
  | ow a b c d f g _ ih => exact .ow a b c (e2 _ _ d) (e3 _ (by rw [d]; exact fun z => by cases z) f) (g.up e) ih
theorem dp_sh (he : DX X e te) (hr : DP X dpos ks vs t) : DP X dpos (some (.Constant (.str f) kj kp) :: ks) (e :: vs) (pSh f te t) := by
  obtain ⟨trs, h1, h2⟩ := hr
  refine ⟨_, pps_cons pe_str he h1, fun n δ σ G H Q Q2 R h k => ?_⟩
  refine ⟨n, δ, G, _, R, h, fun v G1 H1 d e1 d1 h3 => ?_⟩
  refine h2 n δ σ G1 H1 _ _ (R.ext e1) h3 fun vfs fs G' H' e2 rc q => ?_
  exact k ((f, v) :: vfs) ((f, .sh d) :: fs) G' H' (e1.trans e2) (.sh (d1.up e2.gg) (rc.older e1.hh)) q
theorem dp_ow {lp : Pos} (he : DXA X es tA) (hr : DP X dpos ks vs t) : DP X dpos (some (.Constant (.str f) kj kp) :: ks) (.List es lp :: vs) (pOw f tA t) := by
  obtain ⟨trs, h1, h2⟩ := hr
  refine ⟨_, pps_cons pe_str (L2.pe_lst he) h1, fun n δ σ G H Q Q2 R h k => ?_⟩
  refine ⟨n, δ, G, _, R, h, fun vs G1 H1 ds e1 d1 ⟨hl, h3⟩ => ⟨by rw [d1.length]; exact hl, fun p hp => ?_⟩⟩
  have e0 : Ext G1 H1 G1 (upd H1 p (.lst vs)) := ⟨Same.refl _, e1.gh.trans (same_upd hp _), same_upd hp _, fun b v e e0 => (by rw [e0] at e; cases e)⟩
  refine h2 n δ σ G1 _ _ _ ((R.ext e1).ext e0) h3 fun vfs fs G' H' e2 rc q => ?_
  have hG : G' p = none := by
    cases z : G' p with
    | none => rfl
    | some u => have := e2.fr p u z (e1.gh.free hp); rw [upd_same] at this; cases this
  exact k ((f, .ref p) :: vfs) ((f, .ow ds) :: fs) G' H' ((e1.trans e0).trans e2) (.ow (H1 := upd H1 p (.lst vs)) (e1.hh.free hp) (by rw [upd_same]; exact fun z => by cases z) (e1.hh.trans (same_upd hp _)) (e2.hh _ _ upd_same) hG (d1.up e2.gg) rc) q
/-- x = {"a": e, ..} -/
theorem ds_rec (i : Nat) {p : Pos} (hN : X.N.Nodup) (hp : DP X dpos ks vs t) (hall : ks.all (·.isSome) = true) (hl : ks.length = vs.length) (h0 : ks ≠ []) (h15 : ks.length ≤ 15) (hi : X.N[i]? = some x := by rfl) (hx : Loc X.env.scope x := by first | exact Or.inl rfl | exact Or.inr rfl)
    (hs : swapsWith (.Dict ks vs dpos) (some (.Name x p)) pos.line X.env = pure false := by rfl) (hf : X.fn x = true ∨ X.env.scope.names.lookup x = some .local := by first | exact .inl rfl | exact .inr rfl | assumption) :
    DS X (.Assign [.Name x p] (.Dict ks vs dpos) pos) (dRec i t) := by
  obtain ⟨trs, h1, h2⟩ := hp
  refine ps_imp (ps_set (i := i) hN hi hx (pe_disp h1 hall hl h0 h15) hs hf) fun F σ H ⟨n, δ, G, E, R, h, k⟩ => ?_
  intro q hq
  have R0 : Rel X.K n δ σ G (upd H q (.dK [])) := R.other (R.sub.free hq) (R.al _ hq) hq _
  refine h2 n δ σ G _ _ _ R0 h fun vfs fs G' H' e rc ⟨nd, h15, q2⟩ => ?_
  have hk : vfs.map (·.1) = fs.map (·.1) := let ⟨_, _, z, _⟩ := rc.own; z
  refine ⟨e.hh _ _ upd_same, vfs.map kx, ?_, ?_, ?_⟩
  · rw [List.map_map]; rfl
  · have := congrArg List.length hk; simp at this; rw [List.length_map, this]; exact h15
  · have z := merge_kx vfs [] (by rw [List.nil_append, hk]; exact nd)
    rw [List.nil_append] at z
    rw [show mergeK [] (vfs.map kx) = vfs.map kx from z]
    exact k.nx _ _ G' _ (R.record i hq e rc) q2
end
end Dl

namespace Dl
open PySem PySem.Spec PyProof.Rows L2
/-! ## Records: the rules -/
section
variable {X : Cx} {a e z : Expr} {te tz : TXd} {pos : Pos} {f : Str} {x : Str} {np kp : Pos} {kj : Nat}
theorem units1 {k : Nat} {A : Around} (r : Room k A) : A.units + 1 < cLine := by have := r.un; omega
/-- x["f"] -/
theorem pe_key {i : Nat} {sp : Pos} (hu : X.A.units + 1 < cLine) (hN : X.N[i]? = some x) (hv : Vis X.env.scope x) (hd : (x == ("__debug__" : Str)) = false) (hcd : (x == ("__classdict__" : Str)) = false) :
    PE X (.Subscript (.Name x np) (.Constant (.str f) kj kp) sp) (tDGet (tVar i) (tC (.str f))) := pe_dget hu (pe_var hN hv hd hcd) pe_str (fun _ _ => rfl)
theorem dx_key (i : Nat) (hu : X.A.units + 1 < cLine) (hN : X.N[i]? = some x := by rfl) (hv : Vis X.env.scope x := by first | exact Or.inl rfl | exact Or.inr (Or.inl rfl) | exact Or.inr (Or.inr rfl))
    (hd : (x == ("__debug__" : Str)) = false := by decide) (hcd : (x == ("__classdict__" : Str)) = false := by decide) : DX X (.Subscript (.Name x np) (.Constant (.str f) kj kp) pos) (xKey i f) :=
  pe_imp (pe_key hu hN hv hd hcd) fun σ H Q2 ⟨n, δ, G, Q, R, h, k⟩ => by
    unfold xKey at h
    split at h
    · rename_i d e
      obtain ⟨h0, fs, e1, e2⟩ := recOf_inv e
      obtain ⟨a, vfs, g1, g2, g3, ow, i', g5⟩ := R.sl i _ e1
      obtain ⟨v, k1, k2⟩ := g5.at_ f _ e2
      refine ⟨.ref a, g1, a, v, rfl, ?_, k v G H d (Ext.refl R.sub) k2 h⟩
      have := DGet.k (k := (Sum.inr f : Key)) g3
      rw [valV_kx, k1] at this
      exact this
    · exact h.elim
/-- x["f"] = e -/
theorem ds_setK (i : Nat) {tp : Pos} {tv : TEd} (hu : X.A.units + 1 < cLine) (he : DE X e tv) (hN : X.N[i]? = some x := by rfl) (hv : Vis X.env.scope x := by first | exact Or.inl rfl | exact Or.inr (Or.inl rfl) | exact Or.inr (Or.inr rfl))
    (hd : (x == ("__debug__" : Str)) = false := by decide) (hcd : (x == ("__classdict__" : Str)) = false := by decide) (hs : swapsWith e (some (.Subscript (.Name x np) (.Constant (.str f) kj kp) tp)) pos.line X.env = pure false := by rfl) :
    DS X (.Assign [.Subscript (.Name x np) (.Constant (.str f) kj kp) tp] e pos) (dSetK i f tv) :=
  ps_imp (ps_dput hu (pe_var hN hv hd hcd) pe_str he hs) fun F σ H ⟨n, δ, G, E, R, h, k⟩ => ⟨n, δ, G, _, R, h, fun v G1 H1 d δ1 R1 s1 d1 ⟨h1, h2⟩ => by
    obtain ⟨h0, fs, s0, e1, lt, hf⟩ := hasRc_inv h1
    obtain ⟨a, vfs, g1, g2, g3, R2⟩ := R1.putRV (f := f) e1 hf d1
    rw [putRc_of e1] at h2
    refine ⟨.ref a, g1, a, _, rfl, DPut.k (k := (Sum.inr f : Key)) g2 ?_, k.nx _ σ G1 _ R2 h2⟩
    rw [List.length_map, g3, sizeLine_eq]; omega⟩
/-- x["f"].append(e) -/
theorem ds_kapp (i : Nat) {fp ap cp : Pos} (hu : X.A.units + 1 < cLine) (he : DX X e te) (hN : X.N[i]? = some x := by rfl) (hv : Vis X.env.scope x := by first | exact Or.inl rfl | exact Or.inr (Or.inl rfl) | exact Or.inr (Or.inr rfl))
    (hd : (x == ("__debug__" : Str)) = false := by decide) (hcd : (x == ("__classdict__" : Str)) = false := by decide)
    (hs : swapsWith (.Call (.Attribute (.Subscript (.Name x np) (.Constant (.str f) kj kp) fp) "append" ap) [e] [] cp) none pos.line X.env = pure false := by rfl)
    (hbase : attributeBase (.Subscript (.Name x np) (.Constant (.str f) kj kp) fp) "append" X.env (eval (.Subscript (.Name x np) (.Constant (.str f) kj kp) fp) X.env) = eval (.Subscript (.Name x np) (.Constant (.str f) kj kp) fp) X.env := by rfl)
    (hfew : ((backTo cp (starEach [e] X.env)).all (fun x => !x.1) && (backToKw cp (keywordEach [] X.env)).all (fun x => x.1.isSome)
      && decide ([e].length + ([] : List Keyword).length + (if ([] : List Keyword).isEmpty then 0 else 1) < 30)) = true := by rfl)
    (hline : (ap.endLine == cp.line) = true := by rfl) (hst : starEach [e] X.env = (false, eval e X.env) :: starEach [] X.env := by rfl) (hplain : (backTo cp (starEach [] X.env)).any (·.1) = false := by rfl) :
    DS X (.Expr (.Call (.Attribute (.Subscript (.Name x np) (.Constant (.str f) kj kp) fp) "append" ap) [e] [] cp) pos) (dKApp i f te) :=
  ps_imp (ps_expr (pe_bm PySem.F.plainAttrs_list PySem.F.slot_list_append PySem.F.type_list_append mt_append (pe_key hu hN hv hd hcd) (pa_cons he pa_nil hst) hbase hfew hline hst hplain) hs) fun F σ H ⟨n, δ, G, E, R, h, k⟩ => by
    unfold dKApp at h
    split at h
    · rename_i l el
      obtain ⟨h0, fs, e1, e2⟩ := rlsOf_inv el
      obtain ⟨a, vfs, q, vs, g1, g2, g3, g4, g9, g5, g6⟩ := R.rcList e1 e2
      have gd := DGet.k (k := (Sum.inr f : Key)) g2
      rw [valV_kx, g3] at gd
      refine ⟨.ref a, g1, a, .ref q, rfl, gd, .inl ⟨rfl, vs, SqL.of g4⟩, n, δ, G, _, R, h, fun v G1 H1 d x1 d1 h1 => ?_⟩
      refine ⟨q, vs, v, rfl, rfl, x1.hh _ _ g4, by rw [g5.length]; exact h1.1, ?_⟩
      have h2 := h1.2
      rw [putRc_of e1] at h2
      exact k.nx _ σ G1 _ (g6 G1 H1 _ _ x1 ((g5.up x1.gg).append (.cons d1 .nil))) h2
    · exact h.elim
/-- x["f"][e] -/
theorem dx_kix (i : Nat) {fp : Pos} (hu : X.A.units + 1 < cLine) (he : DX X e te) (hN : X.N[i]? = some x := by rfl) (hv : Vis X.env.scope x := by first | exact Or.inl rfl | exact Or.inr (Or.inl rfl) | exact Or.inr (Or.inr rfl))
    (hd : (x == ("__debug__" : Str)) = false := by decide) (hcd : (x == ("__classdict__" : Str)) = false := by decide) (hp : PlainIx e := by exact fun _ _ => rfl) :
    DX X (.Subscript (.Subscript (.Name x np) (.Constant (.str f) kj kp) fp) e pos) (xKIx i f te) :=
  pe_imp (pe_ix ix_seq (pe_key hu hN hv hd hcd) he hp) fun σ H Q2 ⟨n, δ, G, Q, R, h, k⟩ => by
    unfold xKIx at h
    split at h
    · rename_i l el
      obtain ⟨h0, fs, e1, e2⟩ := rlsOf_inv el
      obtain ⟨a, vfs, q, vs, g1, g2, g3, g4, g9, g5, g6⟩ := R.rcList e1 e2
      have gd := DGet.k (k := (Sum.inr f : Key)) g2
      rw [valV_kx, g3] at gd
      refine ⟨.ref a, g1, a, .ref q, rfl, gd, n, δ, G, _, R, h, fun v G1 H1 d x1 d1 h1 => ?_⟩
      split at h1
      · cases d1.int_inv
        obtain ⟨d, ed, hq⟩ := h1
        obtain ⟨w, h1, h2⟩ := atI_den (g5.up x1.gg) ed
        exact .inl ⟨q, vs, _, w, rfl, rfl, SqL.of (x1.hh _ _ g4), h1, k _ G1 H1 _ x1 h2 hq⟩
      · exact h1.elim
    · exact h.elim
/-- x["f"][z] = e -/
theorem ds_kset (i : Nat) {fp sp : Pos} (hu : X.A.units + 1 < cLine) (he : DX X e te) (hz : DX X z tz) (hN : X.N[i]? = some x := by rfl) (hv : Vis X.env.scope x := by first | exact Or.inl rfl | exact Or.inr (Or.inl rfl) | exact Or.inr (Or.inr rfl))
    (hd : (x == ("__debug__" : Str)) = false := by decide) (hcd : (x == ("__classdict__" : Str)) = false := by decide)
    (ha : ∀ v, assign (.Subscript (.Subscript (.Name x np) (.Constant (.str f) kj kp) fp) z sp) X.env v = (do
      let ov ← holding [v] (eval (.Subscript (.Name x np) (.Constant (.str f) kj kp) fp) X.env)
      let iv ← holding [v, ov] (eval z X.env)
      standAt sp
      holding [v, ov, iv] (setItem ov iv v)
      release [v, ov, iv] []) := by intro _; rfl)
    (hs : swapsWithSole [.Subscript (.Subscript (.Name x np) (.Constant (.str f) kj kp) fp) z sp] e pos.line X.env = pure false := by rfl) (hw : swappedStores [.Subscript (.Subscript (.Name x np) (.Constant (.str f) kj kp) fp) z sp] e X.env = pure none := by rfl)
    (h1 : (assignEach [.Subscript (.Subscript (.Name x np) (.Constant (.str f) kj kp) fp) z sp] X.env).map (·.2) = [assign (.Subscript (.Subscript (.Name x np) (.Constant (.str f) kj kp) fp) z sp) X.env] := by rfl) :
    DS X (.Assign [.Subscript (.Subscript (.Name x np) (.Constant (.str f) kj kp) fp) z sp] e pos) (dKSet i f te tz) :=
  ps_imp (ps_asg he (pg_sub (pe_key hu hN hv hd hcd) hz set_list ha) hs hw h1) fun F σ H ⟨n, δ, G, E, R, h, k⟩ => by
    unfold dKSet at h
    split at h
    · rename_i l el
      obtain ⟨h0, fs, e1, e2⟩ := rlsOf_inv el
      obtain ⟨a, vfs, q, vs, g1, g2, g3, g4, g9, g5, g6⟩ := R.rcList e1 e2
      refine ⟨n, δ, G, _, R, h, fun v G1 H1 d x1 d1 h1 => ?_⟩
      have gd := DGet.k (k := (Sum.inr f : Key)) (x1.hh _ _ g2)
      rw [valV_kx, g3] at gd
      refine ⟨.ref a, g1, a, .ref q, rfl, gd, n, δ, G1, _, R.ext x1, h1, fun w G2 H2 y x2 d2 h2 => ?_⟩
      split at h2
      · rename_i zz
        obtain ⟨j, ej, h2⟩ := h2
        cases d2.int_inv
        rw [putRc_of e1] at h2
        exact ⟨q, vs, zz, j, rfl, rfl, x2.hh _ _ (x1.hh _ _ g4), by rw [g5.length]; exact ej, k.nx _ σ G2 _ (g6 G2 H2 _ _ (x1.trans x2) (denl_set' (g5.up (x1.trans x2).gg) j (d1.up x2.gg))) h2⟩
      · exact h2.elim
    · exact h.elim
theorem dt_neK (i : Nat) {sp : Pos} {ta : TEd} (hu : X.A.units + 64 < cLine) (ha : DE X a ta) (hN : X.N[i]? = some x := by rfl) (hv : Vis X.env.scope x := by first | exact Or.inl rfl | exact Or.inr (Or.inl rfl) | exact Or.inr (Or.inr rfl))
    (hd : (x == ("__debug__" : Str)) = false := by decide) (hcd : (x == ("__classdict__" : Str)) = false := by decide) (hm : behindInMarks .NotEq (.Subscript (.Name x np) (.Constant (.str f) kj kp) sp) = false := by first | exact nomark _ | rfl) :
    DT X (.Compare a [.NotEq] [.Subscript (.Name x np) (.Constant (.str f) kj kp) sp] pos) (dNeK i f ta) :=
  pt_imp (pt_cmpR (op_neDeep hu) ha (pe_key (by omega) hN hv hd hcd) hm) fun σ H Q2 ⟨n, δ, G, Q, R, h, k⟩ => ⟨n, δ, G, _, R, h, fun v G1 H1 d δ1 R1 s1 d1 h1 => by
    split at h1
    · rename_i l el
      obtain ⟨h0, fs, e1, e2⟩ := rlsOf_inv el
      obtain ⟨a, vfs, q, vs, g1, g2, g3, g4, g9, g5, g6⟩ := R1.rcList e1 e2
      have gd := DGet.k (k := (Sum.inr f : Key)) g2
      rw [valV_kx, g3] at gd
      have s2 : Same G1 (upd G1 q (.lst vs)) := same_upd g9 _
      have s3 : Same (upd G1 q (.lst vs)) H1 := fun b u eb => by
        by_cases hb : b = q
        · subst hb; rw [upd_same] at eb; rw [g4]; exact eb
        · rw [upd_ne hb] at eb; exact R1.sub b u eb
      refine ⟨.ref a, g1, a, .ref q, rfl, gd, upd G1 q (.lst vs), d, .lst l, s3, d1.up s2, .lst (SqL.of upd_same) (g5.up s2), h1.1, _, rfl, ?_⟩
      exact k _ G1 H1 δ1 R1 s1 h1.2
    · exact h1.elim⟩
end
end Dl
namespace Dl
open PySem PySem.Spec PyProof.Rows L2
def dEqKV (i : Nat) (f : Str) (ta : TEd) : TEd := fun δ Q => ta δ fun d δ1 => match rlsOf i f δ1 with
  | some l => okEq d (.lst l) ∧ Q (.bl (eqD d (.lst l))) δ1
  | none => False
end Dl

namespace Dl
open PySem PySem.Spec PyProof.Rows L2
/-! ## A method of a new instance without a name; a method that gives a new list -/
section
variable {K : PySem.W.Frag} {n : En} {δ : Ev} {σ : L2.St} {G H G' H' : Hp} {p : Addr} {o u : HO}
theorem Rel.push (R : Rel K n δ σ G H) : Rel K n (δ ++ [.no]) (σ ++ [none]) G H := by
  obtain ⟨ow, ok, gh⟩ := R.gh
  refine ⟨R.sub, R.eg, R.eh, R.al, R.fr, ⟨ow, ok, fun i s hs => ?_⟩, by simp [R.len]⟩
  by_cases hi : i < δ.length
  · rw [List.getElem?_append_left hi] at hs
    rw [List.getElem?_append_left (by rw [← R.len]; exact hi)]
    exact gh i s hs
  · rw [List.getElem?_append_right (by omega)] at hs
    have : s = .no := by
      cases q : i - δ.length with
      | zero => rw [q] at hs; simp at hs; exact hs.symm
      | succ k => rw [q] at hs; simp at hs
    subst this; trivial
theorem Rel.pop {s : Sl} {v : Option V} (R : Rel K n (δ ++ [s]) (σ ++ [v]) G H) : Rel K n δ σ G H := by
  obtain ⟨ow, ok, gh⟩ := R.gh
  have hl : δ.length = σ.length := by have := R.len; simpa using this
  refine ⟨R.sub, R.eg, R.eh, R.al, R.fr, ⟨ow, ok, fun i s' hs => ?_⟩, hl⟩
  have hi : i < δ.length := (List.getElem?_eq_some_iff.mp hs).1
  have z := gh i s' (by rw [List.getElem?_append_left hi]; exact hs)
  rwa [List.getElem?_append_left (by rw [← hl]; exact hi)] at z
/-- a thing that no slot owns is changed -/
theorem Rel.loose (R : Rel K n δ σ G H) (hp : H p = none) (e : Ext G (upd H p o) G' H') : Rel K n δ σ G' (upd H' p u) := by
  have hG : G' p = none := by
    cases z : G' p with
    | none => rfl
    | some w => have := e.fr p w z (R.sub.free hp); rw [upd_same] at this; cases this
  have e1 := Ext.del e hG
  rw [del_upd, del_none hp] at e1
  have R1 := R.ext e1
  have R2 := R1.other hG (R1.al _ del_same) del_same u
  have z : upd (del H' p) p u = upd H' p u := by
    funext b
    by_cases hb : b = p
    · subst hb; rw [upd_same, upd_same]
    · rw [upd_ne hb, upd_ne hb, del_ne hb]
  rwa [z] at R2
end
def dMkMeth (C : Nat) (m : Str) (S0 S : SpO) (t : TAd) (ta : TXA) : TEd := fun δ Q => t δ fun ds δ1 => S0 (.o C [] :: ds.map .v) fun d outs => match d, outs with
  | .non, .o C' fs :: _ => C' = C ∧ fs.lookup m = none ∧ ta δ1 fun es => S (.o C fs :: es.map .v) fun d2 _ => Q d2 δ1
  | _, _ => False
abbrev TFd := Ev → (List D → Ev → Prop) → Prop
/-- an expression that gives a new list -/
def lF (K : PySem.W.Frag) (t : TFd) : TE := fun σ H Q2 => ∃ (n : En) (δ : Ev) (G : Hp) (Q : List D → Ev → Prop), Rel K n δ σ G H ∧ t δ Q ∧ ∀ (p : Addr) (vs : List V) (G' H' : Hp) (l : List D) (δ' : Ev), Rel K n δ' σ G' H' → Same G G' → H' p = none → DenL K G' vs l → Q l δ' → Q2 (.ref p) (upd H' p (.lst vs))
abbrev DF (X : Cx) (e : Expr) (t : TFd) : Prop := PE X e (lF X.K t)
abbrev SpF := List Ar → (List D → List Ar → Prop) → Prop
def spFr (K : PySem.W.Frag) (S : SpF) : Sp := fun vs H Q _ => ∃ (G : Hp) (as : List Ar) (Qd : List D → List Ar → Prop) (ow : Ow), Same G H ∧ as.length = vs.length ∧ ArsW K G H ow vs as ∧ (∀ p k, ow p = some k → G p = none ∧ H p ≠ none) ∧ S as Qd ∧
  ∀ (p : Addr) (ws : List V) (G' H' : Hp) (l : List D) (outs : List Ar) (ow' : Ow), ExtM (fun p => ow p ≠ none) G H G' H' → H' p = none → DenL K G' ws l → ArsW K G' H' ow' vs outs → (∀ p k, ow' p = some k → G' p = none ∧ H' p ≠ none ∧ (H p = none ∨ ow p ≠ none)) → Qd l outs → Q (.ref p) (upd H' p (.lst ws))
def fFList (C i : Nat) (f : Str) : TFd := fun δ Q => match lstOf C i f δ with
  | some l => Q l δ
  | none => False
def fMeth (i : Nat) (C : Nat) (m : Str) (S : SpF) : TFd := fun δ Q => match δ[i]? with
  | some (.ob _ C' fs) => C' = C ∧ fs.lookup m = none ∧ S [inA δ (.at i)] fun l outs => Q l (setO δ [.at i] outs)
  | _ => False
def dFrApp (t : TFd) (tx : TXd) : TSd := fun E δ => t δ fun l δ1 => l.length < sizeLine ∧ tx δ1 fun _ => E.nx δ1
section
variable {X : Cx} {e e0 c : Expr} {es es0 : List Expr} {t : TAd} {tA : TXA} {tx : TXd} {p pos cp : Pos} {f f0 C : Addr} {fd fd0 : FuncData} {ps ps0 : List Str} {S S0 : SpO} {SF : SpF} {k k0 : Nat} {m : Str} {apos : Pos} {tf : TFd}
end
section
variable {P : Program} {w : World} {K : PySem.W.Frag} {mg : Str → Option Value} {base : Heap}
end
end Dl

namespace Dl
open PySem PySem.Spec PyProof.Rows L2
/-! ## An exception of one's own on its way out -/
/-- how it lies behind a call: B is all that stands whatever the frames' slots are; E is told its class and the abstract heap -/
structure OutE (P : Program) (w : World) (outer : List Env) (H : Hp) (s : Shared) (ea : Addr) (C : Addr) (B : Heap) (H' : Hp) (s' : Shared) : Prop where
  os : s'.os = s.os
  bare : AllBare s'.gens
  un : Un (frs outer) [] H H' s.heap s'.heap
  fly : ∃ t, Heap.FlyingW B outer ea (.ref C) (.ref t) s'.heap
  hok : HOk P w H' B
  keep : ∀ b o, s.heap.get? b = some o → H b = none → b ∉ frs outer → B.get? b = some o
  th : ∀ b o, s.heap.get? b = some o → b ∉ frs outer → ∃ o', B.get? b = some o'
def CXE (P : Program) (w : World) : CXT := fun outer H s E e s' => ∃ (ea C : Addr) (B : Heap) (H' : Hp), e = .ref ea ∧ OutE P w outer H s ea C B H' s' ∧ E (.ref C) none H'
/-- the heap without the frames -/
abbrev noFr (X : Cx) (h : Heap) : Heap := PySem.W.hideAll h (frs X.stack)
section
variable {X : Cx} {pins : List (Addr × Obj)} {σ : L2.St} {H H' : Hp} {s s' : Shared} {ea C : Addr} {vs : List Value} {B h' : Heap}
theorem in_noFr (I : Inv X pins σ H s) {b : Addr} {o : Obj} (e : s.heap.get? b = some o) (n : b ∉ frs X.stack) : (noFr X s.heap).get? b = some o := PySem.W.hideAll_get _ e n
theorem hok_noFr (I : Inv X pins σ H s) : HOk X.prog X.w H (noFr X s.heap) := fun a o e => by
  refine (I.hok a o e).stay (fun b u hb q => in_noFr I q fun z => ?_) (fun _ q => q) fun _ _ q => q
  have hn := I.stkFree b z
  rcases hb with rfl | hb
  · rw [hn] at e; cases e
  · rw [hn] at hb; cases hb
theorem frs_cons {env : Env} {l : List Env} {b : Addr} (h : b ∈ frs (env :: l)) : env.frame = some b ∨ b ∈ frs l := by
  obtain ⟨e, he, hf⟩ := List.mem_filterMap.mp h
  rcases (List.mem_cons.mp he) with rfl | he
  · exact .inl hf
  · exact .inr (List.mem_filterMap.mpr ⟨e, he, hf⟩)
theorem frs_tail {env : Env} {l : List Env} {b : Addr} (h : b ∈ frs l) : b ∈ frs (env :: l) := by
  obtain ⟨e, he, hf⟩ := List.mem_filterMap.mp h
  exact List.mem_filterMap.mpr ⟨e, List.mem_cons_of_mem _ he, hf⟩
theorem ne_stack (I : Inv X pins σ H s) (hst : X.stack = X.env :: X.outer) (hfr : X.env.frame = some X.env.locals) {b : Addr} {o : Obj} (e : X.s₀.heap.get? b = some o) (nb : b ∉ frs X.outer) : b ∉ frs X.stack := fun z => by
  rw [hst] at z
  rcases frs_cons z with z | z
  · rw [hfr] at z; cases z
    exact absurd (Heap.lt_size e) (Nat.not_lt.mpr I.ok.above)
  · exact nb z
/-- from the def's entry to behind it -/
theorem un_out {h2 : Heap} (I : Inv X pins σ H s) (hst : X.stack = X.env :: X.outer) (hex : X.ex = []) (hfr : X.env.frame = some X.env.locals) (u : Un (frs X.stack) [] H H' s.heap h2) : Un (frs X.outer) [] X.H₀ H' X.s₀.heap h2 := by
  have b0 : Un (frs X.outer) [] X.H₀ H X.s₀.heap s.heap := by have z := I.base; rw [hex] at z; exact z
  have ne : ∀ b o, X.s₀.heap.get? b = some o → b ∉ frs X.outer → b ∉ frs X.stack := fun b o e nb z => by
    rw [hst] at z
    rcases frs_cons z with z | z
    · rw [hfr] at z; cases z
      exact absurd (Heap.lt_size e) (Nat.not_lt.mpr I.ok.above)
    · exact nb z
  refine ⟨fun b o e n nb nx => u.keep b o (b0.keep b o e n nb nx) (b0.free b o e n nx) (ne b o e nb) nx, fun b o e n hb nx => ?_, fun b o e n nx => ?_, fun b o e nx => ?_, fun b xs q => u.tups b xs (b0.tups b xs q), fun b o v q => u.frzs b o v (b0.frzs b o v q), fun b ps q => ?_⟩
  · obtain ⟨sl, e1⟩ := b0.slot b o e n hb nx
    obtain ⟨sl', e2⟩ := u.slot b _ e1 (b0.free b o e n nx) (by rw [hst]; exact frs_tail hb) nx
    exact ⟨sl', e2⟩
  · obtain ⟨o', e1⟩ := b0.there b o e nx
    exact u.free b o' e1 (b0.free b o e n nx) nx
  · obtain ⟨o', e1⟩ := b0.there b o e nx
    exact u.there b o' e1 nx
  · obtain ⟨m1, e1⟩ := b0.tbls b ps q
    obtain ⟨m2, e2⟩ := u.tbls b _ e1
    exact ⟨m1 ++ m2, by rw [e2, Array.append_assoc]⟩
/-- the frame that raised is left -/
theorem leave_first (I : Inv X pins σ H s) (hst : X.stack = X.env :: X.outer) (hfr : X.env.frame = some X.env.locals) (hex : X.ex = []) (hx : Heap.MadeExcOf s.heap h' ea (.ref C) vs) {Q : Unit → Shared → Prop} {E : Value → Shared → Prop}
    (hQ : ∀ s'', OutE X.prog X.w X.outer X.H₀ X.s₀ ea C (noFr X s.heap) H s'' → Q () s'') : wpAny (model X.prog X.w) X.A (leaving X.env (.ref ea)) Q E { s with heap := h' } := by
  have hin : ∀ env ∈ X.stack, ∀ b, env.frame = some b → b ∈ frs X.stack := fun env he b hb => List.mem_filterMap.mpr ⟨env, he, hb⟩
  have kb : (noFr X s.heap).StaysIn s.heap := fun b o q => PySem.W.of_hideAll _ q
  have ff : s.heap.FunFrames (noFr X s.heap) (X.env :: X.outer) := by
    have z : s.heap.FunFrames (noFr X s.heap) X.stack := PySem.W.funFrames_hide I.stack hin
    rw [← hst]; exact z
  refine wpAny_leaves_madeW (base := noFr X s.heap) (by rw [I.ok.frames, hst]) hfr kb ff hx fun h'' t x1 x2 x3 x4 => hQ _ ⟨I.os, I.bare, ?_, ⟨t, x1⟩, hok_noFr I, fun b o e n nb => ?_, fun b o e nb => ?_⟩
  · have up : ∀ b o, s.heap.get? b = some o → b ∉ frs X.stack → h''.get? b = some o := fun b o e n => x1.1 b o (in_noFr I e n)
    have u2 : Un (frs X.stack) [] H H s.heap h'' := by
      have sl : ∀ b o, s.heap.get? b = some o → b ∈ frs X.stack → ∃ z, h''.get? b = some { o with slots := z } := fun b o e hb => by
        obtain ⟨_, o', ho', nf⟩ := I.stack.mem hb
        rw [e] at ho'; cases ho'
        exact x4 b o (hx.keeps b o e) nf
      refine ⟨fun b o e _ nb _ => up b o e nb, fun b o e _ hb _ => sl b o e hb, fun _ _ _ n _ => n, fun b o e _ => ?_, fun _ _ q => q, fun _ _ _ q => q, fun _ ps q => ⟨#[], by rw [q]; simp⟩⟩
      by_cases hb : b ∈ frs X.stack
      · obtain ⟨z, hz⟩ := sl b o e hb; exact ⟨_, hz⟩
      · exact ⟨o, up b o e hb⟩
    exact un_out I hst hex hfr u2
  · have e1 := I.base.keep b o e n nb (by rw [hex]; simp)
    refine in_noFr I e1 ?_
    exact ne_stack I hst hfr e nb
  · obtain ⟨o', e1⟩ := I.base.there b o e (by rw [hex]; simp)
    exact ⟨o', in_noFr I e1 (ne_stack I hst hfr e nb)⟩
/-- a frame through which it passes is left -/
theorem leave_next (I : Inv X pins σ H s) (hst : X.stack = X.env :: X.outer) (hfr : X.env.frame = some X.env.locals) (hex : X.ex = []) (O : OutE X.prog X.w X.stack H s ea C B H' s') {Q : Unit → Shared → Prop} {E : Value → Shared → Prop}
    (hQ : ∀ s'', OutE X.prog X.w X.outer X.H₀ X.s₀ ea C B H' s'' → Q () s'') : wpAny (model X.prog X.w) X.A (leaving X.env (.ref ea)) Q E s' := by
  obtain ⟨t, fly⟩ := O.fly
  rw [hst] at fly
  refine wpAny_leaves_onW (by rw [I.ok.frames, hst]) hfr fly fun h'' x1 x2 => hQ _ ⟨O.os.trans I.os, O.bare, un_out I hst hex hfr ?_, ⟨t, x1⟩, O.hok, fun b o e n nb => ?_, fun b o e nb => ?_⟩
  · have sl : ∀ b o, s.heap.get? b = some o → H b = none → b ∈ frs X.stack → ∃ z, h''.get? b = some { o with slots := z } := fun b o e n hb => by
      obtain ⟨z, hz⟩ := O.un.slot b o e n hb (by simp)
      obtain ⟨_, o', ho', nf⟩ := I.stack.mem hb
      rw [e] at ho'; cases ho'
      obtain ⟨z', hz'⟩ := x2 b _ hz nf
      exact ⟨z', hz'⟩
    refine ⟨fun b o e n nb _ => x1.1 b o (O.keep b o e n nb), fun b o e n hb _ => sl b o e n hb, O.un.free, fun b o e nx => ?_, O.un.tups, O.un.frzs, O.un.tbls⟩
    by_cases hb : b ∈ frs X.stack
    · obtain ⟨z, hz⟩ := sl b o e (I.stkFree b hb) hb; exact ⟨_, hz⟩
    · cases q : H b with
      | none => exact ⟨o, x1.1 b o (O.keep b o e q hb)⟩
      | some u => obtain ⟨o', ho'⟩ := O.th b o e hb; exact ⟨o', x1.1 b o' ho'⟩
  · have e1 := I.base.keep b o e n nb (by rw [hex]; simp)
    refine O.keep b o e1 (I.base.free b o e n (by rw [hex]; simp)) ?_
    exact ne_stack I hst hfr e nb
  · obtain ⟨o', e1⟩ := I.base.there b o e (by rw [hex]; simp)
    exact O.th b o' e1 (ne_stack I hst hfr e nb)
end
end Dl

namespace Dl
open PySem PySem.Spec PyProof.Rows L2
/-! ## What raises -/
/-- what the context wants of an exception of the class at C that is raised here; n: the entry; P: what is known of the slots then -/
structure WishM (X : Cx) (n : En) (C : Addr) (P : Ev → Prop) : Prop where
  made : ∀ (pins : List (Addr × Obj)) (σ : L2.St) (H : Hp) (s : Shared) (h' : Heap) (ea : Addr) (vs : List Value), Inv X pins σ H s → (∃ δ G, Rel X.K n δ σ G H ∧ P δ) → Heap.MadeExcOf s.heap h' ea (.ref C) vs → X.xe (.ref ea) { s with heap := h' }
/-- and of one that comes out of a call -/
structure Wish (X : Cx) (n : En) (C : Addr) (P : Ev → Prop) : Prop where
  pass : ∀ (pins : List (Addr × Obj)) (σ : L2.St) (H : Hp) (s : Shared) (ea : Addr) (B : Heap) (H' : Hp) (s' : Shared), Inv X pins σ H s → OutE X.prog X.w X.stack H s ea C B H' s' → (∃ δ' σ' G', Rel X.K n δ' σ' G' H' ∧ P δ') → X.xe (.ref ea) s'
def lR (K : PySem.W.Frag) (n : En) (r : Ev → Prop) : TE := fun σ H _ => ∃ δ G, Rel K n δ σ G H ∧ r δ
def lRA (K : PySem.W.Frag) (n : En) (r : Ev → Prop) : TA := fun σ H _ => ∃ δ G, Rel K n δ σ G H ∧ r δ
def lRS (K : PySem.W.Frag) (n : En) (r : Ev → Prop) : TS := fun _ σ H => ∃ δ G, Rel K n δ σ G H ∧ r δ
abbrev RE (X : Cx) (n : En) (e : Expr) (r : Ev → Prop) : Prop := PE X e (lR X.K n r)
abbrev RA (X : Cx) (n : En) (es : List Expr) (r : Ev → Prop) : Prop := PA X es (lRA X.K n r)
abbrev RS (X : Cx) (n : En) (st : Stmt) (r : Ev → Prop) : Prop := PS X st (lRS X.K n r)
abbrev RSs (X : Cx) (n : En) (sts : List Stmt) (r : Ev → Prop) : Prop := PSs X sts (lRS X.K n r)
/-- a def's promise to raise -/
def spR (K : PySem.W.Frag) (C : Addr) (S : List D → Prop) : Sp := fun vs H _ E => ∃ (G : Hp) (ds : List D), Same G H ∧ DenL K G vs ds ∧ S ds ∧ ∀ G' H', Ext G H G' H' → E (.ref C) none H'
section
variable {X : Cx} {n : En} {C : Addr} {e a b c : Expr} {es : List Expr} {st : Stmt} {rest : List Stmt} {r ra rb P : Ev → Prop} {pos : Pos}
theorem rss_here (h : RS X n st r) : RSs X n (st :: rest) r :=
  pss_imp (pss_cons h (u := fun _ _ _ => False) fun _ _ _ _ _ _ z => z.elim) fun D σ H z => z
theorem rs_if {sa sb : List Stmt} {tc : TTd} (hc : DT X c tc) (ha : RSs X n sa ra) (hb : RSs X n sb rb) : RS X n (.If c sa sb pos) (fun δ => tc δ fun q δ1 => if q = true then ra δ1 else rb δ1) :=
  ps_imp (ps_if hc ha hb) fun D σ H ⟨δ, G, R, h⟩ => ⟨n, δ, G, _, R, h, fun q G1 H1 δ1 R1 s1 h1 => by
    cases q with
    | true => rw [if_pos rfl] at h1; exact iteT ⟨δ1, G1, R1, h1⟩
    | false => rw [if_neg Bool.false_ne_true] at h1; exact iteF ⟨δ1, G1, R1, h1⟩⟩
theorem rss_no {sts : List Stmt} : RSs X n sts (fun _ => False) := fun _ _ _ _ _ _ ⟨_, _, _, z⟩ => z.elim
theorem rs_expr (he : RE X n e r) (hs : swapsWith e none pos.line X.env = pure false := by rfl) : RS X n (.Expr e pos) r := ps_imp (ps_expr he hs) fun _ _ _ z => z
theorem rs_ret (he : RE X n e r) : RS X n (.Return (some e) pos) r := ps_imp (ps_ret he) fun _ _ _ z => z
theorem re_if {tc : TTd} (hc : DT X c tc) (ha : RE X n a ra) (hb : RE X n b rb) : RE X n (.IfExp c a b pos) (fun δ => tc δ fun q δ1 => if q = true then ra δ1 else rb δ1) :=
  pe_imp (pe_ifExp hc ha hb) fun σ H Q ⟨δ, G, R, h⟩ => ⟨n, δ, G, _, R, h, fun q G1 H1 δ1 R1 s1 h1 => by
    cases q with
    | true => rw [if_pos rfl] at h1; exact iteT ⟨δ1, G1, R1, h1⟩
    | false => rw [if_neg Bool.false_ne_true] at h1; exact iteF ⟨δ1, G1, R1, h1⟩⟩
/-- f(..), which raises -/
theorem re_call {k : Nat} {f : Addr} {fd : FuncData} {ps : List Str} {S : List D → Prop} {x : Str} {p : Pos} {t : TAd} (W : Wish X n C P) (F : FnOk X.prog X.w X.K X.mg X.base (CXE X.prog X.w) k f fd ps (spR X.K C S)) (hr : Room k X.A) (hm : X.mg x = some (.ref f)) (hk : PySem.W.keepIn X.K (.ref f) = true) (hb : Binds X.K fd ps [])
    (ha : DA X (e :: es) t) (hg : Gl X x := by rfl) (hdb : (x == ("__debug__" : Str)) = false := by decide) (he : starEach (e :: es) X.env = (false, eval e X.env) :: starEach es X.env := by rfl) (hpl : (backTo pos (starEach es X.env)).any (·.1) = false := by rfl) :
    RE X n (.Call (.Name x p) (e :: es) [] pos) (fun δ => t δ fun ds δ1 => S ds ∧ P δ1) := by
  have hx : Passes (CXE X.prog X.w) X (fun cls _ H' => cls = .ref C ∧ ∃ δ' σ' G', Rel X.K n δ' σ' G' H' ∧ P δ') := fun pins σ H s e s' I ⟨ea, C', B, H', ee, O, ec, hR⟩ => by
    cases ec; subst ee
    exact W.pass pins σ H s ea B H' s' I O hR
  exact pe_imp (pe_call F hr hg hm hk hb .nil hx ha hdb he hpl) fun σ H Q ⟨δ, G, R, h⟩ => ⟨n, δ, G, _, R, h, fun vs G1 H1 ds δ1 R1 s1 d1 h1 => by
    show spR X.K C S (vs ++ []) H1 Q _
    rw [List.append_nil]
    exact ⟨G1, ds, R1.sub, d1, h1.1, fun G' H' e => ⟨rfl, δ1, σ, G', R1.ext e, h1.2⟩⟩⟩
end
section
variable {P : Program} {w : World} {K : PySem.W.Frag} {mg : Str → Option Value} {base : Heap}
/-- a def's body that raises -/
theorem fnR {x qual : Str} {st : Stmt} {f C : Addr} {fd : FuncData} {N ps : List Str} {k : Nat} {S : List D → Prop} (F : Fun K x qual st f fd) (Sc : FnScope N ps (defScope st)) (len : ∀ ds, S ds → ds.length = ps.length)
    (hbody : ∀ (cdv : Value) (A : Around) (outer : List Env) (s : Shared) (H : Hp) (E : XK) (n : En), Room k (A.deeper (envOfC qual (defScope st) s.heap.objs.size f cdv)) → Wish (cxOf (CXE P w) P w K mg base N qual (defScope st) f cdv A outer s H E) n C (fun _ => True) → WishM (cxOf (CXE P w) P w K mg base N qual (defScope st) f cdv A outer s H E) n C (fun _ => True) →
      ∃ r, RSs (cxOf (CXE P w) P w K mg base N qual (defScope st) f cdv A outer s H E) n (defBody st) r ∧ ∀ ds, S ds → r (startD N ds)) : FnOk P w K mg base (CXE P w) (k + 1) f fd ps (spR K C S) := by
  obtain ⟨oc, od, kV, doc, pm, an, cdv, ct, osl, rfl, lk, hcd⟩ := F.ex
  refine fn_of lk hcd Sc (fun vs H Q E ⟨G, ds, _, dn, h, _⟩ => by rw [dn.length]; exact len ds h) fun A outer s H vs Q E hr ⟨G, ds, sub, dn, h, hE⟩ => ?_
  have W : Wish (cxOf (CXE P w) P w K mg base N qual (defScope st) f cdv A outer s H E) ⟨G, H, fun _ => False⟩ C (fun _ => True) := ⟨fun pins σ H1 s1 ea B H' s' I O ⟨δ', σ', G', R, _⟩ => leave_next I rfl rfl rfl O fun s'' O' => ⟨ea, C, B, H', rfl, O', hE G' H' R.toExt⟩⟩
  have WM : WishM (cxOf (CXE P w) P w K mg base N qual (defScope st) f cdv A outer s H E) ⟨G, H, fun _ => False⟩ C (fun _ => True) := ⟨fun pins σ H1 s1 h' ea vs I ⟨δ, G1, R, _⟩ hx => leave_first I rfl rfl rfl hx fun s'' O => ⟨ea, C, _, H1, rfl, O, hE G1 H1 R.toExt⟩⟩
  obtain ⟨r, hr1, hr2⟩ := hbody cdv A outer s H E ⟨G, H, fun _ => False⟩ hr W WM
  exact ⟨_, hr1, startD N ds, G, rel_start (N := N) sub dn, hr2 ds h⟩
end
end Dl

namespace Dl
open PySem PySem.Spec PyProof.Rows L2
/-! ## raise C("..") -/
theorem rs_raise {X : Cx} {n : En} {C : Addr} {P : Ev → Prop} {x t : Str} {j : Nat} {np p cpos pos : Pos} {bm : List Value} {B newId initId : String} {name : Str} {scope : Scope} {L a : Addr} {cd : Value} (W : WishM X n C P) (hcalm : X.calm = true) (O : OwnCls x C bm newId X.mg X.base) (EB : ExcBaseFacts B newId initId bm)
    (henv : X.env = envOf name scope L a cd) (hk : scope.kind = .function) (hx : (envOf name scope L a cd).kindOf x = some .globalImplicit) (hd : (x == ("__debug__" : Str)) = false := by decide) :
    RS X n (.Raise (some (.Call (.Name x np) [.Constant (.str t) j p] [] cpos)) none pos) P := by
  intro pins s σ H D I ⟨δ, G, R, hP⟩
  obtain ⟨m, F⟩ := I.fr
  have args : wpAny (model X.prog X.w) X.A (spliced (backTo cpos (starEach [.Constant (.str t) j p] X.env))) (AP X pins σ fun vs H1 => vs = [.str t] ∧ H1 = H) X.xe s :=
    (pa_cons (X := X) (e := .Constant (.str t) j p) (es := []) pe_str pa_nil rfl) cpos pins s σ H _ I ⟨rfl, rfl⟩
  have eL : X.env.locals = L := by rw [henv]; rfl
  rw [eL] at F
  rw [henv] at args ⊢
  refine Raise_own F I.ok.mod.glob O EB (I.ok.hd hcalm) (thn args fun us s2 ⟨vs, H1, I2, rv, e1, e2⟩ => ⟨?_, I2.bk, fun h' ea hm => ?_⟩) rfl rfl hk hx hd
  · subst e1
    rw [← rv.length]
    show 1 ≤ sizeLine
    decide
  · subst e2
    exact W.made pins σ _ s2 h' ea us I2 ⟨δ, G, R, hP⟩ hm
/-- the class, from the text -/
theorem own_in {K : PySem.W.Frag} {h : Heap} {mg : Str → Option Value} {x : Str} {C : Addr} {bmB : List Value} {newId : String} (X : K.In h) (G : h.Ns mainGlobals mg) (e : PySem.W.nsIn K mainGlobals x = some (some (.ref C))) (q : PySem.W.excIn K C bmB newId = true) : OwnCls x C bmB newId mg h := by
  refine ⟨PySem.W.mg_of X G e, ?_⟩
  unfold PySem.W.excIn at q
  split at q
  case h_2 => cases q
  rename_i dct cdt slo hlk
  split at q
  case h_2 => cases q
  rename_i Cc tl a0 a1 a2 a3 nid a5 hmro hsl
  simp only [Bool.and_eq_true, Bool.not_eq_true', beq_iff_eq] at q
  obtain ⟨⟨⟨⟨⟨q1, q2⟩, q3⟩, q4⟩, q5⟩, q6⟩ := q
  subst q1 q2
  obtain ⟨c1, c2, c3, c4, c5, c6, c7, c8, c9, c10, c11⟩ := cdt
  simp only at hmro q3 q5 q6
  subst hmro q3
  have es : slo = #[a0, a1, a2, a3, some (.builtin nid), a5] := by
    rcases slo with ⟨l⟩
    exact congrArg Array.mk hsl
  subst es
  exact ⟨tl, c4, c1, c5, c2, c6, c7, c8, c9, c10, dct, a0, a1, a2, a3, a5, h.nsMap c4, X _ _ hlk, .of_isNs (PySem.W.isNs_of_in X q5), PySem.W.nsMap_none_of_in X q5 q6, PySem.W.tail_of_in X q4⟩
end Dl

namespace Dl
open PySem PySem.Spec PyProof.Rows L2
/-! ## except Base, of an own class that has an own base -/
section
variable {A : Around} {M : Model} {E : Value → Shared → Prop}
variable {nm q nm' q' : Str} {C N R N' : Addr} {bs bm bs' bm' : List Value} {hdct hdct' : Bool} {sn sn' : List Str} {sub sub' : List Value} {ab ab' : Bool} {col col' : Option Bool} {dd dd' : Option Addr} {k0 k1 k2 k3 k5 j0 j1 j2 j3 j5 : Option Value} {newId newId' : String}
theorem excMatches_base {h : Heap} {g : Array GenState} {d : Drawn} {t : Nat} {os : OsState} {e : Addr} {oe : Obj} {Q : Bool → Shared → Prop}
    (hC : h.get? C = some (excClassObj nm q C N bs bm hdct sn sub ab col dd k0 k1 k2 k3 k5 newId)) (hR : h.get? R = some (excClassObj nm' q' R N' bs' bm' hdct' sn' sub' ab' col' dd' j0 j1 j2 j3 j5 newId')) (he : h.get? e = some oe) (hcls : oe.cls = .ref C)
    (hbase : bm'.contains (.type "BaseException") = true) (hin : bm.contains (.ref R) = true) (hq : Q true ⟨h, g, d, t, os⟩) : wpAny M A (excMatches (.ref e) (.ref R)) Q E ⟨h, g, d, t, os⟩ := by
  have c1 : (Value.ref R :: bm').contains (.type "BaseException") = true := by rw [List.contains_cons, hbase, Bool.or_true]
  have c2 : (Value.ref C :: bm).contains (.ref R) = true := by rw [List.contains_cons, hin, Bool.or_true]
  have f := tc_notTuple
  unfold excMatches
  repeat (first | (with_reducible refine wpAny_loadPart_at he ?_; rw [hcls]) | with_reducible refine wpAny_loadPart_at hR ?_ | (with_reducible refine wpAny_isSubtype_exc hR ?_; rw [c1]) | (with_reducible refine wpAny_isSubtype_exc hC ?_; rw [c2]) | wp_step)
  exact hq
end
section
variable {A : Around} {prog : Program} {w : World} {E : Value → Shared → Prop} {s : Shared} {env : Env}
/-- except R as n: the exception's class is C -/
theorem handleBy_base_as {e C R : Addr} {y : Str} {bmR : List Value} {newId newR : String} {mg : Str → Option Value} {t : Expr} {n : Str} {b0 : Stmt} {suite : List Stmt} {pos : Pos} {rest : List ExceptHandler} {Q : Flow → Shared → Prop}
    (hbase : bmR.contains (.type "BaseException") = true)
    (h : wpAny (model prog w) (A.mark (some (.ref e))) (eval t env) (fun c s1 => c = .ref R ∧ OwnCls y R bmR newR mg s1.heap ∧ (∃ bm N nm q bs hdct sn sub ab col dd k0 k1 k2 k3 k5, s1.heap.get? C = some (excClassObj nm q C N bs bm hdct sn sub ab col dd k0 k1 k2 k3 k5 newId) ∧ bm.contains (.ref R) = true) ∧ (∃ oe, s1.heap.get? e = some oe ∧ oe.cls = .ref C) ∧
      wpAny (model prog w) (A.mark (some (.ref e))) (setFlight (.ref e) none) (fun _ s2 =>
          wpAny (model prog w) (A.mark (some (.ref e))) (storeName env n (.ref e)) (fun _ s3 =>
            wpAny (model prog w) (A.mark (some (.ref e))) (execs (b0 :: suite) env)
              (fun f s4 => wpAny (model prog w) A (do bindName env n .none; unbindBehindTheSuite env n pos) (fun _ s5 => Q f s5) E s4)
              (fun _ _ => False) s3) (fun _ _ => False) s2) (fun _ _ => False) s1) (fun _ _ => False) s) :
    wpAny (model prog w) A (handleBy (.ref e) env (.ExceptHandler (some t) (some n) (b0 :: suite) pos :: rest)) Q E s := by
  refine wpAny_handleBy_cons (codeAny_handlers_test (wpAny_mono h (fun c s1 h1 => ?_) fun _ _ z => z.elim)) (by intro z; cases z)
  obtain ⟨rfl, O, ⟨bm, N, nm, q, bs, hdct, sn, sub, ab, col, dd, k0, k1, k2, k3, k5, hC, hin⟩, ⟨oe, he, hcls⟩, hk⟩ := h1
  obtain ⟨bm2, N2, nm2, q2, bs2, hdct2, sn2, sub2, ab2, col2, dd2, j0, j1, j2, j3, j5, mN2, hR, hN2, hni2, T2⟩ := O.obj
  obtain ⟨hh, g, d, tk, os⟩ := s1
  refine excMatches_base hC hR he hcls (T2.hasType hbase) hin (codeAny_handlers_suite_as ?_)
  exact wpAny_mono hk (fun _ s2 h2 => wpAny_mono h2 (fun _ s3 h3 => wpAny_mono h3 (fun f s4 h4 => h4) fun _ _ z => z.elim) fun _ _ z => z.elim) fun _ _ z => z.elim
end
end Dl

namespace Dl
open PySem PySem.Spec PyProof.Rows L2
/-! ## try, with an except suite that returns -/
theorem ObjOk.got {P : Program} {w : World} {H : Hp} {h : Heap} {a : Addr} {o : HO} (x : ObjOk P w H h a o) : ∃ ob, h.get? a = some ob := by
  cases o with
  | lst xs => obtain ⟨_, _, _, _, e⟩ := x; exact ⟨_, e⟩
  | tup xs => obtain ⟨_, _, _, ob, e, _⟩ := x; exact ⟨_, e⟩
  | dK kvs => obtain ⟨_, _, _, _, o, _, _, e, _⟩ := x; exact ⟨_, e⟩
  | dT kvs => obtain ⟨_, _, _, _, o, _, _, e, _⟩ := x; exact ⟨_, e⟩
  | set S n => obtain ⟨o, _, _, _, e, _⟩ := x; exact ⟨_, e⟩
  | ins C dx fs => obtain ⟨_, _, _, e, _⟩ := x; exact ⟨_, e⟩
  | own y => exact x
  | xd fs => obtain ⟨_, ⟨_, _, _, e, _⟩, _⟩ := x; exact ⟨_, e⟩
  | rng lo hi => obtain ⟨_, _, _, e⟩ := x; exact ⟨_, e⟩
  | frz ob u => obtain ⟨e, _⟩ := x; exact ⟨_, e⟩
  | tbl ps => exact ⟨_, (show h.get? a = some _ from x)⟩
  | met f y => exact ⟨_, (show h.get? a = some _ from x)⟩
  | ext φ => obtain ⟨_, e, _⟩ := x; exact e
/-- the context within an except suite -/
abbrev markX (Y : Cx) (ea : Addr) : Cx := { Y with A := Y.A.mark (some (.ref ea)), calm := false, xe := fun _ _ => False }
section
variable {X : Cx} {pins : List (Addr × Obj)} {σ : L2.St} {H H' : Hp} {s s' : Shared} {ea C : Addr} {B h' : Heap}
theorem Inv.marked (I : Inv X pins σ H s) (ea : Addr) : Inv (markX X ea) pins σ H s :=
  ⟨⟨I.ok.mod, I.ok.kind, I.ok.glob, I.ok.blt, I.ok.above, I.ok.inj, I.ok.has, I.ok.cab, fun z => (by cases z), I.ok.frames, I.ok.stk, I.ok.exf, I.ok.bs, I.ok.bsz, I.ok.noex, I.ok.exfs, I.ok.funs, I.ok.frf⟩, I.os, I.bare, I.base, I.loc, I.cell, I.free, I.freeC, I.pin, I.hok, I.len⟩
theorem Inv.unmarked (ok : X.Ok) (I : Inv (markX X ea) pins σ H s) : Inv X pins σ H s := ⟨ok, I.os, I.bare, I.base, I.loc, I.cell, I.free, I.freeC, I.pin, I.hok, I.len⟩
/-- the frame's names may be anything now -/
theorem Inv.anyNames {m' : Str → Option Value} {t' : Nat} (I : Inv X pins σ H s) (hn : h'.Ns X.env.locals m') (hs : Heap.SameBut X.env.locals s.heap h') : Inv X pins (List.replicate X.N.length none) H { s with heap := h', toks := t' } := by
  have same : ∀ b, b ≠ X.env.locals → h'.get? b = s.heap.get? b := fun b hb => hs.2 b hb
  have low : ∀ b o, X.s₀.heap.get? b = some o → b ≠ X.env.locals := fun b o e z => by
    subst z; exact absurd (Heap.lt_size e) (Nat.not_lt.mpr I.ok.above)
  refine ⟨I.ok, I.os, I.bare, ⟨fun b o e n n1 n2 => ?_, fun b o e n n1 n2 => ?_, I.base.free, fun b o e n2 => ?_, I.base.tups, I.base.frzs, I.base.tbls⟩, ⟨m', hn, fun i x v _ e => ?_⟩, fun x c e => ?_, I.free, I.freeC, fun p hp => ?_, fun a o e => ?_, by simp⟩
  · show h'.get? b = _; rw [same b (low b o e)]; exact I.base.keep b o e n n1 n2
  · obtain ⟨sl, e1⟩ := I.base.slot b o e n n1 n2; exact ⟨sl, (same b (low b o e)).trans e1⟩
  · obtain ⟨o', e1⟩ := I.base.there b o e n2; exact ⟨o', (same b (low b o e)).trans e1⟩
  · rw [List.getElem?_replicate] at e; split at e <;> cases e
  · obtain ⟨v, o, ho, hd⟩ := I.cell x c e; exact ⟨v, o, (same c (I.cne x c e)).trans ho, hd⟩
  · obtain ⟨p1, p2, p3, p4, p5⟩ := I.pin p hp; exact ⟨(same _ p3).trans p1, p2, p3, p4, p5⟩
  · refine (I.hok a o e).stay (fun b u hb q => (same b ?_).trans q) (fun _ q => q) fun _ _ q => q
    rintro rfl
    rcases hb with rfl | hb
    · rw [I.free] at e; cases e
    · rw [I.free] at hb; cases hb
theorem un_upto (I : Inv X pins σ H s) (O : OutE X.prog X.w X.stack H s ea C B H' s') (k : B.StaysIn h') (u : s'.heap.UpToSlots h') : Un (frs X.stack) [] H H' s.heap h' := by
  have sl : ∀ b o, s.heap.get? b = some o → H b = none → b ∈ frs X.stack → ∃ z, h'.get? b = some { o with slots := z } := fun b o e n hb => by
    obtain ⟨z, hz⟩ := O.un.slot b o e n hb (by simp)
    obtain ⟨_, o', ho', nf⟩ := I.stack.mem hb
    rw [e] at ho'; cases ho'
    obtain ⟨z', hz'⟩ := u b _ hz nf
    exact ⟨z', hz'⟩
  refine ⟨fun b o e n nb _ => k b o (O.keep b o e n nb), fun b o e n hb _ => sl b o e n hb, O.un.free, fun b o e nx => ?_, O.un.tups, O.un.frzs, O.un.tbls⟩
  by_cases hb : b ∈ frs X.stack
  · obtain ⟨z, hz⟩ := sl b o e (I.stkFree b hb) hb; exact ⟨_, hz⟩
  · obtain ⟨o', ho'⟩ := O.th b o e hb; exact ⟨o', k b o' ho'⟩
/-- behind it: the frame stands again -/
theorem Inv.landed (I : Inv X pins σ H s) (O : OutE X.prog X.w X.stack H s ea C B H' s') (k : B.StaysIn h') (u : s'.heap.UpToSlots h') : Inv X pins σ H' { s' with heap := h' } :=
  I.call' (s' := { s' with heap := h' }) (ch := []) O.os (un_upto I O k u) (O.hok.kept k) O.bare (fun b z => absurd z (by simp))
theorem OutE.free (O : OutE X.prog X.w X.stack H s ea C B H' s') : H' ea = none := by
  obtain ⟨t, fly⟩ := O.fly
  cases q : H' ea with
  | none => rfl
  | some o =>
    obtain ⟨ob, e⟩ := ObjOk.got (O.hok ea o q)
    rw [fly.2.1] at e; cases e
end
end Dl

namespace Dl
open PySem PySem.Spec PyProof.Rows L2
/-- the same context, other pins and another wish -/
abbrev pinX (Y : Cx) (pn : List (Addr × Obj)) (xe : Value → Shared → Prop) : Cx := { Y with pn := pn, xe := xe }
section
variable {Y : Cx} {pins pins1 pn : List (Addr × Obj)} {xe xe' : Value → Shared → Prop} {σ : L2.St} {H : Hp} {s : Shared}
theorem ok_pinX (ok : Y.Ok) : (pinX Y pn xe).Ok := ⟨ok.mod, ok.kind, ok.glob, ok.blt, ok.above, ok.inj, ok.has, ok.cab, ok.hd, ok.frames, ok.stk, ok.exf, ok.bs, ok.bsz, ok.noex, ok.exfs, ok.funs, ok.frf⟩
theorem ok_unpinX (ok : (pinX Y pn xe).Ok) : Y.Ok := ⟨ok.mod, ok.kind, ok.glob, ok.blt, ok.above, ok.inj, ok.has, ok.cab, ok.hd, ok.frames, ok.stk, ok.exf, ok.bs, ok.bsz, ok.noex, ok.exfs, ok.funs, ok.frf⟩
theorem Inv.toPin (I : Inv Y pins σ H s) (xe : Value → Shared → Prop) : Inv (pinX Y (Y.pn ++ pins) xe) [] σ H s :=
  ⟨ok_pinX I.ok, I.os, I.bare, I.base, I.loc, I.cell, I.free, I.freeC, fun p hp => I.pin p (by simpa using hp), I.hok, I.len⟩
theorem Inv.ofPin (I : Inv (pinX Y (Y.pn ++ pins) xe) pins1 σ H s) : Inv Y pins σ H s :=
  ⟨ok_unpinX I.ok, I.os, I.bare, I.base, I.loc, I.cell, I.free, I.freeC, fun p hp => I.pin p (List.mem_append_left _ hp), I.hok, I.len⟩
end
/-- what an except suite does that returns d: s the state behind the name's store -/
def SuiteOk (Y : Cx) (i : Nat) (C : Addr) (suite : List Stmt) (d : D) : Prop :=
  ∀ (ea : Addr) (oe : Obj) (pins : List (Addr × Obj)) (σ : L2.St) (H G : Hp) (s : Shared), oe.cls = .ref C → Same G H → Inv (markX Y ea) ((ea, oe) :: pins) σ H s → σ[i]? = some (some (.ref ea)) →
    wpAny (model Y.prog Y.w) (Y.A.mark (some (.ref ea))) (execs suite Y.env) (fun f s4 => ∃ u v σ' H' G', f = .ret u ∧ RelV v u ∧ Inv (markX Y ea) pins σ' H' s4 ∧ Ext G H G' H' ∧ Den Y.K G' v d) (fun _ _ => False) s
def dTry (tb : TSd) (r : (Ev → Prop) → Ev → Prop) (d : D) : TSd := fun E δ => tb E δ ∨ ∃ P : Ev → Prop, r P δ ∧ ∀ δ', P δ' → E.rt d δ'
/-- what is wanted of an exception that the body of a try lets out -/
def hndl (Y : Cx) (hs : List ExceptHandler) (Q : Flow → Shared → Prop) : Value → Shared → Prop := fun e s1 =>
  wpAny (model Y.prog Y.w) Y.A (noteFrame e Y.env) (fun _ s2 => wpAny (model Y.prog Y.w) Y.A (setFlight e none) (fun _ s3 => wpAny (model Y.prog Y.w) Y.A (handleBy e Y.env hs) Q (fun _ _ => False) s3) (fun _ _ => False) s2) (fun _ _ => False) s1
/-- the classes, as the text has them -/
structure Base2 (Y : Cx) (C R : Addr) (rn : Str) : Prop where
  rb : ∃ bmR newR, OwnCls rn R bmR newR Y.mg Y.base ∧ bmR.contains (.type "BaseException") = true
  cb : ∃ newC bm N nm q bs hdct sn sub ab col dd k0 k1 k2 k3 k5, Y.base.get? C = some (excClassObj nm q C N bs bm hdct sn sub ab col dd k0 k1 k2 k3 k5 newC) ∧ bm.contains (.ref R) = true
section
variable {Y : Cx} {C R : Addr} {rn nme : Str} {i : Nat} {np hp pos : Pos} {body suite : List Stmt} {b0 : Stmt} {tb : TSd} {r : (Ev → Prop) → Ev → Prop} {d : D}
theorem caught {pins : List (Addr × Obj)} {σ : L2.St} {H H' : Hp} {s s' : Shared} {ea : Addr} {B : Heap} {F : Ends} (hst : Y.stack = Y.env :: Y.outer) (hfr : Y.env.frame = some Y.env.locals) (BB : Base2 Y C R rn) (hS : SuiteOk Y i C (b0 :: suite) d)
    (hN : Y.N.Nodup) (hi : Y.N[i]? = some nme) (hl : Y.env.scope.names.lookup nme = some .local) (hk : Y.env.kindOf nme = some .local) (hg : Gl Y rn) (hdb : (rn == ("__debug__" : Str)) = false) (J1 : Inv Y pins σ H s) (O : OutE Y.prog Y.w Y.stack H s ea C B H' s')
    {G : Hp} (hG : Same G H') (hF : ∀ v G' H'', Ext G H' G' H'' → Den Y.K G' v d → F.rt v H'') : hndl Y [.ExceptHandler (some (.Name rn np)) (some nme) (b0 :: suite) hp] (SP Y.nox pins F) (.ref ea) s' := by
  obtain ⟨bmR, newR, OR, hbR⟩ := BB.rb
  obtain ⟨newC, bm, N, nm, q, bs, hdct, sn, sub, ab, col, dd, k0, k1, k2, k3, k5, hC, hin⟩ := BB.cb
  obtain ⟨t, fly⟩ := O.fly
  rw [hst] at fly
  refine wpAny_looks_onW (by rw [J1.ok.frames, hst]) hfr fly fun h4 held4 sm4 => ?_
  refine wpAny_landsW held4 fun h5 fly5 sm5 => ?_
  have J5 : Inv Y pins σ H' { s' with heap := h5 } := Inv.landed (X := Y) J1 O fly5.1 (sm4.trans sm5)
  refine handleBy_base_as (C := C) (y := rn) (newId := newC) (mg := Y.mg) hbR (ld_glob (Inv.marked J5 ea) hg OR.bound ⟨rfl, OR.keeps J5.bk, ⟨bm, N, nm, q, bs, hdct, sn, sub, ab, col, dd, k0, k1, k2, k3, k5, J5.bk _ _ hC, hin⟩, fly5.there, ?_⟩ hdb)
  refine lands_againW fly5 fun h7 fly7 sm7 => ?_
  have J7 : Inv Y pins σ H' { s' with heap := h7 } := Inv.landed (X := Y) J1 O fly7.1 ((sm4.trans sm5).trans sm7)
  obtain ⟨oe, vs, T, oT, ts, he, ⟨hcls, _⟩, hdat, _⟩ := fly7.2.2.2
  have nf' : ea ∉ frs (Y.env :: Y.outer) := fun hb => by
    obtain ⟨_, o, ho, nfl⟩ := fly7.2.2.1.mem hb
    rw [he] at ho; cases ho
    exact nfl vs hdat
  have nl : ea ≠ Y.env.locals := fun z => nf' (List.mem_filterMap.mpr ⟨Y.env, List.mem_cons_self, by rw [hfr, z]⟩)
  have M7 : Inv (markX Y ea) ((ea, oe) :: pins) σ H' { s' with heap := h7 } := (Inv.marked J7 ea).pins_of fun p hp => by
    rcases (List.mem_cons.mp hp) with rfl | hp
    · exact ⟨he, OutE.free (X := Y) O, nl, fun z => nf' (frs_tail z), fun v z => by rw [hdat] at z; cases z⟩
    · exact J7.pin p (List.mem_append_right _ hp)
  refine store_ok (X := markX Y ea) (v := .ref ea) M7 hN hi (Or.inl hl) rfl (fun s8 I8 => ?_) (.inr hl)
  have hiσ : i < σ.length := by rw [J1.len]; exact (List.getElem?_eq_some_iff.mp hi).1
  refine wpAny_mono (hS ea oe pins _ H' G s8 hcls hG I8 (List.getElem?_set_self hiσ)) (fun f s9 ⟨u, v, σ9, H9, G9, ef, rv, I9, e9, d9⟩ => ?_) fun _ _ z => z
  subst ef
  have K9 : Inv Y pins _ H9 s9 := Inv.unmarked J1.ok I9
  obtain ⟨m9, hn9, _⟩ := K9.loc
  refine wpAny_nameGoes hk hn9 (by rw [J1.ok.kind]; rfl) fun h10 m10 hn10 hs10 => ?_
  exact ⟨v, _, H9, (Inv.anyNames K9 hn10 hs10).wish _, rv, hF v G9 H9 e9 d9⟩
theorem ds_try (hst : Y.stack = Y.env :: Y.outer) (hfr : Y.env.frame = some Y.env.locals) (BB : Base2 Y C R rn)
    (hb : DSs Y.nox body tb) (hr : ∀ (n : En) (pn : List (Addr × Obj)) (xe : Value → Shared → Prop) (P : Ev → Prop), Wish (pinX Y pn xe) n C P → RSs (pinX Y pn xe) n body (r P)) (hS : SuiteOk Y i C (b0 :: suite) d)
    (hN : Y.N.Nodup) (hi : Y.N[i]? = some nme) (hl : Y.env.scope.names.lookup nme = some .local) (hk : Y.env.kindOf nme = some .local) (hg : Gl Y rn) (hdb : (rn == ("__debug__" : Str)) = false := by decide) :
    DS Y.nox (.Try body [.ExceptHandler (some (.Name rn np)) (some nme) (b0 :: suite) hp] [] [] pos) (dTry tb r d) := by
  intro pins s σ H F I ⟨n, δ, G, E, R0, h, k⟩
  refine wpAny_Try_except ?_
  rcases h with h | ⟨P, h, hd⟩
  · refine wpAny_mono (hb pins s σ H F I ⟨n, δ, G, E, R0, h, k⟩) (fun f s1 hs => ?_) fun e s1 z => z.elim
    cases f with
    | next => obtain ⟨σ1, H1, I1, q⟩ := hs; exact pss_nil pins s1 σ1 H1 F I1 q
    | ret u => exact hs
    | brk => exact hs
    | cont => exact hs
  · have IY : Inv Y pins σ H s := I.unwish
    have W : Wish (pinX Y (Y.pn ++ pins) (hndl Y [.ExceptHandler (some (.Name rn np)) (some nme) (b0 :: suite) hp] (SP Y.nox pins F))) n C P := ⟨fun pins1 σ1 H1 s1 ea B H' s' I1 O ⟨δ', σ', G', R', hP⟩ => by
      refine caught hst hfr BB hS hN hi hl hk hg hdb (Inv.ofPin I1) O R'.sub fun v G2 H2 e dv => ?_
      exact k.rt v d δ' σ' G2 H2 (Rel.ext R' e) dv (hd δ' hP)⟩
    refine wpAny_mono (hr n (Y.pn ++ pins) _ P W [] s σ H ⟨fun _ _ => False, fun _ _ => False, fun _ _ => False, fun _ _ => False⟩ (Inv.toPin IY _) ⟨δ, G, R0, h⟩) (fun f s1 hs => ?_) fun e s1 z => z
    cases f with
    | next => obtain ⟨_, _, _, q⟩ := hs; exact q.elim
    | ret u => obtain ⟨_, _, _, _, _, q⟩ := hs; exact q.elim
    | brk => obtain ⟨_, _, _, q⟩ := hs; exact q.elim
    | cont => obtain ⟨_, _, _, q⟩ := hs; exact q.elim
end
end Dl

namespace Dl
open PySem PySem.Spec PyProof.Rows L2
/-! ## how often True is in a list of bools, and where first -/
theorem bools_of {us : List Value} : ∀ {bs : List Bool}, Vals (bs.map V.bl) us → us = bs.map Value.bool := by
  induction us with
  | nil => intro bs h; cases bs with
    | nil => rfl
    | cons b r => cases h
  | cons u us ih => intro bs h; cases bs with
    | nil => cases h
    | cons b r => cases h with
      | cons h1 h2 => cases (show u = Value.bool b from h1); rw [ih h2]; rfl
theorem den_bools {K : PySem.W.Frag} {G : Hp} : ∀ {bs : List Bool} {vs : List V}, DenL K G vs (bs.map D.bl) → vs = bs.map V.bl
  | [], _, h => by cases h; rfl
  | b :: r, _, h => by cases h with | cons h1 h2 => rw [h1.bl_inv, den_bools h2]; rfl
def isT : Value → Bool
  | .bool true => true
  | _ => false
def dCnt (ta : TEd) : TEd := fun δ Q => ta δ fun d δ1 => ∃ l, lstF d = some l ∧ ∃ bs, boolsF l = some bs ∧ Q (.int ((bs.count true : Nat) : Int)) δ1
def dFst (ta : TEd) : TEd := fun δ Q => ta δ fun d δ1 => ∃ l, lstF d = some l ∧ ∃ bs, boolsF l = some bs ∧ bs.length ≤ 1000 ∧ true ∈ bs ∧ Q (.int ((bs.idxOf true : Nat) : Int)) δ1
section
variable {X : Cx} {o : Expr} {ta : TEd}
def rCnt (K : PySem.W.Frag) : V → List V → Hp → VK → Prop := fun x vs H Q => ∃ (l : Addr) (bs : List Bool), x = .ref l ∧ vs = [.bl true] ∧ SqL K H l (bs.map V.bl) ∧ Q (.int ((bs.count true : Nat) : Int)) H
def rFst (K : PySem.W.Frag) : V → List V → Hp → VK → Prop := fun x vs H Q => ∃ (l : Addr) (bs : List Bool), x = .ref l ∧ vs = [.bl true] ∧ SqL K H l (bs.map V.bl) ∧ bs.length ≤ 1000 ∧ true ∈ bs ∧ Q (.int ((bs.idxOf true : Nat) : Int)) H
theorem idx_le : ∀ {bs : List Bool} {j : Nat} (h : j < bs.length), bs.idxOf bs[j] ≤ j
  | b :: r, 0, _ => by simp
  | b :: r, j + 1, h => by
    rw [List.getElem_cons_succ, List.idxOf_cons]
    have := idx_le (bs := r) (j := j) (by simpa using h)
    cases q : (b == r[j]'(by simpa using h)) with
    | true => simp
    | false => simp; omega
theorem cnt_isT : ∀ bs : List Bool, (bs.map Value.bool).countP isT = bs.count true
  | [] => rfl
  | b :: r => by
    have ih := cnt_isT r
    cases b
    · simp only [List.map_cons, List.countP_cons, isT, List.count_cons, ih]; rfl
    · simp only [List.map_cons, List.countP_cons, isT, List.count_cons, ih]; rfl
theorem eq_isT {A : Around} {s : Shared} {bs : List Bool} {y : Value} (h : y ∈ bs.map Value.bool) : SeqAt.EqAt A s y (.bool true) (isT y) := by
  obtain ⟨b, _, rfl⟩ := List.mem_map.mp h
  cases b
  · exact SeqAt.EqAt.bool_bool false true
  · exact SeqAt.EqAt.bool_bool true true
theorem mt_cnt : MtM X "list.count" (rCnt X.K) := by
  intro pins s σ H x vs v us Q I rx rv h
  obtain ⟨l, bs, rfl, rfl, hq, q⟩ := h
  cases rx
  obtain ⟨u, rfl, ru⟩ := rv.one
  cases (show u = Value.bool true from ru)
  obtain ⟨its, rv', pl, _⟩ := I.list hq
  have ei := bools_of rv'
  subst ei
  obtain ⟨⟨c0, d0, b0, s0⟩, at0, c1, n0, d1⟩ := id pl.isList
  simp only at c1 d1
  subst c1 d1
  have run := PySem.SeqAt.list_countAt l (bs.map Value.bool).toArray n0 d0 s0 (.bool true) isT
  refine call_meets PySem.F.slot_list_count ⟨_, at0, rfl⟩ PySem.F.entry_list_count (PySem.F.args_list_count_2 _ _) run ⟨at0, fun y hy => eq_isT (by simpa using hy), ?_⟩
  rw [show (bs.map Value.bool).toArray.toList.countP isT = bs.count true from cnt_isT bs]
  exact ⟨.int _, H, I.tok _, ⟨_, rfl⟩, q⟩
theorem mt_fst : MtM X "list.index" (rFst X.K) := by
  intro pins s σ H x vs v us Q I rx rv h
  obtain ⟨l, bs, rfl, rfl, hq, hz, hm, q⟩ := h
  cases rx
  obtain ⟨u, rfl, ru⟩ := rv.one
  cases (show u = Value.bool true from ru)
  obtain ⟨its, rv', pl, _⟩ := I.list hq
  have ei := bools_of rv'
  subst ei
  obtain ⟨⟨c0, d0, b0, s0⟩, at0, c1, n0, d1⟩ := id pl.isList
  simp only at c1 d1
  subst c1 d1
  have place := List.idxOf_lt_length_iff.mpr hm
  have found : isT ((bs.map Value.bool).toArray[bs.idxOf true]'(by simpa using place)) = true := by
    have e : bs[bs.idxOf true] = true := List.getElem_idxOf place
    simp [e, isT]
  have ahead : ∀ j (hj : j < (bs.map Value.bool).toArray.size), j < bs.idxOf true → isT (bs.map Value.bool).toArray[j] = false := fun j hj before => by
    have lt : j < bs.length := by simpa using hj
    have e : bs[j] ≠ true := fun z => by
      have : bs.idxOf true ≤ j := by
        rw [← z]
        exact idx_le lt
      omega
    have e2 : bs[j] = false := by simpa using e
    simp [e2, isT]
  have run := PySem.SeqAt.list_indexAt l (bs.map Value.bool).toArray n0 d0 s0 (.bool true) isT (bs.idxOf true) (by simpa using place) (by omega) found ahead
  refine call_meets PySem.F.slot_list_index ⟨_, at0, rfl⟩ PySem.F.entry_list_index (PySem.F.args_list_index_2 _ _) run ⟨at0, fun y hy => eq_isT (by simpa using hy), ?_⟩
  exact ⟨.int _, H, I.tok _, ⟨_, rfl⟩, q⟩
theorem de_cnt {ap cp p : Pos} {j : Nat} (ha : DE X o ta)
    (hbase : attributeBase o "count" X.env (eval o X.env) = eval o X.env := by rfl)
    (hfew : ((backTo cp (starEach [.Constant (.bool true) j p] X.env)).all (fun x => !x.1) && (backToKw cp (keywordEach [] X.env)).all (fun x => x.1.isSome)
      && decide ([Expr.Constant (.bool true) j p].length + ([] : List Keyword).length + (if ([] : List Keyword).isEmpty then 0 else 1) < 30)) = true := by rfl)
    (hline : (ap.endLine == cp.line) = true := by rfl) (hst : starEach [.Constant (.bool true) j p] X.env = (false, eval (.Constant (.bool true) j p) X.env) :: starEach [] X.env := by rfl) (hplain : (backTo cp (starEach [] X.env)).any (·.1) = false := by rfl) :
    DE X (.Call (.Attribute o "count" ap) [.Constant (.bool true) j p] [] cp) (dCnt ta) :=
  pe_imp (pe_bm PySem.F.plainAttrs_list PySem.F.slot_list_count PySem.F.type_list_count mt_cnt ha (pa_cons pe_bl pa_nil hst) hbase hfew hline hst hplain) fun σ H Q2 ⟨n, δ, G, Q, R, h, kk⟩ =>
    ⟨n, δ, G, _, R, h, fun v G1 H1 d δ1 R1 s1 d1 h1 => by
      obtain ⟨l, e0, bs, eb, h1⟩ := h1
      unfold lstF at e0
      split at e0
      · cases e0
        obtain ⟨a, vs, rfl, hs, la⟩ := d1.lst_inv
        rw [boolsF_some eb] at la
        have ev := den_bools la
        subst ev
        exact ⟨.inl ⟨rfl, _, R1.sub.seq hs⟩, a, bs, rfl, rfl, R1.sub.seq hs, kk _ G1 H1 _ δ1 R1 s1 (.int _) h1⟩
      · cases e0⟩
theorem de_fst {ap cp p : Pos} {j : Nat} (ha : DE X o ta)
    (hbase : attributeBase o "index" X.env (eval o X.env) = eval o X.env := by rfl)
    (hfew : ((backTo cp (starEach [.Constant (.bool true) j p] X.env)).all (fun x => !x.1) && (backToKw cp (keywordEach [] X.env)).all (fun x => x.1.isSome)
      && decide ([Expr.Constant (.bool true) j p].length + ([] : List Keyword).length + (if ([] : List Keyword).isEmpty then 0 else 1) < 30)) = true := by rfl)
    (hline : (ap.endLine == cp.line) = true := by rfl) (hst : starEach [.Constant (.bool true) j p] X.env = (false, eval (.Constant (.bool true) j p) X.env) :: starEach [] X.env := by rfl) (hplain : (backTo cp (starEach [] X.env)).any (·.1) = false := by rfl) :
    DE X (.Call (.Attribute o "index" ap) [.Constant (.bool true) j p] [] cp) (dFst ta) :=
  pe_imp (pe_bm PySem.F.plainAttrs_list PySem.F.slot_list_index PySem.F.type_list_index mt_fst ha (pa_cons pe_bl pa_nil hst) hbase hfew hline hst hplain) fun σ H Q2 ⟨n, δ, G, Q, R, h, kk⟩ =>
    ⟨n, δ, G, _, R, h, fun v G1 H1 d δ1 R1 s1 d1 h1 => by
      obtain ⟨l, e0, bs, eb, hz, hm, h1⟩ := h1
      unfold lstF at e0
      split at e0
      · cases e0
        obtain ⟨a, vs, rfl, hs, la⟩ := d1.lst_inv
        rw [boolsF_some eb] at la
        have ev := den_bools la
        subst ev
        exact ⟨.inl ⟨rfl, _, R1.sub.seq hs⟩, a, bs, rfl, rfl, R1.sub.seq hs, hz, hm, kk _ G1 H1 _ δ1 R1 s1 (.int _) h1⟩
      · cases e0⟩
end
end Dl

namespace Dl
open PySem PySem.Spec PySem.Calls PyProof.Rows L2
/-! ## isinstance of an exception of an own class -/
section
variable {A : Around} {E : Value → Shared → Prop} {prog : Program} {w : World} {h : Heap} {g : Array GenState} {d : Drawn} {t : Nat} {os : OsState} {o : Obj} {a : Addr}
  {nm q : Str} {C N : Addr} {bs bm : List Value} {hdct : Bool} {sn : List Str} {sub : List Value} {ab : Bool} {col : Option Bool} {dd : Option Addr} {k0 k1 k2 k3 k5 : Option Value} {newId : String}
theorem owner_class : ".".intercalate ("object.__class__".cutAt '.').dropLast = "object" := by decide +kernel
theorem cls_get {R : Result → Shared → Prop} (hC : h.get? C = some (excClassObj nm q C N bs bm hdct sn sub ab col dd k0 k1 k2 k3 k5 newId)) (hb : bm.contains (.type "object") = true)
    (px : h.get? a = some o) (pc : o.cls = .ref C) (hq : R (.ok (.ret (.ref C))) ⟨h, g, d, t, os⟩) :
    codeAny (model prog w) A (.call (.builtin "getset_descriptor.__get__") ⟨[.builtin "object.__class__", .ref a, .ref C], []⟩) R ⟨h, g, d, t, os⟩ := by
  have tdesc : (⟨h, g, d, t, os⟩ : Shared).TypeIs (.builtin "object.__class__") "getset_descriptor" := F.typeOf_object_class
  have hcB : (Value.ref C :: bm).contains (.type (".".intercalate ("object.__class__".cutAt '.').dropLast)) = true := by
    rw [owner_class, List.contains_cons, hb]; exact Bool.or_true _
  refine codeAny_call_builtin F.slot_gs_get.plain F.entry_gs_get (F.slot_gs_get.check _ _ _ _ _ _ _ _ tdesc (F.args_gs_get _ _ _) ?_)
  repeat (any_goals (first | assumption | done | (with_reducible refine wpAny_loadPart_at px ?_; rw [pc]) | (with_reducible refine wpAny_isSubtype_exc hC ?_; rw [hcB]) | wp_step))
  refine ⟨Code.quiet_builtin (_) (by decide +kernel), codeAny_builtin F.entry_object_class ?_⟩
  repeat (any_goals (first | assumption | done | (with_reducible refine wpAny_loadPart_at px ?_; rw [pc]) | wp_step))
theorem cls_entry {tk : Tok} {Q : Fin → Shared → Prop} (LC : PySem.W.Looks (model prog w) h (typeLookup (.ref C) "__class__") (some (.builtin "object.__class__"))) (hC : h.get? C = some (excClassObj nm q C N bs bm hdct sn sub ab col dd k0 k1 k2 k3 k5 newId)) (hb : bm.contains (.type "object") = true)
    (px : h.get? a = some o) (pc : o.cls = .ref C) (hq : Q (.done (.ret (.ref C))) ⟨h, g, d, t, os⟩) :
    wpAny (model prog w) A (Builtin.«object.__getattribute__» ⟨[.ref a, .str ("__class__") tk], []⟩) Q E ⟨h, g, d, t, os⟩ := by
  have tdesc : (⟨h, g, d, t, os⟩ : Shared).TypeIs (.builtin "object.__class__") "getset_descriptor" := F.typeOf_object_class
  have gs5 := F.typeOf_object_class
  have gs6 := F.slot_gs_get.lookup
  have gs7 := F.slot_gs_set.lookup
  repeat (any_goals (first | assumption | done | (with_reducible refine wpAny_loadPart_at px ?_; rw [pc]) | with_reducible refine LC.at ?_ | wp_step))
  refine cls_get hC hb px pc ?_
  repeat (any_goals (first | assumption | done | wp_step))
theorem cls_check {M : Model} {nameV : Value} {Q : Unit → Shared → Prop} (hC : h.get? C = some (excClassObj nm q C N bs bm hdct sn sub ab col dd k0 k1 k2 k3 k5 newId)) (hb : bm.contains (.type "BaseException") = true)
    (px : h.get? a = some o) (pc : o.cls = .ref C) (hq : Q () ⟨h, g, d, t, os⟩) : wpAny M A (checkBuiltinCall "BaseException.__getattribute__" ⟨[.ref a, nameV], []⟩) Q E ⟨h, g, d, t, os⟩ := by
  have kind : builtinKind "BaseException.__getattribute__" = some .slot := by decide +kernel
  have cut : splitId "BaseException.__getattribute__" = some ("BaseException", "__getattribute__") := by decide +kernel
  have hcB : (Value.ref C :: bm).contains (.type "BaseException") = true := by rw [List.contains_cons, hb]; exact Bool.or_true _
  have args := F.args_bexc_ga (.ref a) nameV
  simp only [checkBuiltinCall, kind, cut]
  refine wpAny_bind ?_
  · unfold isInstance
    repeat (first | done | (with_reducible refine wpAny_loadPart_at px ?_; rw [pc]) | (with_reducible refine wpAny_isSubtype_exc hC ?_; rw [hcB]) | wp_step)
    exact hq
theorem cls_by {tk : Tok} {Q : Value → Shared → Prop} (FB : ExcAttrFacts "ValueError") (LG : PySem.W.Looks (model prog w) h (typeLookup (.ref C) "__getattribute__") (some (.builtin "BaseException.__getattribute__"))) (LN : PySem.W.Looks (model prog w) h (typeLookup (.ref C) "__getattr__") none)
    (LC : PySem.W.Looks (model prog w) h (typeLookup (.ref C) "__class__") (some (.builtin "object.__class__"))) (hC : h.get? C = some (excClassObj nm q C N bs bm hdct sn sub ab col dd k0 k1 k2 k3 k5 newId)) (hb : bm.contains (.type "object") = true) (hb2 : bm.contains (.type "BaseException") = true)
    (px : h.get? a = some o) (pc : o.cls = .ref C) (hq : Q (.ref C) ⟨h, g, d, t, os⟩) : wpAny (model prog w) A (getAttrBy (.ref a) (.str "__class__" tk) false) Q E ⟨h, g, d, t, os⟩ := by
  have bnd := FB.ga.bind (.ref a)
  have ne : (Value.builtin "BaseException.__getattribute__" == Value.builtin "object.__getattribute__") = false := by decide +kernel
  have ne1 : (onTheHeap (Value.ref C) && Value.builtin "BaseException.__getattribute__" == Value.builtin "object.__getattribute__") = false := by rw [ne]; rfl
  repeat (any_goals (first | assumption | done | (with_reducible refine wpAny_loadPart_at px ?_; rw [pc]) | with_reducible refine LG.at ?_ | with_reducible refine LN.at ?_ | wp_step))
  refine codeAny_call_builtin FB.ga.plain F.entry_bexc_ga (cls_check hC hb2 px pc (cls_entry LC hC hb px pc ?_))
  repeat (any_goals (first | assumption | done | wp_step))
theorem cls_attr {Q : Option Value → Shared → Prop} (FB : ExcAttrFacts "ValueError") (LG : PySem.W.Looks (model prog w) h (typeLookup (.ref C) "__getattribute__") (some (.builtin "BaseException.__getattribute__"))) (LN : PySem.W.Looks (model prog w) h (typeLookup (.ref C) "__getattr__") none)
    (LC : PySem.W.Looks (model prog w) h (typeLookup (.ref C) "__class__") (some (.builtin "object.__class__"))) (hC : h.get? C = some (excClassObj nm q C N bs bm hdct sn sub ab col dd k0 k1 k2 k3 k5 newId)) (hb : bm.contains (.type "object") = true) (hb2 : bm.contains (.type "BaseException") = true)
    (px : h.get? a = some o) (pc : o.cls = .ref C) (hq : Q (some (.ref C)) ⟨h, g, d, t + 1, os⟩) : wpAny (model prog w) A (getAttr? (.ref a) "__class__") Q E ⟨h, g, d, t, os⟩ := by
  unfold getAttr? getAttrBy?
  repeat (any_goals (first | assumption | done | with_reducible apply cls_by FB LG LN LC hC hb hb2 px pc | wp_step))
end
end Dl

namespace Dl
open PySem PySem.Spec PySem.Calls PyProof.Rows L2
/-! ## isinstance of an exception, by K -/
theorem own_obj {K : PySem.W.Frag} {h : Heap} {C : Addr} {bmB : List Value} {newId : String} (X : K.In h) (q : PySem.W.excIn K C bmB newId = true) :
    ∃ bm N nm qq bs hdct sn sub ab col dd k0 k1 k2 k3 k5, h.get? C = some (excClassObj nm qq C N bs bm hdct sn sub ab col dd k0 k1 k2 k3 k5 newId) ∧ OwnTail h bmB bm := by
  unfold PySem.W.excIn at q
  split at q
  case h_2 => cases q
  rename_i dct cdt slo hlk
  split at q
  case h_2 => cases q
  rename_i Cc tl a0 a1 a2 a3 nid a5 hmro hsl
  simp only [Bool.and_eq_true, Bool.not_eq_true', beq_iff_eq] at q
  obtain ⟨⟨⟨⟨⟨q1, q2⟩, q3⟩, q4⟩, q5⟩, q6⟩ := q
  subst q1 q2
  obtain ⟨c1, c2, c3, c4, c5, c6, c7, c8, c9, c10, c11⟩ := cdt
  simp only at hmro q3 q5 q6
  subst hmro q3
  have es : slo = #[a0, a1, a2, a3, some (.builtin nid), a5] := by
    rcases slo with ⟨l⟩
    exact congrArg Array.mk hsl
  subst es
  exact ⟨tl, c4, c1, c5, c2, c6, c7, c8, c9, c10, dct, a0, a1, a2, a3, a5, X _ _ hlk, PySem.W.tail_of_in X q4⟩
/-- what of the text an exception's class must have -/
structure ExcC (K : PySem.W.Frag) (C : Addr) : Prop where
  ex : ∃ bmB newId, PySem.W.excIn K C bmB newId = true ∧ bmB.contains (.type "object") = true ∧ bmB.contains (.type "BaseException") = true
  ga : PySem.W.findIn K (.ref C) "__getattribute__" = some (some (.builtin "BaseException.__getattribute__"))
  gn : PySem.W.findIn K (.ref C) "__getattr__" = some none
  cl : PySem.W.findIn K (.ref C) "__class__" = some (some (.builtin "object.__class__"))
theorem kitx_exc {K : PySem.W.Frag} {ea C : Addr} {oe : Obj} (hcls : oe.cls = .ref C) (X : ExcC K C) : PySem.W.KitX K (.ref ea) (.ref C) (fun h => h.get? ea = some oe) where
  ty := fun M h _ p => by
    intro A Q E s k q
    show wpAny M A (do let z ← loadPart ea (some headPart); pure z.cls) Q E s
    exact wpAny_bind (wpAny_loadPart (k _ _ p) (wpAny_pure (by rw [hcls]; exact q)))
  it := fun M h KX _ => by
    obtain ⟨bmB, newId, hq, _⟩ := X.ex
    obtain ⟨bm, N, nm, qq, bs, hdct, sn, sub, ab, col, dd, k0, k1, k2, k3, k5, hC, _⟩ := own_obj KX hq
    intro A Q E s k q
    unfold isType loadHead
    exact wpAny_bind (wpAny_loadPart (k _ _ hC) (wpAny_pure q))
  ne := fun h tp dd its n sl KX htp => by
    obtain ⟨bmB, newId, hq, _⟩ := X.ex
    obtain ⟨bm, N, nm, qq, bs, hdct, sn, sub, ab, col, dd, k0, k1, k2, k3, k5, hC, _⟩ := own_obj KX hq
    refine Bool.eq_false_iff.mpr fun z => ?_
    have e : C = tp := Value.ref.inj (beq_iff_eq.mp z)
    subst e
    have z : Value.type "type" = Value.type "tuple" := congrArg Obj.cls (Option.some.inj (hC.symm.trans htp))
    exact absurd (Value.type.inj z) (by decide)
  ca := fun {prog w A E Q s} KX p k => by
    obtain ⟨bmB, newId, hq, hb1, hb2⟩ := X.ex
    obtain ⟨bm, N, nm, qq, bs, hdct, sn, sub, ab, col, dd, k0, k1, k2, k3, k5, hC, T⟩ := own_obj KX hq
    obtain ⟨h, g, d, t, os⟩ := s
    exact cls_attr PySem.F.attr_ValueError (PySem.W.looks_findIn KX X.ga) (PySem.W.looks_findIn KX X.gn) (PySem.W.looks_findIn KX X.cl) hC (T.hasType hb1) (T.hasType hb2) p hcls k
section
variable {X : Cx} {ea C : Addr} {oe : Obj} {c : Value} {cv : V} {b : Bool}
theorem call_isE (hp : (ea, oe) ∈ X.pn) (hcls : oe.cls = .ref C) (E : ExcC X.K C) (hr : RelV cv c) (hc : ∀ u, RelV cv u → u = c) (e : PySem.W.kitOne X.K (.ref C) c = some b) : CallR X (.builtin "isinstance") (fun xs H Q => xs = [.ref ea, cv] ∧ Q (.bl b) H) := by
  rintro pins s σ H xs us Q I r ⟨rfl, q⟩
  cases r with
  | cons r1 r2 => cases r2 with
    | cons r2 r3 =>
      cases r3
      rename_i u1 u2
      cases (show u1 = Value.ref ea from r1)
      cases hc _ r2
      exact PySem.W.kia_one (kitx_exc hcls E) I.kIn (I.pin _ (List.mem_append_left _ hp)).1 e (by intro z; cases z) fun tk => ⟨.bl b, H, I.tok _, rfl, q⟩
end
end Dl

namespace Dl
open PySem PySem.Spec PyProof.Rows L2
/-! ## a def called within an except suite, the exception handed in -/
abbrev cxH (P : Program) (w : World) (K : PySem.W.Frag) (mg : Str → Option Value) (base : Heap) (N : List Str) (qual : Str) (scope : Scope) (f : Addr) (cd : Value) (A : Around) (outer : List Env) (s : Shared) (H : Hp) (pn : List (Addr × Obj)) : Cx :=
  { (cxOf CX0 P w K mg base N qual scope f cd A outer s H (fun _ _ _ => False)) with calm := false, pn := pn, xe := fun _ _ => False }
theorem rel_pt {K : PySem.W.Frag} {G H : Hp} {ea : Addr} {k : Nat} {N : List Str} (hN : N.length = k + 1) (s : Same G H) : Rel K ⟨G, H, fun _ => False⟩ (.pt ea :: List.replicate k .no) (L2.start N [.ref ea]) G H := by
  refine ⟨s, Same.refl _, fun b o e _ => e, fun b e => e, fun b o e (e0 : G b = none) => (by rw [e0] at e; cases e), ⟨fun _ => none, ⟨fun _ _ z => by cases z⟩, fun i sl hs => ?_⟩, by simp [L2.start, hN]⟩
  cases i with
  | zero => simp only [List.getElem?_cons_zero, Option.some.injEq] at hs; subst hs; rfl
  | succ i =>
    simp only [List.getElem?_cons_succ, List.getElem?_replicate] at hs
    split at hs
    · cases hs; trivial
    · cases hs
theorem run_handled {Y : Cx} {ea f : Addr} {oe : Obj} {pins : List (Addr × Obj)} {σ : L2.St} {H G : Hp} {s : Shared} {x qual p : Str} {st : Stmt} {fd : FuncData} {N : List Str} {k kk : Nat} {d : D} (F : Fun Y.K x qual st f fd) (S : FnScope N [p] (defScope st)) (hN : N.length = kk + 1)
    (hr : Room (k + 1) Y.A) (hst : Y.stack = Y.env :: Y.outer) (hfr : Y.env.frame = some Y.env.locals) (hb : Binds Y.K fd [p] []) (I : Inv (markX Y ea) ((ea, oe) :: pins) σ H s) (hG : Same G H)
    (hbody : ∀ (cdv : Value), ∃ t, DSs (cxH Y.prog Y.w Y.K Y.mg Y.base N qual (defScope st) f cdv (Y.A.mark (some (.ref ea))) Y.stack s H [(ea, oe)]) (defBody st) t ∧ t { nx := fun _ => False, rt := fun d' _ => d' = d } (.pt ea :: List.replicate kk .no)) :
    wpAny (model Y.prog Y.w) (Y.A.mark (some (.ref ea))) (call (.ref f) [.ref ea]) (fun u s4 => ∃ v H' G', RelV v u ∧ Inv (markX Y ea) pins σ H' s4 ∧ Ext G H G' H' ∧ Den Y.K G' v d) (fun _ _ => False) s := by
  obtain ⟨oc, od, kV, doc, pm, an, cdv, ct, osl, rfl, lk, hcd⟩ := F.ex
  have e0 : Env0 Y.prog Y.w Y.K Y.mg Y.base Y.A Y.stack s H := by
    have z := I.env0
    exact ⟨z.frames, z.mod, z.bs, z.bsz, z.funs, z.frf, z.hok, z.bare⟩
  have KX : Y.K.In s.heap := I.kIn
  have lim : s.heap.NoLimit := I.nolimit
  have hkind : ∀ y ∈ [p].zip [Value.ref ea], (defScope st).names.lookup y.1 = some .local ∨ ((defScope st).names.lookup y.1 = some .cell ∧ ((cellsFrom (s.heap.objs.size + 1) (defScope st).names []).lookup y.1).isSome = true) := fun ⟨n, v⟩ hy => by
    rcases S.par n (List.of_mem_zip hy).1 with q | q
    · exact .inl q
    · exact .inr ⟨q, PySem.W.cellsFrom_some _ _ _ (.inl q)⟩
  obtain ⟨p1, p2, p3, p4, p5⟩ := I.pin (ea, oe) (List.mem_append_right _ List.mem_cons_self)
  obtain ⟨t, ht, hq⟩ := hbody cdv
  refine wpAny_call (codeAny_call_function hr.depth (KX _ _ lk) rfl S.co S.gen rfl (PySem.W.codeRec_of KX hcd) (hb s [.ref ea] KX rfl _ _ _ _ ?_))
  refine wpAny_newFunctionEnv_cells S.kind hkind fun env he s1 xx => ?_
  subst he
  refine ⟨lim.keeps xx.toInCall.keep, codeAny_func ?_⟩
  have I0 : Inv (cxOf CX0 Y.prog Y.w Y.K Y.mg Y.base N qual (defScope st) f cdv Y.A Y.stack s H (fun _ _ _ => False)) [] (L2.start N [.ref ea]) H s1 := inv_start S hr.hd e0 rfl (.cons rfl .nil) xx
  have Ic : Inv (cxH Y.prog Y.w Y.K Y.mg Y.base N qual (defScope st) f cdv (Y.A.mark (some (.ref ea))) Y.stack s H [(ea, oe)]) [] (L2.start N [.ref ea]) H s1 := by
    refine ⟨⟨I0.ok.mod, I0.ok.kind, I0.ok.glob, I0.ok.blt, I0.ok.above, I0.ok.inj, I0.ok.has, I0.ok.cab, fun z => (by cases z), ?_, I0.ok.stk, I0.ok.exf, I0.ok.bs, I0.ok.bsz, I0.ok.noex, I0.ok.exfs, I0.ok.funs, I0.ok.frf⟩, I0.os, I0.bare, I0.base, I0.loc, I0.cell, I0.free, I0.freeC, fun z hz => ?_, I0.hok, I0.len⟩
    · exact I0.ok.frames
    · have ez : z = (ea, oe) := by simpa using hz
      subst ez
      refine ⟨xx.toInCall.keep _ _ p1, p2, Nat.ne_of_lt (Heap.lt_size p1), fun hf => ?_, p5⟩
      have hf' : ea ∈ frs Y.stack := hf
      rw [hst] at hf'
      rcases frs_cons hf' with q | q
      · rw [hfr] at q; cases q; exact p3 rfl
      · exact p4 q
  refine wpAny_mono (ht [] s1 _ H ⟨fun _ _ => False, fun v H' => ∃ G', Ext G H G' H' ∧ Den Y.K G' v d, fun _ _ => False, fun _ _ => False⟩ Ic ⟨⟨G, H, fun _ => False⟩, _, G, _, rel_pt hN hG, hq, ⟨fun _ _ _ _ _ z => z, fun v d' δ σ' G' H' R' dv ed => ?_, fun _ _ _ _ _ z => z, fun _ _ _ _ _ z => z⟩⟩) (fun fl s' hs => ?_) fun e s' hs => False.elim hs
  · subst ed; exact ⟨G', R'.toExt, dv⟩
  · cases fl with
    | ret u =>
      obtain ⟨v, σ', H', J, rv, G', e', dv⟩ := hs
      have I1 : Inv (markX Y ea) pins σ H s := I.pins_of fun z hz => I.pin z (List.mem_append_right _ (List.mem_cons_of_mem _ hz))
      obtain ⟨v', H2, I2, rv2, q2⟩ := I1.after (Q := fun v' H2 => v' = v ∧ H2 = H') ⟨v, H', J.os, J.bare, J.base, J.hok, rv, rfl, rfl⟩
      obtain ⟨rfl, rfl⟩ := q2
      exact ⟨v', H2, G', rv2, I2, e', dv⟩
    | next => obtain ⟨_, _, _, q⟩ := hs; exact q.elim
    | brk => obtain ⟨_, _, _, q⟩ := hs; exact q.elim
    | cont => obtain ⟨_, _, _, q⟩ := hs; exact q.elim
end Dl

namespace Dl
open PySem PySem.Spec PyProof.Rows L2
/-! ## return f(e) in an except suite; isinstance(e, C) in f -/
def dIsE (j ea : Nat) (b : Bool) : TEd := fun δ Q => δ[j]? = some (.pt ea) ∧ Q (.bl b) δ
theorem de_isE {X : Cx} {ea C : Addr} {oe : Obj} {c : Value} {cv : V} {b : Bool} (j : Nat) {en : Str} {p p1 pos : Pos} {ce : Expr} (hp : (ea, oe) ∈ X.pn) (hcls : oe.cls = .ref C) (E : ExcC X.K C) (hr : RelV cv c) (hc : ∀ u, RelV cv u → u = c) (e : PySem.W.kitOne X.K (.ref C) c = some b) (hce : PE X ce (tC cv))
    (hm : X.mg "isinstance" = none) (hN : X.N[j]? = some en := by rfl) (hv : Vis X.env.scope en := by first | exact Or.inl rfl | exact Or.inr (Or.inl rfl) | exact Or.inr (Or.inr rfl)) (hd : (en == ("__debug__" : Str)) = false := by decide) (hcd : (en == ("__classdict__" : Str)) = false := by decide) (hg : Gl X "isinstance" := by rfl)
    (h1 : starEach [.Name en p1, ce] X.env = (false, eval (.Name en p1) X.env) :: starEach [ce] X.env := by rfl) (h2 : starEach [ce] X.env = (false, eval ce X.env) :: starEach [] X.env := by rfl) (hpl : (backTo pos (starEach [ce] X.env)).any (·.1) = false := by rfl) :
    DE X (.Call (.Name "isinstance" p) [.Name en p1, ce] [] pos) (dIsE j ea b) :=
  pe_imp (pe_callB (call_isE hp hcls E hr hc e) hg hm (by rfl) (pa_cons (pe_var hN hv hd hcd) (pa_cons hce pa_nil h2) h1) (by decide) (by decide) h1 hpl) fun σ H Q2 ⟨n, δ, G, Q, R, ⟨h, q⟩, k⟩ => by
    have z : σ[j]? = some (some (.ref ea)) := R.sl j _ h
    exact ⟨.ref ea, z, rfl, k _ G H _ δ R (Same.refl _) (.bl b) q⟩
theorem suite_ok {Y : Cx} {C f : Addr} {fn qual p en : Str} {st : Stmt} {fd : FuncData} {N : List Str} {k kk i : Nat} {d : D} {fp ep cp rp : Pos} (F : Fun Y.K fn qual st f fd) (S : FnScope N [p] (defScope st)) (hN : N.length = kk + 1)
    (hr : Room (k + 1) Y.A) (hst : Y.stack = Y.env :: Y.outer) (hfr : Y.env.frame = some Y.env.locals) (hb : Binds Y.K fd [p] []) (hm : Y.mg fn = some (.ref f))
    (hbody : ∀ (ea : Addr) (oe : Obj) (cdv : Value) (s : Shared) (H : Hp), oe.cls = .ref C → ∃ t, DSs (cxH Y.prog Y.w Y.K Y.mg Y.base N qual (defScope st) f cdv (Y.A.mark (some (.ref ea))) Y.stack s H [(ea, oe)]) (defBody st) t ∧ t { nx := fun _ => False, rt := fun d' _ => d' = d } (.pt ea :: List.replicate kk .no))
    (hi : Y.N[i]? = some en) (hv : Vis Y.env.scope en) (hg : Gl Y fn) (hdb : (fn == ("__debug__" : Str)) = false := by decide) (hd : (en == ("__debug__" : Str)) = false := by decide) (hcd : (en == ("__classdict__" : Str)) = false := by decide)
    (he : starEach [.Name en ep] Y.env = (false, eval (.Name en ep) Y.env) :: starEach [] Y.env := by rfl) (hpl : (backTo cp (starEach [] Y.env)).any (·.1) = false := by rfl) :
    SuiteOk Y i C [.Return (some (.Call (.Name fn fp) [.Name en ep] [] cp)) rp] d := by
  intro ea oe pins σ H G s hcls hG I hσ
  have pe : PE (markX (pinX Y ((ea, oe) :: Y.pn) Y.xe) ea) (.Call (.Name fn fp) [.Name en ep] [] cp) (fun σ H Q => σ[i]? = some (some (.ref ea)) ∧ ∃ G, Same G H ∧ ∀ v H' G', Ext G H G' H' → Den Y.K G' v d → Q v H') := by
    intro pins s σ H Q I ⟨hσ, G, hG, k1⟩
    refine wpAny_Call_Name_kw (ld_glob I hg hm ?_ hdb)
    refine PySem.W.callWith_K (h₀ := Y.base) I.ok.mod.kin F.kp (thn ((pa_cons (X := markX (pinX Y ((ea, oe) :: Y.pn) Y.xe) ea) (pe_var (i := i) hi hv hd hcd) pa_nil he) cp pins s σ H (fun vs H1 => vs = [.ref ea] ∧ H1 = H) I ⟨.ref ea, hσ, rfl, rfl⟩) fun us s1 ⟨vs, H1, I1, r, ev, eH⟩ => ⟨I1.kIn, ?_⟩) he hpl
    subst ev eH
    obtain ⟨u, rfl, ru⟩ := r.one
    cases (show u = Value.ref ea from ru)
    have I2 : Inv (markX (pinX Y ((ea, oe) :: Y.pn) Y.xe) ea) ((ea, oe) :: pins) σ H1 s1 := I1.pins_of fun z hz => by
      rcases (List.mem_cons.mp hz) with rfl | hz
      · exact I1.pin _ (List.mem_append_left _ List.mem_cons_self)
      · exact I1.pin _ (List.mem_append_right _ hz)
    refine wpAny_mono (run_handled (Y := pinX Y ((ea, oe) :: Y.pn) Y.xe) F S hN hr hst hfr hb I2 hG fun cdv => hbody ea oe cdv s1 H1 hcls) (fun u s4 ⟨v, H', G', rv, I4, e4, d4⟩ => ?_) fun _ _ z => z
    exact ⟨v, H', I4, rv, k1 v H' G' e4 d4⟩
  have I0 : Inv (markX (pinX Y ((ea, oe) :: Y.pn) Y.xe) ea) pins σ H s := ⟨⟨I.ok.mod, I.ok.kind, I.ok.glob, I.ok.blt, I.ok.above, I.ok.inj, I.ok.has, I.ok.cab, I.ok.hd, I.ok.frames, I.ok.stk, I.ok.exf, I.ok.bs, I.ok.bsz, I.ok.noex, I.ok.exfs, I.ok.funs, I.ok.frf⟩, I.os, I.bare, I.base, I.loc, I.cell, I.free, I.freeC, fun z hz => I.pin z (by
    rcases List.mem_append.mp hz with hz | hz
    · rcases List.mem_cons.mp hz with rfl | hz
      · exact List.mem_append_right _ List.mem_cons_self
      · exact List.mem_append_left _ hz
    · exact List.mem_append_right _ (List.mem_cons_of_mem _ hz)), I.hok, I.len⟩
  refine wpAny_mono ((pss_one (ps_ret pe)) pins s σ H ⟨fun _ _ => False, fun v H' => ∃ G', Ext G H G' H' ∧ Den Y.K G' v d, fun _ _ => False, fun _ _ => False⟩ I0 ⟨hσ, G, hG, fun v H' G' e4 d4 => ⟨G', e4, d4⟩⟩) (fun f s4 hs => ?_) fun _ _ z => z
  cases f with
  | ret u =>
    obtain ⟨v, σ', H', J, rv, G', e4, d4⟩ := hs
    refine ⟨u, v, σ', H', G', rfl, rv, ⟨⟨J.ok.mod, J.ok.kind, J.ok.glob, J.ok.blt, J.ok.above, J.ok.inj, J.ok.has, J.ok.cab, J.ok.hd, J.ok.frames, J.ok.stk, J.ok.exf, J.ok.bs, J.ok.bsz, J.ok.noex, J.ok.exfs, J.ok.funs, J.ok.frf⟩, J.os, J.bare, J.base, J.loc, J.cell, J.free, J.freeC, fun z hz => J.pin z ?_, J.hok, J.len⟩, e4, d4⟩
    rcases List.mem_append.mp hz with hz | hz
    · exact List.mem_append_left _ (List.mem_cons_of_mem _ hz)
    · exact List.mem_append_right _ hz
  | next => obtain ⟨_, _, _, q⟩ := hs; exact q.elim
  | brk => obtain ⟨_, _, _, q⟩ := hs; exact q.elim
  | cont => obtain ⟨_, _, _, q⟩ := hs; exact q.elim
end Dl

namespace Dl
open PySem PySem.Spec PyProof.Rows L2
/-! ## the classes of a try, from K; an if that raises or goes on -/
theorem base_in {K : PySem.W.Frag} {h : Heap} {C R : Addr} {bmB : List Value} {newId : String} (X : K.In h) (q : PySem.W.excIn K C bmB newId = true) (m : PySem.W.mroIn K C (.ref R) = some true) (ne0 : C ≠ R) :
    ∃ newC bm N nm qq bs hdct sn sub ab col dd k0 k1 k2 k3 k5, h.get? C = some (excClassObj nm qq C N bs bm hdct sn sub ab col dd k0 k1 k2 k3 k5 newC) ∧ bm.contains (.ref R) = true := by
  obtain ⟨bm, N, nm, qq, bs, hdct, sn, sub, ab, col, dd, k0, k1, k2, k3, k5, hC, _⟩ := own_obj X q
  refine ⟨newId, bm, N, nm, qq, bs, hdct, sn, sub, ab, col, dd, k0, k1, k2, k3, k5, hC, ?_⟩
  unfold PySem.W.mroIn PySem.W.clsIn at m
  split at m
  · rename_i c d cd sl hl
    have z := (X _ _ hl).symm.trans hC
    have e2 : Data.cls cd = (excClassObj nm qq C N bs bm hdct sn sub ab col dd k0 k1 k2 k3 k5 newId).data := congrArg Obj.data (Option.some.inj z)
    have e3 : cd.mro = Value.ref C :: bm := by
      have := Data.cls.inj e2
      rw [this]
    have m2 : ¬ cd.mro = [] ∧ Value.ref R ∈ cd.mro := by simpa using m
    have m' : cd.mro.contains (.ref R) = true := by simpa using m2.2
    rw [e3, List.contains_cons] at m'
    have ne : (Value.ref R == Value.ref C) = false := beq_eq_false_iff_ne.mpr fun z => ne0 (Value.ref.inj z).symm
    rw [ne, Bool.false_or] at m'
    exact m'
  · cases m
theorem rss_if {X : Cx} {n : En} {c : Expr} {a rest : List Stmt} {pos : Pos} {tc : TTd} {ra r : Ev → Prop} (hc : DT X c tc) (ha : RSs X n a ra) (h2 : RSs X n rest r) : RSs X n (.If c a [] pos :: rest) (fun δ => tc δ fun q δ1 => if q = true then ra δ1 else r δ1) :=
  pss_imp (pss_cons (ps_if hc ha pss_nil) h2) fun D σ H ⟨δ, G, R, h⟩ => ⟨n, δ, G, _, R, h, fun q G1 H1 δ1 R1 s1 h1 => by
    cases q with
    | true => rw [if_pos rfl] at h1; exact iteT ⟨δ1, G1, R1, h1⟩
    | false => rw [if_neg Bool.false_ne_true] at h1; exact iteF ⟨δ1, G1, R1, h1⟩⟩
theorem units3 {k : Nat} {A : Around} (r : Room k A) : A.units + 3 + 64 < cLine := by have := r.un; omega
end Dl

namespace Dl
open PySem PySem.Spec PyProof.Rows L2
/-! ## defs that are handed things, and raise before they change them -/
def spRO (K : PySem.W.Frag) (C : Addr) (S : List Ar → Prop) : Sp := fun vs H _ E => ∃ (G : Hp) (as : List Ar) (ow : Ow), Same G H ∧ as.length = vs.length ∧ ArsW K G H ow vs as ∧ (∀ p k, ow p = some k → G p = none ∧ H p ≠ none) ∧ S as ∧
  ∀ (G' H' : Hp) (ow' : Ow), ExtM (fun p => ow p ≠ none) G H G' H' → ArsW K G' H' ow' vs as → (∀ p k, ow' p = some k → G' p = none ∧ H' p ≠ none ∧ (H p = none ∨ ow p ≠ none)) → E (.ref C) none H'
def rMeth (i : Nat) (C : Nat) (m : Str) (S : List Ar → Prop) (P : Ev → Prop) (t : TAo) : Ev → Prop := fun δ => match δ[i]? with
  | some (.ob _ C' fs) => C' = C ∧ fs.lookup m = none ∧ t δ fun axs δ1 => (i :: atsOf axs).Nodup ∧ S (inA δ1 (.at i) :: axs.map (inA δ1)) ∧ P (setO δ1 (.at i :: axs) (inA δ1 (.at i) :: axs.map (inA δ1)))
  | _ => False
section
variable {X : Cx} {n : En} {Ce : Addr} {e : Expr} {es : List Expr} {t : TAo} {p pos : Pos} {f C : Addr} {fd : FuncData} {ps : List Str} {S : List Ar → Prop} {P : Ev → Prop} {k : Nat} {m : Str} {apos : Pos}
/-- x.m(e, ..), which raises -/
theorem re_meth (i : Nat) {y : Str} {op : Pos} {pl : Sem Bool} (W : Wish X n Ce P) (c : Cls X.K C) (hm : Meth X.K C m f) (F : FnOk X.prog X.w X.K X.mg X.base (CXE X.prog X.w) k f fd ps (spRO X.K Ce S)) (hr : Room k X.A) (hb : Binds X.K fd ps []) (ha : DAo X (e :: es) t)
    (hN : X.N[i]? = some y := by rfl) (hv : Vis X.env.scope y := by first | exact Or.inl rfl | exact Or.inr (Or.inl rfl) | exact Or.inr (Or.inr rfl)) (hd : (y == ("__debug__" : Str)) = false := by decide) (hcd : (y == ("__classdict__" : Str)) = false := by decide)
    (hst : starEach (e :: es) X.env = (false, eval e X.env) :: starEach es X.env := by rfl) (hpl : (backTo pos (starEach es X.env)).any (·.1) = false := by rfl)
    (ht : eval (.Call (.Attribute (.Name y op) m apos) (e :: es) [] pos) X.env = (do
      let ov ← eval (.Name y op) X.env
      standAt apos.atName
      let (f, first) ← holding [ov] (getMethod ov m pl)
      callWith pos f first (backTo pos (starEach (e :: es) X.env)) (backToKw pos (keywordEach [] X.env))) := by rfl) :
    RE X n (.Call (.Attribute (.Name y op) m apos) (e :: es) [] pos) (rMeth i C m S P t) := by
  have hx : Passes (CXE X.prog X.w) X (fun cls _ H' => cls = .ref Ce ∧ ∃ δ' σ' G', Rel X.K n δ' σ' G' H' ∧ P δ') := fun pins σ H s e s' I ⟨ea, C', B, H', ee, O, ec, hR⟩ => by
    cases ec; subst ee
    exact W.pass pins σ H s ea B H' s' I O hR
  refine pe_imp (pe_meth (pl := pl) (pe_var hN hv hd hcd) c hm F hr hb .nil hx ha hst hpl ht) fun σ H Q2 ⟨δ, G, R, h⟩ => ?_
  unfold rMeth at h
  split at h
  · rename_i h0 C' fs q
    obtain ⟨rfl, hl, h⟩ := h
    obtain ⟨a, dx, vfs, g1, g2, g3, g4, ow, i', g5⟩ := R.sl i _ q
    refine ⟨.ref a, g1, a, dx, vfs, rfl, g3, ?_, n, δ, G, _, R, h, fun vs G1 H1 axs δ1 R1 s1 d1 ⟨nd, h1, h2⟩ => ?_⟩
    · have hk : m ∉ fs.map (·.1) := fun z => by
        obtain ⟨p, hp, e⟩ := List.mem_map.mp z
        exact absurd hl (by intro hh; have := List.lookup_eq_none_iff.mp hh p hp; simp [e] at this)
      rw [← g5.keys] at hk
      exact List.lookup_eq_none_iff.mpr fun p hp => by
        have : p.1 ≠ m := fun z => hk (List.mem_map.mpr ⟨p, hp, z⟩)
        simpa using fun z => this z.symm
    · show spRO X.K Ce S (.ref a :: (vs ++ [])) H1 Q2 _
      rw [List.append_nil]
      obtain ⟨owC, c1, c2, c3⟩ := R1.enter (axs := .at i :: axs) nd (.at g1 d1)
      exact ⟨G1, _, owC, R1.sub, by simp [d1.length], c1, c2, h1, fun G2 H2 ow' e2 w2 o2 => ⟨rfl, _, σ, G2, c3 G2 H2 _ ow' e2 w2 o2, h2⟩⟩
  · exact h.elim
end
section
variable {P : Program} {w : World} {K : PySem.W.Frag} {mg : Str → Option Value} {base : Heap}
theorem fnRO {x qual : Str} {st : Stmt} {f C : Addr} {fd : FuncData} {N ps : List Str} {k : Nat} {S : List Ar → Prop} {q : (Ev → Prop) → Ev → Prop} (F : Fun K x qual st f fd) (Sc : FnScope N ps (defScope st)) (len : ∀ as, S as → as.length = ps.length)
    (hq : ∀ (hs : Nat → Nat) as, S as → q (fun δ => outO hs 0 as δ = as) (startO N hs as))
    (hbody : ∀ (cdv : Value) (A : Around) (outer : List Env) (s : Shared) (H : Hp) (E : XK) (n : En) (Pk : Ev → Prop), Room k (A.deeper (envOfC qual (defScope st) s.heap.objs.size f cdv)) → Wish (cxOf (CXE P w) P w K mg base N qual (defScope st) f cdv A outer s H E) n C Pk → WishM (cxOf (CXE P w) P w K mg base N qual (defScope st) f cdv A outer s H E) n C Pk →
      RSs (cxOf (CXE P w) P w K mg base N qual (defScope st) f cdv A outer s H E) n (defBody st) (q Pk)) : FnOk P w K mg base (CXE P w) (k + 1) f fd ps (spRO K C S) := by
  obtain ⟨oc, od, kV, doc, pm, an, cdv, ct, osl, rfl, lk, hcd⟩ := F.ex
  refine fn_of lk hcd Sc (fun vs H Q E ⟨G, as, ow, _, hl, _, _, h, _⟩ => by rw [← hl]; exact len as h) fun A outer s H vs Q E hr ⟨G, as, ow, sub, hl, hw, ho, h, hE⟩ => ?_
  have fin : ∀ (δ' : Ev) (σ' : L2.St) (G' H' : Hp), Rel K ⟨G, H, fun p => ow p ≠ none⟩ δ' σ' G' H' → outO (hsOf vs) 0 as δ' = as → E (.ref C) none H' := fun δ' σ' G' H' R hP => by
    obtain ⟨ow', ok', gh'⟩ := R.gh
    have z := out_ok hw R.eg gh'
    rw [hP] at z
    exact hE G' H' ow' ⟨R.eg, R.sub, R.eh, R.al, fun b o e e0 => R.fr b o e e0⟩ z (fun p k hk => ok'.is p k hk)
  have W : Wish (cxOf (CXE P w) P w K mg base N qual (defScope st) f cdv A outer s H E) ⟨G, H, fun p => ow p ≠ none⟩ C (fun δ => outO (hsOf vs) 0 as δ = as) := ⟨fun pins σ H1 s1 ea B H' s' I O ⟨δ', σ', G', R, hP⟩ => leave_next I rfl rfl rfl O fun s'' O' => ⟨ea, C, B, H', rfl, O', fin δ' σ' G' H' R hP⟩⟩
  have WM : WishM (cxOf (CXE P w) P w K mg base N qual (defScope st) f cdv A outer s H E) ⟨G, H, fun p => ow p ≠ none⟩ C (fun δ => outO (hsOf vs) 0 as δ = as) := ⟨fun pins σ H1 s1 h' ea vs I ⟨δ, G1, R, hP⟩ hx => leave_first I rfl rfl rfl hx fun s'' O => ⟨ea, C, _, H1, rfl, O, fin δ σ G1 H1 R hP⟩⟩
  exact ⟨_, hbody cdv A outer s H E ⟨G, H, fun p => ow p ≠ none⟩ _ hr W WM, startO N (hsOf vs) as, G, rel_startO (N := N) sub hl hw ho, hq (hsOf vs) as h⟩
end
end Dl

namespace Dl
open PySem PySem.Spec PyProof.Rows L2
/-! ## Comprehensions whose element uses instances and records without changing them -/
def isO : Sl → Bool
  | .ob _ _ _ => true
  | .rc _ _ => true
  | _ => false
def pinS (a : Nat) : Sl → Sl
  | .sh d => .sh d
  | .ob _ C fs => .ob (some a) C fs
  | .rc _ fs => .rc (some a) fs
  | _ => .no
def pinO (as : Nat → Nat) : Nat → Ev → Ev
  | _, [] => []
  | i, s :: r => pinS (as i) s :: pinO as (i + 1) r
theorem pinO_get (as : Nat → Nat) : ∀ (δ : Ev) (i k : Nat), (pinO as i δ)[k]? = (δ[k]?).map (pinS (as (i + k)))
  | [], i, k => by simp [pinO]
  | a :: r, i, 0 => by simp [pinO]
  | a :: r, i, k + 1 => by simp only [pinO, List.getElem?_cons_succ]; rw [pinO_get as r (i + 1) k]; congr 2; congr 1; omega
theorem pinO_len (as : Nat → Nat) : ∀ (δ : Ev) (i : Nat), (pinO as i δ).length = δ.length
  | [], i => rfl
  | a :: r, i => by simp [pinO, pinO_len as r]
section
variable {K : PySem.W.Frag} {n : En} {δ : Ev} {σ : L2.St} {G H : Hp} {D₀ : Addr} {o : HO}
theorem Rel.innerO (R : Rel K n δ σ G (del H D₀)) (hD : H D₀ = some o) (k : Nat) : ∃ (as : Nat → Nat) (M : Addr → Prop), Rel K ⟨G, H, M⟩ (pinO as 0 δ ++ List.replicate k .no) (σ ++ List.replicate k none) G H ∧
    ∀ (δ' : Ev) (σ' : L2.St) (G' H' : Hp), Rel K ⟨G, H, M⟩ δ' σ' G' H' → δ'.take δ.length = pinO as 0 δ → H' D₀ = some o ∧ G' D₀ = none ∧ Same G G' ∧ Rel K n δ σ G' (del H' D₀) := by
  obtain ⟨ow, ok, gh⟩ := R.gh
  have gD : G D₀ = none := R.sub.free del_same
  have owD : ∀ p k, ow p = some k → p ≠ D₀ ∧ H p ≠ none := fun p k hk => by
    have h2 := (ok.is p k hk).2.1
    have ne : p ≠ D₀ := fun z => by subst z; exact h2 del_same
    rw [del_ne ne] at h2
    exact ⟨ne, h2⟩
  let io : Nat → Bool := fun i => match δ[i]? with
    | some s => isO s
    | none => false
  let as : Nat → Nat := fun i => match σ[i]? with
    | some (some (.ref a)) => a
    | _ => 0
  let M : Addr → Prop := fun p => ∃ i f, ow p = some (i, f) ∧ io i = true
  have nMD : ¬ M D₀ := fun ⟨i, f, h, _⟩ => (owD _ _ h).1 rfl
  refine ⟨as, M, ⟨fun b u e => ?_, Same.refl _, fun b u e _ => e, fun b e => e, fun b u e (e0 : G b = none) => (by rw [e0] at e; cases e), ⟨fun p => match ow p with
    | some (i, f) => if io i = true then some (i, f) else none
    | none => none, ⟨fun p kk hk => ?_⟩, fun i s hs => ?_⟩, ?_⟩, fun δ' σ' G' H' R' hk => ?_⟩
  · have z := R.sub b u e
    have ne : b ≠ D₀ := fun w => by subst w; rw [gD] at e; cases e
    rw [del_ne ne] at z; exact z
  · cases q : ow p with
    | none => rw [q] at hk; cases hk
    | some jf =>
      obtain ⟨j, f⟩ := jf
      rw [q] at hk
      simp only at hk
      split at hk
      · rename_i hio
        exact ⟨(ok.is p _ q).1, (owD p _ q).2, .inr ⟨j, f, q, hio⟩⟩
      · cases hk
  · by_cases hi : i < δ.length
    · rw [List.getElem?_append_left (by rw [pinO_len]; exact hi), pinO_get, Nat.zero_add] at hs
      have hi' : i < σ.length := by rw [← R.len]; exact hi
      rw [List.getElem?_append_left hi']
      have qs : δ[i]? = some δ[i] := List.getElem?_eq_getElem hi
      rw [qs] at hs
      have h0 := gh i _ qs
      generalize δ[i] = s0 at qs hs h0
      have keep : io i = true → (∀ p f, ow p = some (i, f) → (match ow p with | some (i, f) => if io i = true then some (i, f) else none | none => none) = some (i, f)) ∧ ∀ p f o, ow p = some (i, f) → (del H D₀) p = some o → H p = some o := fun hio => ⟨fun p f z => by simp only [z, hio, if_true], fun p f o z e => by rw [del_ne (owD p _ z).1] at e; exact e⟩
      cases s0 with
      | sh d => cases hs; exact h0
      | ob h C fs =>
        cases hs
        have hio : io i = true := by show (match δ[i]? with | some s => isO s | none => false) = true; rw [qs]; rfl
        obtain ⟨k1, k2⟩ := keep hio
        obtain ⟨a, dx, vfs, g1, g2, g3, g4, g5, g6, g7⟩ := h0
        refine ⟨a, dx, vfs, g1, fun a0 z => ?_, k2 _ _ _ g5 g3, k2 _ _ _ g6 g4, k1 _ _ g5, k1 _ _ g6, g7.keep (Same.refl _) k1 k2⟩
        cases z
        show a = (match σ[i]? with | some (some (.ref a)) => a | _ => 0)
        rw [g1]
      | rc h fs =>
        cases hs
        have hio : io i = true := by show (match δ[i]? with | some s => isO s | none => false) = true; rw [qs]; rfl
        obtain ⟨k1, k2⟩ := keep hio
        obtain ⟨a, vfs, g1, g2, g3, g5, g7⟩ := h0
        refine ⟨a, vfs, g1, fun a0 z => ?_, k2 _ _ _ g5 g3, k1 _ _ g5, g7.keep (Same.refl _) k1 k2⟩
        cases z
        show a = (match σ[i]? with | some (some (.ref a)) => a | _ => 0)
        rw [g1]
      | no => cases hs; trivial
      | ow l => cases hs; trivial
      | mu a l => cases hs; trivial
      | pt a => cases hs; trivial
    · rw [List.getElem?_append_right (by rw [pinO_len]; omega), List.getElem?_replicate] at hs
      split at hs
      · cases hs; trivial
      · cases hs
  · rw [List.length_append, List.length_append, List.length_replicate, List.length_replicate, pinO_len, R.len]
  · have hD' : H' D₀ = some o := R'.eh D₀ o hD nMD
    have gD' : G' D₀ = none := by
      cases q : G' D₀ with
      | none => rfl
      | some u => have z := R'.fr D₀ u q gD; have z' : H D₀ = none := z; rw [hD] at z'; cases z'
    have sG : Same G G' := R'.eg
    refine ⟨hD', gD', sG, ?_⟩
    obtain ⟨ow2, ok2, gh2⟩ := R'.gh
    have own2 : ∀ p kk, ow2 p = some kk → p ≠ D₀ := fun p kk hp z => by
      subst z
      rcases (ok2.is _ _ hp).2.2 with h | h
      · have h' : H p = none := h; rw [hD] at h'; cases h'
      · exact nMD h
    have nal : ∀ p, H p = none → n.H p = none := fun p hp => R.al p (by
      by_cases z : p = D₀
      · subst z; exact del_same
      · rw [del_ne z]; exact hp)
    have slot : ∀ i s, δ[i]? = some s → δ'[i]? = some (pinS (as i) s) := fun i s hs => by
      have hi : i < δ.length := (List.getElem?_eq_some_iff.mp hs).1
      have z : (δ'.take δ.length)[i]? = (pinO as 0 δ)[i]? := by rw [hk]
      rw [pinO_get, hs, Nat.zero_add, List.getElem?_take, if_pos hi] at z
      exact z
    let ow3 : Ow := fun p => match ow2 p with
      | some (i, f) => if io i = true then some (i, f) else none
      | none => match ow p with
        | some (i, f) => if io i = true then none else some (i, f)
        | none => none
    have new3 : ∀ i, io i = true → ∀ p f, ow2 p = some (i, f) → ow3 p = some (i, f) := fun i hio p f z => by
      show (match ow2 p with
      | some (i, f) => if io i = true then some (i, f) else none
      | none => match ow p with
        | some (i, f) => if io i = true then none else some (i, f)
        | none => none) = _
      simp only [z, hio, if_true]
    have old3 : ∀ i, io i = false → ∀ p f, ow p = some (i, f) → ow3 p = some (i, f) ∧ ¬ M p := fun i hio p f z => by
      have nM : ¬ M p := fun ⟨i', f', h, h'⟩ => by rw [z] at h; cases h; rw [hio] at h'; cases h'
      have q : ow2 p = none := by
        cases q : ow2 p with
        | none => rfl
        | some kf =>
          rcases (ok2.is _ _ q).2.2 with h | h
          · exact absurd h (owD p _ z).2
          · exact absurd h nM
      refine ⟨?_, nM⟩
      show (match ow2 p with
      | some (i, f) => if io i = true then some (i, f) else none
      | none => match ow p with
        | some (i, f) => if io i = true then none else some (i, f)
        | none => none) = _
      simp only [q, z, hio, Bool.false_eq_true, if_false]
    have stay : ∀ p u, H p = some u → ¬ M p → H' p = some u := fun p u e h => R'.eh p u e h
    refine ⟨fun b u e => ?_, R.eg.trans sG, fun b u e m => ?_, fun b e => ?_, fun b u e e0 => ?_, ⟨ow3, ⟨fun p kk hp => ?_⟩, fun i s hs => ?_⟩, R.len⟩
    · rw [del_ne (ne_of_none e gD')]; exact R'.sub b u e
    · have z := R.eh b u e m
      have ne : b ≠ D₀ := fun w => by subst w; rw [del_same] at z; cases z
      rw [del_ne ne] at z ⊢
      refine stay b u z fun ⟨i, f, h, _⟩ => ?_
      rcases (ok.is b _ h).2.2 with w | w
      · rw [w] at e; cases e
      · exact m w
    · by_cases z : b = D₀
      · subst z; exact R.al _ del_same
      · rw [del_ne z] at e; exact nal b (R'.al b e)
    · cases q : G b with
      | none => exact nal b (R'.fr b u e q)
      | some w => exact R.fr b w q e0
    · cases q : ow2 p with
      | some jf =>
        obtain ⟨j, f⟩ := jf
        obtain ⟨h1, h2, h3⟩ := ok2.is p _ q
        refine ⟨h1, by rw [del_ne (own2 p _ q)]; exact h2, ?_⟩
        rcases h3 with h3 | ⟨i, f, h3, _⟩
        · exact .inl (nal p h3)
        · exact (ok.is p _ h3).2.2
      | none =>
        cases q2 : ow p with
        | none =>
          have : ow3 p = none := by
            show (match ow2 p with
            | some (i, f) => if io i = true then some (i, f) else none
            | none => match ow p with
              | some (i, f) => if io i = true then none else some (i, f)
              | none => none) = _
            simp only [q, q2]
          rw [this] at hp; cases hp
        | some jf =>
          obtain ⟨j, f⟩ := jf
          cases hio : io j with
          | true =>
            have : ow3 p = none := by
              show (match ow2 p with
              | some (i, f) => if io i = true then some (i, f) else none
              | none => match ow p with
                | some (i, f) => if io i = true then none else some (i, f)
                | none => none) = _
              simp only [q, q2, hio, if_true]
            rw [this] at hp; cases hp
          | false =>
            obtain ⟨_, nM⟩ := old3 j hio p f q2
            obtain ⟨h1, h2, h3⟩ := ok.is p _ q2
            obtain ⟨n1, n2⟩ := owD p _ q2
            refine ⟨?_, ?_, h3⟩
            · cases q3 : G' p with
              | none => rfl
              | some u => exact absurd (R'.fr p u q3 h1) n2
            · rw [del_ne n1]
              cases q3 : H p with
              | none => exact absurd q3 n2
              | some u => rw [stay p u q3 nM]; exact fun z => by cases z
    · have h0 := gh i s hs
      have h1 := slot i s hs
      have keepO : io i = false → (∀ p f, ow p = some (i, f) → ow3 p = some (i, f)) ∧ ∀ p f u, ow p = some (i, f) → (del H D₀) p = some u → (del H' D₀) p = some u := fun hio => ⟨fun p f z => (old3 i hio p f z).1, fun p f u z e => by
        rw [del_ne (owD p _ z).1] at e ⊢
        exact stay p u e (old3 i hio p f z).2⟩
      have keepN : io i = true → ∀ p f u, ow2 p = some (i, f) → H' p = some u → (del H' D₀) p = some u := fun hio p f u z e => by rw [del_ne (own2 p _ z)]; exact e
      have io_of : io i = isO s := by show (match δ[i]? with | some s => isO s | none => false) = _; rw [hs]
      cases s with
      | no => trivial
      | sh d => obtain ⟨v, g1, g2⟩ := h0; exact ⟨v, g1, g2.up sG⟩
      | pt a => exact h0
      | ow l => obtain ⟨a1, a2⟩ := keepO io_of; exact SlW.keep (s := .ow l) sG a1 a2 h0
      | mu a l => obtain ⟨a1, a2⟩ := keepO io_of; exact SlW.keep (s := .mu a l) sG a1 a2 h0
      | ob h C fs =>
        obtain ⟨a, dx, vfs, g1, g2, _⟩ := h0
        obtain ⟨a', dx', vfs', r1, r2, r3, r4, r5, r6, r7⟩ := gh2 i _ h1
        have ea : a' = a := by
          rw [r2 _ rfl]
          show (match σ[i]? with | some (some (.ref a)) => a | _ => 0) = a
          rw [g1]
        subst ea
        exact ⟨a', dx', vfs', g1, g2, keepN io_of _ _ _ r5 r3, keepN io_of _ _ _ r6 r4, new3 i io_of _ _ r5, new3 i io_of _ _ r6, r7.keep (Same.refl _) (new3 i io_of) (keepN io_of)⟩
      | rc h fs =>
        obtain ⟨a, vfs, g1, g2, _⟩ := h0
        obtain ⟨a', vfs', r1, r2, r3, r5, r7⟩ := gh2 i _ h1
        have ea : a' = a := by
          rw [r2 _ rfl]
          show (match σ[i]? with | some (some (.ref a)) => a | _ => 0) = a
          rw [g1]
        subst ea
        exact ⟨a', vfs', g1, g2, keepN io_of _ _ _ r5 r3, new3 i io_of _ _ r5, r7.keep (Same.refl _) (new3 i io_of) (keepN io_of)⟩
end
end Dl
namespace Dl
open PySem PySem.Spec PyProof.Rows L2
def dCompO (k : Nat) (ti : TId) (g : TGd) (tt : TTd) (te : TEd) : TEd := fun δ Q => ti δ fun items δ1 => ∃ F : D → Option D,
  (∀ d ∈ items, ∀ as : Nat → Nat, g d (pinO as 0 δ1 ++ List.replicate k .no) fun δ2 => tt δ2 fun b δ3 => if b = true then te δ3 fun y δ4 => δ4.take δ1.length = pinO as 0 δ1 ∧ F d = some y else δ3.take δ1.length = pinO as 0 δ1 ∧ F d = none) ∧
    (items.filterMap F).length ≤ sizeLine ∧ Q (.lst (items.filterMap F)) δ1
/-- a comprehension with what is done with its list -/
theorem comp_runO {X : Cx} {elt iter target : Expr} {ifs : List Expr} {scope : Scope} {pos : Pos} {N' : List Str} (k : Nat) {ti : TId} {g : TGd} {tt : TTd} {te : TEd} (hc : X.calm = true) (hi : DI X target iter ti)
    (hb : ∀ (cl : List (Str × Addr)) (C : Addr) (ex : List Addr) (s : Shared) (H : Hp), DG (cxComp X N' scope cl C ex s H) target g ∧ DTs (cxComp X N' scope cl C ex s H) ifs tt ∧ DE (cxComp X N' scope cl C ex s H) elt te)
    (hkind : scope.kind = .function) (hnames : ∀ y ∈ scope.names, y.2 = .local → scope.names.lookup y.1 = some .local) (hnc : ∀ x, (x, NameKind.free) ∈ scope.names → (x, NameKind.cell) ∉ scope.names) (hN : N'.length = X.N.length + k)
    (hcap : ∀ (i : Nat) (x : Str), N'[i]? = some x → i < X.N.length → Vis (relabel scope X.env) x → X.N[i]? = some x ∧ scope.names.lookup x = some .free ∧ X.env.scope.names.lookup x = some .cell)
    (hfr : ∀ x ∈ scope.names, x.2 = NameKind.free → X.env.scope.names.lookup x.1 = some .cell)
    (hs : ∀ x, foldedSetIterable iter X.env x = pure x)
    {use : Option (Value → Sem Unit)} {Qf : Value → Shared → Prop} {pins : List (Addr × Obj)} {s : Shared} {σ : L2.St} {H : Hp} {Q2 : VK} {p : Pos} (I : Inv X pins σ H s) (hq : lE X.K (dCompO k ti g tt te) σ H Q2)
    (fin : ∀ (D₀ C : Addr) (H' : Hp) (s6 : Shared), Inv X pins σ H' s6 → FpOk X pins H' C → (∃ m, s6.heap.Ns C m) → Q2 (.ref D₀) H' → compPost (model X.prog X.w) X.A X.xe use Qf (.ref D₀) C (.ok .next) s6) :
    wpAny (model X.prog X.w) X.A (comprehension (.ListComp elt [⟨target, iter, ifs, 0⟩] scope pos) scope X.env p (newList []) false (eval iter X.env) use) Qf X.xe s := by
  obtain ⟨n, δ, G, Q, R, h, kk⟩ := hq
  obtain ⟨cl, hclos, hcl1, hcl2⟩ := clos_of (env := X.env) (scope := scope) (fun x hx hf => I.ok.has x.1 (.inl (hfr x hx hf)))
  refine wpAny_comprehension_free (use := use) rfl hs hclos hkind hnames (wpAny_mono (hi pins s σ H _ I ⟨n, δ, G, _, R, h, fun J G' H' l δ' R' s' j' q' => (show ∃ G' l δ', Rel X.K n δ' σ G' H' ∧ Same G G' ∧ JOk X.K G' J l ∧
    (∃ F : D → Option D, (∀ d ∈ l, ∀ as : Nat → Nat, g d (pinO as 0 δ' ++ List.replicate k .no) fun δ2 => tt δ2 fun b δ3 => if b = true then te δ3 fun y δ4 => δ4.take δ'.length = pinO as 0 δ' ∧ F d = some y else δ3.take δ'.length = pinO as 0 δ' ∧ F d = none) ∧ (l.filterMap F).length ≤ sizeLine ∧ Q (.lst (l.filterMap F)) δ') from ⟨G', l, δ', R', s', j', q'⟩)⟩)
    (fun xv s₁ h₁ => wpAny_mono h₁ (fun itv s₂ h₂ => ?_) fun _ _ z => z) fun _ _ z => z)
  obtain ⟨it, fp, tn, J, H2, rfl, I2, T, st2, f2, G2, items, δ1, R2, sG2, j2, F, hF, hsz, hQ⟩ := h₂
  refine wpAny_newObj_type (wpAny_compEnv ?_)
  rw [cf_app]
  dsimp only
  -- the new list
  have hD : H2 s₂.heap.objs.size = none := I2.fresh
  have I3 : Inv X pins σ (upd H2 s₂.heap.objs.size (.lst [])) { s₂ with heap := s₂.heap.push { cls := .type "list", dict := none, data := .seq ([] : List Value).toArray } } := I2.lnew (t' := s₂.toks) .nil (Nat.zero_le _)
  have R3 : Rel X.K n δ1 σ G2 (upd H2 s₂.heap.objs.size (.lst [])) := R2.other (R2.sub.free hD) (R2.al _ hD) (R2.notOwn hD) _
  have f3 : ∀ b ∈ fp, FpOk X pins (upd H2 s₂.heap.objs.size (.lst [])) b := fun b hb => by
    have lt : b < s₂.heap.objs.size := by obtain ⟨o, ho, _⟩ := T.obj _ _ st2 b hb; exact Heap.lt_size ho
    refine ⟨?_, (f2 b hb).2⟩
    rw [upd_ne (Nat.ne_of_lt lt)]; exact (f2 b hb).1
  have fo3 : ∀ b ∈ fp, b < (s₂.heap.push { cls := .type "list", dict := none, data := .seq ([] : List Value).toArray }).objs.size := fun b hb => by
    obtain ⟨o, ho, _⟩ := T.obj _ _ st2 b hb
    rw [Heap.size_push]
    exact Nat.lt_succ_of_lt (Heap.lt_size ho)
  have up3 : ∀ b o, s₂.heap.get? b = some o → (s₂.heap.push { cls := .type "list", dict := none, data := .seq ([] : List Value).toArray }).get? b = some o := fun b o e => Heap.get?_push_of_some _ e
  generalize hH3 : upd H2 s₂.heap.objs.size (.lst []) = H3 at I3 R3 f3
  have hD3 : H3 s₂.heap.objs.size = some (.lst []) := by rw [← hH3]; exact upd_same
  have gD3 : G2 s₂.heap.objs.size = none := R2.sub.free hD
  have nD3 : n.H s₂.heap.objs.size = none := R2.al _ hD
  have own3 : Rel X.K n δ1 σ G2 (del H3 s₂.heap.objs.size) := by rw [← hH3, del_upd, del_none hD]; exact R2
  have kp3 : Same H2 H3 := by rw [← hH3]; exact same_upd hD _
  generalize s₂.heap.objs.size = D₀ at hD hD3 gD3 nD3 own3 ⊢
  have tn3 : ∀ h', (∀ b o, (s₂.heap.push { cls := .type "list", dict := none, data := .seq ([] : List Value).toArray }).get? b = some o → h'.get? b = some o) → tn 0 h' := fun h' k' => T.keep 0 _ _ st2 fun b _ o e => k' b o (up3 b o e)
  have osz : ({ s₂ with heap := s₂.heap.push { cls := .type "list", dict := none, data := .seq ([] : List Value).toArray } } : Shared).os = s₂.os := rfl
  generalize hs3 : ({ s₂ with heap := s₂.heap.push { cls := .type "list", dict := none, data := .seq ([] : List Value).toArray } } : Shared) = s₃ at I3
  have eh3 : s₃.heap = s₂.heap.push { cls := .type "list", dict := none, data := .seq ([] : List Value).toArray } := by rw [← hs3]
  rw [← eh3] at fo3 tn3 ⊢
  have ow := ownC_of (h := s₃.heap) hnc
  have hns₁ : (pushCells (s₃.heap.push { cls := .type "dict", data := .dict #[] }) scope.names).Ns s₃.heap.objs.size fun _ => none := (Heap.Ns.new s₃.heap (.type "dict")).keeps (pushCells_keeps _ _)
  have hk3 : ∀ b o, s₃.heap.get? b = some o → (pushCells (s₃.heap.push { cls := .type "dict", data := .dict #[] }) scope.names).get? b = some o := fun b o e => pushCells_keeps _ _ b o (Heap.get?_push_of_some _ e)
  generalize cellsFrom (s₃.heap.objs.size + 1) scope.names [] = own at ow ⊢
  generalize hh1 : pushCells (s₃.heap.push { cls := .type "dict", data := .dict #[] }) scope.names = h₁ at ow hns₁ hk3 ⊢
  have es4 : ({ s₂ with heap := h₁ } : Shared) = { s₃ with heap := h₁, toks := s₃.toks } := by rw [← hs3]
  have I4 : Inv (cxComp X N' scope (own ++ cl) s₃.heap.objs.size fp s₃ H3) [] (σ ++ List.replicate k none) H3 { s₃ with heap := h₁, toks := s₃.toks } := comp_inv I3 hkind hcl1 hcl2 ow hN hcap f3 fo3 hns₁ hk3
  have reset : ∀ {pins' : List (Addr × Obj)} {σ' : L2.St} {H' : Hp} {s' : Shared}, Inv (cxComp X N' scope (own ++ cl) s₃.heap.objs.size fp s₃ H3) pins' σ' H' s' → Inv (cxComp X N' scope (own ++ cl) s₃.heap.objs.size fp s₃ H3) pins' (σ ++ List.replicate k none) H' s' :=
    fun J' => comp_reset I3 hcl1 hcl2 ow.free hN hcap J'
  generalize own ++ cl = cl at I4 reset ⊢
  have fpok : ∀ {H' : Hp}, (∀ b ∈ fp, H' b = none) → ∀ b ∈ fp, FpOk (cxComp X N' scope cl s₃.heap.objs.size fp s₃ H3) [] H' b := fun hn b hb =>
    ⟨hn b hb, Nat.ne_of_lt (fo3 b hb), I4.ok.exfs b hb, .inl hb, (I4.ok.exf b hb).2, fun p hp => absurd (show p ∈ ([] : List (Addr × Obj)) from hp) (by simp)⟩
  obtain ⟨hG, hT, hE⟩ := hb cl s₃.heap.objs.size fp s₃ H3
  have loop : ∀ s₄ : Shared, s₄ = { s₃ with heap := h₁, toks := s₃.toks } →
      codeAny (model X.prog X.w) X.A (.compLoop (.ListComp elt [⟨target, iter, ifs, 0⟩] scope pos) 0 (.ref it) (.ref D₀) (compEnvC scope cl s₃.heap.objs.size X.env)) (compPost (model X.prog X.w) X.A X.xe use Qf (.ref D₀) s₃.heap.objs.size) s₄ := by
    rintro s₄ rfl
    refine compLoop_any (fun m s => ∃ (i : Nat) (H : Hp) (G : Hp) (ws : List V), i ≤ items.length ∧ m = items.length - i ∧ Inv (cxComp X N' scope cl s₃.heap.objs.size fp s₃ H3) [] (σ ++ List.replicate k none) H s ∧ tn i s.heap ∧ (∀ b ∈ fp, H b = none) ∧
      Rel X.K n δ1 σ G (del H D₀) ∧ Same G2 G ∧ H D₀ = some (.lst ws) ∧ G D₀ = none ∧ DenL X.K G ws ((items.take i).filterMap F)) ?_ items.length
      ⟨0, H3, G2, [], Nat.zero_le _, rfl, I4, tn3 _ hk3, fun b hb => (f3 b hb).1, own3, Same.refl _, hD3, gD3, .nil⟩
    rintro m s5 ⟨i, H5, G5, ws, hi, rfl, I5, st5, fr5, R5', sG5, hD5, gD5, dl5⟩
    have R5 := R5'.undel hD5
    by_cases hlt : i < items.length
    · refine thn (T.item (cxComp X N' scope cl s₃.heap.objs.size fp s₃ H3) rfl rfl rfl hc i [] s5 _ H5 _ I5 (fpok fr5) st5 (j2.go i G5 H5 sG5 R5.sub hlt)) fun r s6 ⟨u, hr, h6⟩ => ?_
      subst hr
      refine thn h6 fun _ s7 ⟨x, H7, I7, rx, y7, st7, fr7⟩ => ?_
      obtain ⟨G7, d, e7, hd, dx⟩ := j2.yl i G5 H5 x H7 sG5 R5.sub hlt y7
      have gD7 : G7 D₀ = none := by
        cases q : G7 D₀ with
        | none => rfl
        | some o => have z := e7.fr D₀ o q gD5; rw [hD5] at z; cases z
      have R7 := R5'.ext (e7.del gD7)
      obtain ⟨as, M, Rin, back⟩ := R7.innerO (e7.hh _ _ hD5) k
      have I7' := I7.pinned (fpok fr7) (T.obj _ _ st7)
      -- behind a turn: the iterator's objects stand
      have keep : ∀ {σ' : L2.St} {H' : Hp} {s' : Shared}, Inv (cxComp X N' scope cl s₃.heap.objs.size fp s₃ H3) ([] ++ pinsAt fp s7.heap) σ' H' s' → tn (i + 1) s'.heap ∧ (∀ b ∈ fp, H' b = none) ∧ Inv (cxComp X N' scope cl s₃.heap.objs.size fp s₃ H3) [] (σ ++ List.replicate k none) H' s' := fun {σ' H' s'} J' => by
        refine ⟨T.keep _ _ _ st7 fun b hb o e => (J'.pin (b, o) (List.mem_append_right _ (List.mem_append_right _ (mem_pinsAt hb e)))).1, fun b hb => ?_, reset J'.unpinned⟩
        obtain ⟨o, e, _⟩ := T.obj _ _ st7 b hb
        exact (J'.pin (b, o) (List.mem_append_right _ (List.mem_append_right _ (mem_pinsAt hb e)))).2.1
      refine thn (hG _ s7 _ H7 x u (fun σ8 H8 => H8 = H7 ∧ ∃ δ8, Rel X.K ⟨G7, H7, M⟩ δ8 σ8 G7 H7 ∧ tt δ8 fun b δ3 => if b = true then te δ3 fun y δ4 => δ4.take δ1.length = pinO as 0 δ1 ∧ F d = some y else δ3.take δ1.length = pinO as 0 δ1 ∧ F d = none) I7' rx
        ⟨_, _, G7, d, _, Rin, dx, hF d (List.mem_of_getElem? hd) as, fun δ8 σ8 R8 q8 => ⟨rfl, δ8, R8, q8⟩⟩) fun _ s8 ⟨σ8, H8, I8, e8, δ8, R8, q8⟩ => ?_
      subst e8
      refine thn (hT _ s8 σ8 _ (fun b H9 => ∃ G9 δ9, Rel X.K ⟨G7, H8, M⟩ δ9 σ8 G9 H9 ∧ if b = true then te δ9 fun y δ4 => δ4.take δ1.length = pinO as 0 δ1 ∧ F d = some y else δ9.take δ1.length = pinO as 0 δ1 ∧ F d = none) I8 ⟨_, δ8, G7, _, R8, q8, fun b G9 H9 δ9 R9 _ q9 => ⟨G9, δ9, R9, q9⟩⟩) fun ok s9 ⟨H9, I9, G9, δ9, R9, q9⟩ => ?_
      cases ok with
      | false =>
        rw [if_neg Bool.false_ne_true] at q9 ⊢
        obtain ⟨k1, k2, k3⟩ := keep I9
        obtain ⟨w1, w2, w3, w4⟩ := back δ9 σ8 G9 H9 R9 q9.1
        refine ⟨items.length - (i + 1), by omega, i + 1, H9, G9, ws, hlt, rfl, k3, k1, k2, w4, sG5.trans (e7.gg.trans w3), w1, w2, ?_⟩
        rw [fm_take F items i d hd, q9.2]
        simpa using dl5.up (e7.gg.trans w3)
      | true =>
        rw [if_pos rfl] at q9 ⊢
        refine thn (hE _ s9 σ8 H9 (fun v H10 => ∃ G10 y, (∃ δ10, Rel X.K ⟨G7, H8, M⟩ δ10 σ8 G10 H10 ∧ δ10.take δ1.length = pinO as 0 δ1) ∧ Den X.K G10 v y ∧ F d = some y) I9 ⟨_, δ9, G9, _, R9, q9, fun v G10 H10 y δ10 R10 _ d10 q10 => ⟨G10, y, ⟨δ10, R10, q10.1⟩, d10, q10.2⟩⟩) fun xv s10 ⟨v, H10, I10, rv, G10, y, ⟨δ10, R10, hk10⟩, dv, hy⟩ => ?_
        obtain ⟨hD10, w2, w3, w4⟩ := back δ10 σ8 G10 H10 R10 hk10
        have lenw : ws.length < sizeLine := by
          have l1 := fm_le F items (i + 1)
          rw [fm_take F items i d hd, hy, List.length_append] at l1
          have l2 := dl5.length
          simp only [Option.toList_some, List.length_singleton] at l1
          omega
        refine thn (mt_append (X := cxComp X N' scope cl s₃.heap.objs.size fp s₃ H3) _ s10 σ8 H10 (.ref D₀) [v] (.ref D₀) [xv] (fun _ H' => H' = upd H10 D₀ (.lst (ws ++ [v]))) I10 rfl (.cons rv .nil) ⟨D₀, ws, v, rfl, rfl, hD10, lenw, rfl⟩) fun _ s11 ⟨_, H11, I11, _, e11⟩ => ?_
        subst e11
        obtain ⟨k1, k2, k3⟩ := keep I11
        refine ⟨items.length - (i + 1), by omega, i + 1, _, G10, ws ++ [v], hlt, rfl, k3, k1, k2, (by rw [del_upd]; exact w4), sG5.trans (e7.gg.trans w3), upd_same, w2, ?_⟩
        rw [fm_take F items i d hd, hy]
        exact (dl5.up (e7.gg.trans w3)).append (.cons dv .nil)
    · have ei : i = items.length := by omega
      subst ei
      refine thn (T.done (cxComp X N' scope cl s₃.heap.objs.size fp s₃ H3) rfl rfl rfl hc _ [] s5 _ H5 _ I5 (fpok fr5) st5 (j2.st _ G5 H5 sG5 R5.sub (Nat.le_refl _))) fun r s6 ⟨hr, I6⟩ => ?_
      subst hr
      obtain ⟨m, hm, _⟩ := I6.loc
      have Iin : Inv X pins σ H5 s6 := I3.call' (s' := s6) (ch := fp) I6.os (show Un (frs X.stack) fp H3 H5 s₃.heap s6.heap from I6.base) I6.hok I6.bare fun b hb => ⟨(f3 b hb).2.2.2.1, (f3 b hb).2.1, (f3 b hb).2.2.2.2.1, (f3 b hb).2.2.2.2.2⟩
      rw [List.take_length] at dl5
      exact fin D₀ s₃.heap.objs.size H5 s6 Iin (I3.fpOk (Nat.le_refl _) I6.free) ⟨m, hm⟩ (kk _ _ _ _ δ1 (R5'.know hD5) (sG2.trans (sG5.trans (same_upd gD5 _))) (.lst (SqL.of upd_same) (dl5.up (same_upd gD5 _))) hQ)
  rw [es4]
  exact codeAny_compStart_list (loop _ rfl) (T.self _ 0 _ _ _ (tn3 _ hk3) (loop _ rfl))
theorem de_compO {X : Cx} {elt iter target : Expr} {ifs : List Expr} {scope : Scope} {pos : Pos} {N' : List Str} (k : Nat) {ti : TId} {g : TGd} {tt : TTd} {te : TEd} (hc : X.calm = true) (hi : DI X target iter ti)
    (hb : ∀ (cl : List (Str × Addr)) (C : Addr) (ex : List Addr) (s : Shared) (H : Hp), DG (cxComp X N' scope cl C ex s H) target g ∧ DTs (cxComp X N' scope cl C ex s H) ifs tt ∧ DE (cxComp X N' scope cl C ex s H) elt te)
    (hkind : scope.kind = .function) (hnames : ∀ y ∈ scope.names, y.2 = .local → scope.names.lookup y.1 = some .local) (hnc : ∀ x, (x, NameKind.free) ∈ scope.names → (x, NameKind.cell) ∉ scope.names) (hN : N'.length = X.N.length + k)
    (hcap : ∀ (i : Nat) (x : Str), N'[i]? = some x → i < X.N.length → Vis (relabel scope X.env) x → X.N[i]? = some x ∧ scope.names.lookup x = some .free ∧ X.env.scope.names.lookup x = some .cell)
    (hfr : ∀ x ∈ scope.names, x.2 = NameKind.free → X.env.scope.names.lookup x.1 = some .cell)
    (hs : ∀ x, foldedSetIterable iter X.env x = pure x := by intro _; rfl) : DE X (.ListComp elt [⟨target, iter, ifs, 0⟩] scope pos) (dCompO k ti g tt te) := by
  rintro pins s σ H Q2 I q
  rw [eval_ListComp]
  exact comp_runO k hc hi hb hkind hnames hnc hN hcap hfr hs (use := none) I q fun D₀ C H' s6 I6 f ⟨m, hm⟩ q6 => ⟨m, hm, fun h' hs' => ⟨.ref D₀, H', comp_end I6 f hs', rfl, q6⟩⟩
theorem de_compKO {X : Cx} {elt iter target : Expr} {ifs : List Expr} {scope : Scope} {pos : Pos} (N' : List Str) (k : Nat) {ti : TId} {g : TGd} {tt : TTd} {te : TEd} (hc : X.calm = true) (hi : DI X target iter ti)
    (hb : ∀ (cl : List (Str × Addr)) (C : Addr) (ex : List Addr) (s : Shared) (H : Hp), DG (cxComp X N' scope cl C ex s H) target g ∧ DTs (cxComp X N' scope cl C ex s H) ifs tt ∧ DE (cxComp X N' scope cl C ex s H) elt te)
    (ok : compOk X.N X.env.scope N' scope k = true)
    (hs : ∀ x, foldedSetIterable iter X.env x = pure x := by intro _; rfl) : DE X (.ListComp elt [⟨target, iter, ifs, 0⟩] scope pos) (dCompO k ti g tt te) := by
  unfold compOk at ok
  simp only [Bool.and_eq_true, List.all_eq_true, Bool.or_eq_true, bne_iff_ne, ne_eq, beq_iff_eq] at ok
  obtain ⟨⟨⟨⟨⟨h1, h2⟩, h30⟩, h4⟩, h5⟩, h6⟩ := ok
  have h3 : ∀ x, (x, NameKind.free) ∈ scope.names → (x, NameKind.cell) ∉ scope.names := fun x hx hc => by
    have z := (h30 _ hx).resolve_left fun z => z rfl
    have w : (scope.names.any fun z => z.1 == x && z.2 == .cell) = true := List.any_eq_true.mpr ⟨_, hc, by simp⟩
    rw [w] at z; cases z
  refine de_compO k hc hi hb (by cases q : scope.kind <;> rw [q] at h1 <;> first | rfl | cases h1) (fun y hy hl => (h2 y hy).resolve_left fun z => z hl) h3 h4 (fun i x e hi hv => ?_) (fun x hx hf => (h5 x hx).resolve_left fun z => z hf) hs
  have h6' := h6 i (List.mem_range.mpr hi)
  rw [e] at h6'
  dsimp only at h6'
  have hv' : ∃ kd, scope.names.lookup x = some kd ∧ (kd = .local ∨ kd = .cell ∨ kd = .free) := by
    have kin : (relabel scope X.env).names.lookup x = _ := lookup_relabel
    unfold Vis at hv
    rw [kin] at hv
    cases q : scope.names.lookup x with
    | none => rw [q] at hv; simp at hv
    | some kd =>
      refine ⟨kd, rfl, ?_⟩
      rw [q] at hv
      cases kd <;> simp at hv ⊢
  obtain ⟨kd, hk, hkd⟩ := hv'
  rw [hk] at h6'
  rcases hkd with rfl | rfl | rfl
  · simp at h6'
  · simp at h6'
  · have e1 : X.N[i]? = some x := by simpa using h6'
    exact ⟨e1, hk, (h5 _ (mem_of_look hk)).resolve_left fun z => z rfl⟩
end Dl

local macro_rules | `(tactic| simp! only [$as,*] $[$loc]?) => `(tactic| simp only [$as,*, Dl.pinO, Dl.pinS, Dl.xKey, Dl.dSetK, Dl.dKApp, Dl.xKIx, Dl.dKSet, Dl.recOf, Dl.rlsOf, Dl.putRc, Dl.hasRc, Dl.dNeK, Dl.dEqK, Dl.dEqKV, Dl.xDe, Dl.pNil, Dl.pSh, Dl.pOw, Dl.dRec, Dl.dMkMeth, Dl.fFList, Dl.fMeth, Dl.dFrApp, Dl.rMeth, Dl.dMeth, Dl.dCallO, Dl.dMake, Dl.aNil, Dl.aCons, Dl.aAt', Dl.aAt, Dl.held, Dl.atsOf, Dl.inA, Dl.dX, Dl.xVar, Dl.xC, Dl.xFld, Dl.xOp, Dl.xNil, Dl.xCons, Dl.xTup, Dl.dSetF, Dl.dSetL, Dl.dFApp, Dl.dFIx, Dl.dFAug, Dl.dFList, Dl.fldOf, Dl.lstOf, Dl.putAt, Dl.fewOf, Dl.dAppM, Dl.dNeOw, Dl.setO, Dl.upA, Dl.startO, Dl.entO, Dl.slA, Dl.outO, Dl.outA, List.tail_cons, List.head?_cons, eq_self, decide_true, Bool.and_self, and_self, Dl.dSeq, Dl.dNext, Dl.dIfS, Dl.dB, Dl.dOp, Dl.dVar, Dl.dC, Dl.dLst, Dl.dTup, Dl.dNil, Dl.dCons, Dl.dRet, Dl.dRetN, Dl.dCall, Dl.cLen, Dl.cMax, Dl.cMin, Dl.cInt, Dl.cList, Dl.cTuple, Dl.dDrop, Dl.dSet, Dl.dOwn, Dl.dFrz, Dl.dApp, Dl.dAnd, Dl.dOr, Dl.dNot, Dl.dAndV, Dl.dOrV, Dl.dNotV, Dl.dIf, Dl.dNever, Dl.dTru, Dl.truD, Dl.rAddD, Dl.rII, Dl.rIC, Dl.rIxD, Dl.rEqD, Dl.rNeD, Dl.rIsN, Dl.rNotN, Dl.rInD, Dl.dSl, Dl.dPart, Dl.dNoPart, Dl.rSlD, Dl.dUn, Dl.rNegD, Dl.dBreak, Dl.dCont, Dl.dIsi, Dl.dRep, Dl.dChain, Dl.gdTup2, Dl.gdTup3, Dl.gdTup4, Dl.gdLst3, Dl.dAsg, Dl.dAug, Dl.dExt, Dl.cSum, Dl.dSlG, Dl.dSlS, Dl.cAll, Dl.cSorted, Dl.cSortSet, Dl.cMinL, Dl.cLenSet, Dl.diEnum, Dl.dSign, Dl.cMinD, Dl.diSigns, Dl.atS_int, Dl.dYes, Dl.dropOw, Dl.is_int_non, Dl.is_int_bl, Dl.is_int_int, Dl.is_int_str, Dl.is_int_tup, Dl.is_int_lst, Dl.is_bool_non, Dl.is_bool_bl, Dl.is_bool_int, Dl.is_bool_str, Dl.is_bool_tup, Dl.is_bool_lst, Dl.is_tuple_non, Dl.is_tuple_bl, Dl.is_tuple_int, Dl.is_tuple_str, Dl.is_tuple_tup, Dl.is_tuple_lst, Dl.is_list_non, Dl.is_list_bl, Dl.is_list_int, Dl.is_list_str, Dl.is_list_tup, Dl.is_list_lst, Dl.is_str_non, Dl.is_str_bl, Dl.is_str_int, Dl.is_str_str, Dl.is_str_tup, Dl.is_str_lst, Dl.diRange1, Dl.diRange2, Dl.gdName, Dl.diSeq, Dl.startD, List.map_cons, List.map_nil, List.length_cons, List.length_nil, List.cons_append, List.nil_append, List.replicate_zero, List.replicate_succ, Nat.reduceAdd, Nat.reduceSub, List.getElem?_cons_zero, List.getElem?_cons_succ, List.set_cons_zero, List.set_cons_succ, Bool.not_true, Bool.not_false, if_true, if_false, ite_true, ite_false, reduceCtorEq, Bool.false_eq_true, Dl.rF, Dl.rInF, Dl.cLenF, Dl.cIntF, Dl.cListF, Dl.cTupleF, Dl.diSeqF, Dl.dTruF, Dl.dSlF, Option.some.injEq, Dl.eqD_non_non, Dl.eqD_non_bl, Dl.eqD_non_int, Dl.eqD_non_str, Dl.eqD_non_tup, Dl.eqD_non_lst, Dl.eqD_bl_non, Dl.eqD_bl_bl, Dl.eqD_bl_int, Dl.eqD_bl_str, Dl.eqD_bl_tup, Dl.eqD_bl_lst, Dl.eqD_int_non, Dl.eqD_int_bl, Dl.eqD_int_int, Dl.eqD_int_str, Dl.eqD_int_tup, Dl.eqD_int_lst, Dl.eqD_str_non, Dl.eqD_str_bl, Dl.eqD_str_int, Dl.eqD_str_str, Dl.eqD_str_tup, Dl.eqD_str_lst, Dl.eqD_tup_non, Dl.eqD_tup_bl, Dl.eqD_tup_int, Dl.eqD_tup_str, Dl.eqD_tup_tup, Dl.eqD_tup_lst, Dl.eqD_lst_non, Dl.eqD_lst_bl, Dl.eqD_lst_int, Dl.eqD_lst_str, Dl.eqD_lst_tup, Dl.eqD_lst_lst, Dl.eqDL_nil_nil, Dl.eqDL_nil_cons, Dl.eqDL_cons_nil, Dl.eqDL_cons_cons, Dl.isNonD_non, Dl.isNonD_int, Dl.isNonD_bl, Dl.isNonD_str, Dl.isNonD_tup, Dl.isNonD_lst, Dl.addF_int, Dl.addF_tup, Dl.addF_lst, Dl.addF_str, Dl.ixF_tup, Dl.ixF_lst, Dl.seqF_tup, Dl.seqF_lst, Dl.lstF_lst, Dl.intF_int, Dl.intF_bl, Dl.truF_non, Dl.truF_bl, Dl.truF_int, Dl.truF_tup, Dl.truF_lst, Dl.slF_lst, Dl.slF_tup, Dl.slOk_lst, Dl.slOk_tup, exists_eq_left', Dl.atI_0, Dl.atI_1, Dl.atI_2, Dl.atI_3, Dl.atI_4, Dl.atI_5, false_and, exists_false, decide_eq_true_eq, Bool.not_eq_true, true_and, and_true, Bool.true_and, Bool.false_and, Bool.and_true, Bool.and_false, Dl.okEq_non_non, Dl.okEq_non_bl, Dl.okEq_non_int, Dl.okEq_bl_non, Dl.okEq_bl_bl, Dl.okEq_bl_int, Dl.okEq_int_non, Dl.okEq_int_bl, Dl.okEq_int_int, beq_iff_eq, beq_self_eq_true, beq_eq_false_iff_ne, Bool.not_eq_true', ne_eq, ite_not, decide_eq_false_iff_not, Dl.sz0, Dl.sz1, Dl.sz2, Dl.sz3, Dl.sz4, Dl.sz5, Dl.sz6, Dl.sz7, Dl.sz8, Dl.sz9, Dl.sz10, Dl.sz11, Dl.sz12, Dl.sz13, Dl.sz14, Dl.sz15, Dl.sz16, Dl.sz17, Dl.sz18, Dl.sz19, Dl.sz20, Dl.sz21, Dl.sz22, Dl.sz23, Dl.sz24, Dl.sz25, Dl.sz26, Dl.sz27, Dl.sz28, Dl.sz29, Dl.sz30] $[$loc]?)
namespace Law
open PySem L2 Dl

/-! ### draws from the script -/
theorem okL_ints : ∀ ns : List Int, D.okL (ns.map D.int) = true
  | [] => rfl
  | _ :: r => okL_ints r
theorem depL_ints : ∀ ns : List Int, D.depL (ns.map D.int) = 0
  | [] => rfl
  | _ :: r => by show max 0 (D.depL (r.map D.int)) = 0; rw [depL_ints r]; rfl
theorem atI_map {α : Type} {xs : List α} {i : Int} (f : α → D) (h0 : 0 ≤ i) (h1 : i < xs.length) : atI (xs.map f) i = some (f (xs[i.toNat]'(by omega))) := by
  have e : i = ((i.toNat : Nat) : Int) := by omega
  have q : atI (xs.map f) ((i.toNat : Nat) : Int) = some (f (xs[i.toNat]'(by omega))) := atI_nat (by rw [List.getElem?_map, List.getElem?_eq_getElem (by omega)]; rfl)
  rw [← e] at q
  exact q
def cell (ns : List Int) (k : Int) : Int := if ns = [] then 7 * k else ns.getD (k % ns.length).toNat 0 + 6553 * (k / ns.length)
def drawn (ns : List Int) (k m : Int) : Int :=
  (((cell ns k % 2147483563 * 69069 + 104723 * (k + 1)) % 2147483563 * ((cell ns k % 2147483563 * 69069 + 104723 * (k + 1)) % 2147483563) + (cell ns k % 2147483563 * 69069 + 104723 * (k + 1)) % 2147483563 / 3) % 2147483399 *
    (((cell ns k % 2147483563 * 69069 + 104723 * (k + 1)) % 2147483563 * ((cell ns k % 2147483563 * 69069 + 104723 * (k + 1)) % 2147483563) + (cell ns k % 2147483563 * 69069 + 104723 * (k + 1)) % 2147483563 / 3) % 2147483399) +
    ((cell ns k % 2147483563 * 69069 + 104723 * (k + 1)) % 2147483563 * ((cell ns k % 2147483563 * 69069 + 104723 * (k + 1)) % 2147483563) + (cell ns k % 2147483563 * 69069 + 104723 * (k + 1)) % 2147483563 / 3) % 2147483399 / 7) % 2147483647 / 11 % m
theorem drawn_lo {ns : List Int} {k m : Int} (hm : 0 < m) : 0 ≤ drawn ns k m := Int.emod_nonneg _ (by omega)
theorem drawn_hi {ns : List Int} {k m : Int} (hm : 0 < m) : drawn ns k m < m := Int.emod_lt_of_pos _ hm
abbrev scr (ns : List Int) : D := .lst (ns.map D.int)
def S_law_cell : SpD := fun ds Q => ∃ (ns : List Int) (k : Int), ds = [scr ns, .int k] ∧ ns.length ≤ 63 ∧ 0 ≤ k ∧ Q (.int (cell ns k))
theorem l_law_cell : ∀ ds Q, S_law_cell ds Q → ds.length = 2 := by rintro ds Q ⟨ns, k, rfl, _⟩; rfl
def S_law_drawn : SpD := fun ds Q => ∃ (ns : List Int) (k m : Int), ds = [scr ns, .int k, .int m] ∧ ns.length ≤ 63 ∧ 0 ≤ k ∧ 0 < m ∧ Q (.int (drawn ns k m))
theorem l_law_drawn : ∀ ds Q, S_law_drawn ds Q → ds.length = 3 := by rintro ds Q ⟨ns, k, m, rfl, _⟩; rfl
def t_law_cell : TSd := dSeq (dIfS (dB (dOp rEqD ((dVar 0)) ((dLst (dNil))))) (dRet ((dOp (rIC CMul fun i j => .int (i * j)) (dC (.int 7)) ((dVar 1))))) (dNext)) (dRet ((dOp (rF addF) ((dOp (rF ixF) ((dVar 0)) ((dOp (rIC (fun _ j => 0 < j) fun i j => .int (i % j)) ((dVar 1)) ((dCall cLenF ((dCons ((dVar 0)) (dNil))))))))) ((dOp (rIC CMul fun i j => .int (i * j)) (dC (.int 6553)) ((dOp (rIC CDiv fun i j => .int (i / j)) ((dVar 1)) ((dCall cLenF ((dCons ((dVar 0)) (dNil))))))))))))
theorem r_law_cell : ∀ ds Q, S_law_cell ds Q → t_law_cell { nx := fun _ => Q .non, rt := fun d _ => Q d } (startD ["_law_script", "_law_k"] ds) := by
  rintro ds Q ⟨ns, k, rfl, hl, hk, q⟩
  have he : okEq (scr ns) (.lst []) := ⟨okL_ints ns, rfl, by show min _ 1 ≤ 60; omega⟩
  cases ns with
  | nil =>
    simp only [cell, if_true] at q
    simp! only [t_law_cell]
    exact ⟨he, .inl (by decide), q⟩
  | cons n r =>
    have hp : (0 : Int) < ((n :: r).length : Int) := by simp only [List.length_cons]; omega
    have h0 : 0 ≤ k % ((n :: r).length : Int) := Int.emod_nonneg _ (by omega)
    have h1 : k % ((n :: r).length : Int) < ((n :: r).length : Int) := Int.emod_lt_of_pos _ hp
    have e : atI ((n :: r).map D.int) (k % (((n :: r).map D.int).length : Int)) = some (.int ((n :: r).getD (k % ((n :: r).length : Int)).toNat 0)) := by
      rw [List.length_map, atI_map D.int h0 h1]
      rw [List.getD_eq_getElem?_getD, List.getElem?_eq_getElem (by omega)]
      rfl
    simp only [cell, if_neg (List.cons_ne_nil n r)] at q
    have hs : ((n :: r).length : Int) ≤ 63 := by omega
    simp! only [t_law_cell, List.length_map] at e q hs hp ⊢
    exact ⟨he, hp, _, e, ⟨hp, by omega⟩, .inl ⟨by decide, by decide⟩, _, rfl, q⟩
def t_law_drawn : TSd := dSeq (dSet 3 ((dOp (rIC (fun _ j => 0 < j) fun i j => .int (i % j)) ((dOp (rF addF) ((dOp (rIC CMul fun i j => .int (i * j)) ((dOp (rIC (fun _ j => 0 < j) fun i j => .int (i % j)) ((dCall S_law_cell ((dCons ((dVar 0)) ((dCons ((dVar 1)) (dNil))))))) (dC (.int 2147483563)))) (dC (.int 69069)))) ((dOp (rIC CMul fun i j => .int (i * j)) (dC (.int 104723)) ((dOp (rF addF) ((dVar 1)) (dC (.int 1)))))))) (dC (.int 2147483563))))) (dSeq (dSet 3 ((dOp (rIC (fun _ j => 0 < j) fun i j => .int (i % j)) ((dOp (rF addF) ((dOp (rIC CMul fun i j => .int (i * j)) ((dVar 3)) ((dVar 3)))) ((dOp (rIC CDiv fun i j => .int (i / j)) ((dVar 3)) (dC (.int 3)))))) (dC (.int 2147483399))))) (dRet ((dOp (rIC (fun _ j => 0 < j) fun i j => .int (i % j)) ((dOp (rIC CDiv fun i j => .int (i / j)) ((dOp (rIC (fun _ j => 0 < j) fun i j => .int (i % j)) ((dOp (rF addF) ((dOp (rIC CMul fun i j => .int (i * j)) ((dVar 3)) ((dVar 3)))) ((dOp (rIC CDiv fun i j => .int (i / j)) ((dVar 3)) (dC (.int 7)))))) (dC (.int 2147483647)))) (dC (.int 11)))) ((dVar 2))))))
theorem mod_in {i m : Int} (h0 : 0 < m) (h1 : m < 2 ^ 64) : -(2 ^ 64) < i % m ∧ i % m < 2 ^ 64 := by
  have a := Int.emod_nonneg i (show m ≠ 0 by omega)
  have b := Int.emod_lt_of_pos i h0
  omega
theorem r_law_drawn : ∀ ds Q, S_law_drawn ds Q → t_law_drawn { nx := fun _ => Q .non, rt := fun d _ => Q d } (startD ["_law_script", "_law_k", "_law_many", "_law_cell_here"] ds) := by
  rintro ds Q ⟨ns, k, m, rfl, hl, hk, hm, q⟩
  simp! only [t_law_drawn]
  refine ⟨ns, k, rfl, hl, hk, by decide, .inl (mod_in (by decide) (by decide)), .inl ⟨by decide, by decide⟩, by decide, .inl (mod_in (by decide) (by decide)), ⟨by decide, by decide⟩, by decide,
    .inl (mod_in (by decide) (by decide)), ⟨by decide, by decide⟩, by decide, ⟨by decide, by decide⟩, hm, ?_⟩
  exact q
def S_law : SpD := fun ds Q => ∃ ns : List Int, ds = [scr ns] ∧ ns.length ≤ 63 ∧ Q (.bl true)
theorem l_law : ∀ ds Q, S_law ds Q → ds.length = 1 := by rintro ds Q ⟨_, rfl, _⟩; rfl
theorem use_drawn {ns : List Int} {k m : Int} {Q : D → Prop} (hl : ns.length ≤ 63) (hk : 0 ≤ k) (hm : 0 < m) (q : ∀ x, 0 ≤ x → x < m → Q (.int x)) : S_law_drawn [scr ns, .int k, .int m] Q :=
  ⟨ns, k, m, rfl, hl, hk, hm, q _ (drawn_lo hm) (drawn_hi hm)⟩
theorem rangeL_get {lo : Int} {n i : Nat} {d : D} (h : (rangeL lo n)[i]? = some d) : d = .int (lo + i) ∧ i < n := by
  unfold rangeL at h
  rw [List.getElem?_map] at h
  cases q : (List.range n)[i]? with
  | none => rw [q] at h; cases h
  | some j =>
    rw [q] at h
    have hj := List.getElem?_eq_some_iff.mp q
    obtain ⟨h1, h2⟩ := hj
    rw [List.length_range] at h1
    rw [List.getElem_range] at h2
    subst h2
    exact ⟨(Option.some.inj h).symm, h1⟩
theorem atI_mem {l : List D} {z : Int} (h0 : 0 ≤ z) (h1 : z < l.length) : ∃ d, atI l z = some d ∧ d ∈ l := by
  have e : z = ((z.toNat : Nat) : Int) := by omega
  have hl : z.toNat < l.length := by omega
  refine ⟨l[z.toNat], ?_, List.getElem_mem hl⟩
  have q : atI l ((z.toNat : Nat) : Int) = some l[z.toNat] := atI_nat (by rw [List.getElem?_eq_getElem hl])
  rw [← e] at q
  exact q
theorem okT {d e : D} (h : (d.ok && e.ok && Nat.ble (min d.dep e.dep) 60) = true) : okEq d e := by
  rw [Bool.and_eq_true, Bool.and_eq_true] at h
  exact ⟨h.1.1, h.1.2, Nat.le_of_ble_eq_true h.2⟩
def oi : Option Int → D
  | none => .non
  | some s => .int s
theorem oi_none : oi none = .non := rfl
theorem oi_some {s : Int} : oi (some s) = .int s := rfl
end Law

namespace Law
open PySem L2 Dl
/-! ### watches and timers -/
abbrev tm (size left : Int) (o : Option Int) : D := .tup [.str "timer", .int size, .int left, oi o]
abbrev wt (before : Int) (o : Option Int) (laps : D) : D := .tup [.int before, oi o, laps]
def okAt (o : Option Int) (now : Int) : Prop := ∀ s, o = some s → s ≤ now
def leftAt (left : Int) (o : Option Int) (now : Int) : Int := match o with
  | none => left
  | some s => max 0 (left - (now - s))
def shownAt (b : Int) (o : Option Int) (now : Int) : Int := match o with
  | none => b
  | some s => b + now - s
def nextT (left : Int) (o : Option Int) (now : Int) : Option Int := match o with
  | none => none
  | some s => if s + left ≤ now then none else some (s + left)
def whenAt (b : Int) (o : Option Int) (size : Int) : Option Int := match o with
  | none => none
  | some s => if size < b then none else some (s + size - b)
theorem okAt_none {t : Int} : okAt none t := fun s e => nomatch e
theorem okAt_some {s t : Int} (h : s ≤ t) : okAt (some s) t := fun s' e => by cases e; exact h
theorem okAt.mono {o : Option Int} {s t : Int} (h : okAt o s) (k : s ≤ t) : okAt o t := fun s' e => Int.le_trans (h s' e) k
def S_timer : SpD := fun ds Q => ∃ size, ds = [.int size] ∧ Q (tm size size none)
def S_fresh : SpD := fun ds Q => ds = [] ∧ Q (wt 0 none (.tup []))
def S_refuse_early : SpD := fun ds Q => ∃ o now, ds = [oi o, .int now] ∧ okAt o now ∧ Q .non
def S_left_at : SpD := fun ds Q => ∃ size left o now, ds = [tm size left o, .int now] ∧ okAt o now ∧ Q (.int (leftAt left o now))
def S_begun : SpD := fun ds Q => ∃ size left o now, ds = [tm size left o, .int now] ∧ okAt o now ∧ Q (tm size left (some (o.getD now)))
def S_stopped : SpD := fun ds Q => ∃ size left o now, ds = [tm size left o, .int now] ∧ okAt o now ∧ Q (tm size (leftAt left o now) none)
def S_now_if_running : SpD := fun ds Q => ∃ size left o now, ds = [tm size left o, .int now] ∧ Q (oi (o.map fun _ => now))
def S_anew : SpD := fun ds Q => ∃ size left o now, ds = [tm size left o, .int now] ∧ okAt o now ∧ Q (tm size size (o.map fun _ => now))
def S_longer : SpD := fun ds Q => ∃ size left o more now, ds = [tm size left o, .int more, .int now] ∧ okAt o now ∧ Q (tm size (max 0 (leftAt left o now + more)) (o.map fun _ => now))
def S_next_of_timer : SpD := fun ds Q => ∃ size left o now, ds = [tm size left o, .int now] ∧ Q (oi (nextT left o now))
def S_shown : SpD := fun ds Q => ∃ b o l now, ds = [wt b o l, .int now] ∧ okAt o now ∧ Q (.int (shownAt b o now))
def S_started : SpD := fun ds Q => ∃ b o l now, ds = [wt b o l, .int now] ∧ okAt o now ∧ Q (wt b (some (o.getD now)) l)
def S_halted : SpD := fun ds Q => ∃ b o l now, ds = [wt b o l, .int now] ∧ okAt o now ∧ Q (wt (shownAt b o now) none l)
def S_cleared : SpD := fun ds Q => ∃ b o l now, ds = [wt b o l, .int now] ∧ okAt o now ∧ Q (wt 0 (o.map fun _ => now) (.tup []))
def S_when_shown : SpD := fun ds Q => ∃ b o l size, ds = [wt b o l, .int size] ∧ Q (oi (whenAt b o size))
theorem l_timer : ∀ ds Q, S_timer ds Q → ds.length = 1 := by rintro ds Q ⟨_, rfl, _⟩; rfl
theorem l_fresh : ∀ ds Q, S_fresh ds Q → ds.length = 0 := by rintro ds Q ⟨rfl, _⟩; rfl
theorem l_refuse_early : ∀ ds Q, S_refuse_early ds Q → ds.length = 2 := by rintro ds Q ⟨_, _, rfl, _⟩; rfl
theorem l_left_at : ∀ ds Q, S_left_at ds Q → ds.length = 2 := by rintro ds Q ⟨_, _, _, _, rfl, _⟩; rfl
theorem l_begun : ∀ ds Q, S_begun ds Q → ds.length = 2 := by rintro ds Q ⟨_, _, _, _, rfl, _⟩; rfl
theorem l_stopped : ∀ ds Q, S_stopped ds Q → ds.length = 2 := by rintro ds Q ⟨_, _, _, _, rfl, _⟩; rfl
theorem l_now_if_running : ∀ ds Q, S_now_if_running ds Q → ds.length = 2 := by rintro ds Q ⟨_, _, _, _, rfl, _⟩; rfl
theorem l_anew : ∀ ds Q, S_anew ds Q → ds.length = 2 := by rintro ds Q ⟨_, _, _, _, rfl, _⟩; rfl
theorem l_longer : ∀ ds Q, S_longer ds Q → ds.length = 3 := by rintro ds Q ⟨_, _, _, _, _, rfl, _⟩; rfl
theorem l_next_of_timer : ∀ ds Q, S_next_of_timer ds Q → ds.length = 2 := by rintro ds Q ⟨_, _, _, _, rfl, _⟩; rfl
theorem l_shown : ∀ ds Q, S_shown ds Q → ds.length = 2 := by rintro ds Q ⟨_, _, _, _, rfl, _⟩; rfl
theorem l_started : ∀ ds Q, S_started ds Q → ds.length = 2 := by rintro ds Q ⟨_, _, _, _, rfl, _⟩; rfl
theorem l_halted : ∀ ds Q, S_halted ds Q → ds.length = 2 := by rintro ds Q ⟨_, _, _, _, rfl, _⟩; rfl
theorem l_cleared : ∀ ds Q, S_cleared ds Q → ds.length = 2 := by rintro ds Q ⟨_, _, _, _, rfl, _⟩; rfl
theorem l_when_shown : ∀ ds Q, S_when_shown ds Q → ds.length = 2 := by rintro ds Q ⟨_, _, _, _, rfl, _⟩; rfl
def t_refuse_early : TSd := dIfS (dAnd (dB (dOp rNotN ((dVar 0)) (dC .non))) (dB (dOp (rII fun i j => .bl (decide (i < j))) ((dVar 1)) ((dVar 0))))) (dNever) (dNext)
theorem r_refuse_early : ∀ ds Q, S_refuse_early ds Q → t_refuse_early { nx := fun _ => Q .non, rt := fun d _ => Q d } (startD ["earlier", "now"] ds) := by
  rintro ds Q ⟨o, now, rfl, h, q⟩
  cases o with
  | none => simp! only [t_refuse_early, oi_none, oi_some]; exact q
  | some s =>
    have := h s rfl
    simp! only [t_refuse_early, oi_none, oi_some]
    rw [if_neg (by simpa using this)]
    exact q
end Law

namespace Law
open PySem L2 Dl
/-! ### lists of iL as data -/
theorem dComp_by (items : List D) (δ1 : Ev) (F : D → Option D) {k : Nat} {ti : TId} {g : TGd} {tt : TTd} {te : TEd} {δ : Ev} {Q : D → Ev → Prop} (h0 : ∀ Q : List D → Ev → Prop, Q items δ1 → ti δ Q)
    (hF : ∀ d ∈ items, g d (dropOw δ1 ++ List.replicate k .no) fun δ2 => tt δ2 fun b δ3 => if b = true then te δ3 fun y _ => F d = some y else F d = none)
    (hl : (items.filterMap F).length ≤ sizeLine) (q : Q (.lst (items.filterMap F)) δ1) : dComp k ti g tt te δ Q := h0 _ ⟨F, hF, hl, q⟩
theorem dComp_at (items : List D) (F : D → Option D) {k : Nat} {ti : TId} {g : TGd} {tt : TTd} {te : TEd} {δ : Ev} {Q : D → Ev → Prop} (h0 : ∀ Q : List D → Ev → Prop, Q items δ → ti δ Q)
    (hF : ∀ d ∈ items, g d (dropOw δ ++ List.replicate k .no) fun δ2 => tt δ2 fun b δ3 => if b = true then te δ3 fun y _ => F d = some y else F d = none)
    (hl : (items.filterMap F).length ≤ sizeLine) (q : Q (.lst (items.filterMap F)) δ) : dComp k ti g tt te δ Q := h0 _ ⟨F, hF, hl, q⟩
theorem dSeqM_here {t u : TSd} {E : EndsD} {δ : Ev} (h1 : t { E with nx := fun δ' => δ' = δ } δ) (h2 : u E δ) : dSeqM t u E δ := ⟨fun δ' => δ' = δ, h1, fun δ' e => by subst e; exact h2⟩
theorem fm_map {α β : Type} {g : α → Option β} {h : α → β} : ∀ {l : List α}, (∀ a ∈ l, g a = some (h a)) → l.filterMap g = l.map h
  | [], _ => rfl
  | x :: l, H => by rw [List.filterMap_cons_some (H x List.mem_cons_self), fm_map fun a ha => H a (List.mem_cons_of_mem _ ha)]; rfl
theorem eqDL_ints : ∀ {l m : List Int}, eqDL (l.map D.int) (m.map D.int) = decide (l = m)
  | [], [] => rfl
  | [], _ :: _ => rfl
  | _ :: _, [] => rfl
  | x :: l, y :: m => by
    show (x == y && eqDL (l.map D.int) (m.map D.int)) = _
    rw [eqDL_ints]
    by_cases h : x = y
    · subst h; simp
    · have : (x == y) = false := by simpa using h
      simp [this, h]
theorem eqD_lstI {l m : List Int} : eqD (.lst (l.map D.int)) (.lst (m.map D.int)) = decide (l = m) := eqDL_ints
theorem eqD_tupI {l m : List Int} : eqD (.tup (l.map D.int)) (.tup (m.map D.int)) = decide (l = m) := eqDL_ints
theorem ok_lstI {l m : List Int} : okEq (.lst (l.map D.int)) (.lst (m.map D.int)) := ⟨okL_ints l, okL_ints m, by show min (D.depL _ + 1) (D.depL _ + 1) ≤ 60; rw [depL_ints, depL_ints]; decide⟩
theorem ok_tupI {l m : List Int} : okEq (.tup (l.map D.int)) (.tup (m.map D.int)) := ⟨okL_ints l, okL_ints m, by show min (D.depL _ + 1) (D.depL _ + 1) ≤ 60; rw [depL_ints, depL_ints]; decide⟩
theorem flat_rep {α : Type} (x : α) : ∀ n : Nat, (List.replicate n [x]).flatten = List.replicate n x
  | 0 => rfl
  | n + 1 => by rw [List.replicate_succ, List.flatten_cons, flat_rep x n]; rfl
theorem rep_ints (x : Int) (n : Nat) : List.replicate n (D.int x) = (List.replicate n x).map D.int := by rw [List.map_replicate]
/-- two lists walked together, a function of both -/
def zipF (g : Int → Int → D) : D → Option D
  | .tup [.int x, .int y] => some (g x y)
  | _ => none
theorem zipF_ints {g : Int → Int → D} : ∀ {l m : List Int}, (List.zipWith (fun x y => D.tup [x, y]) (l.map D.int) (m.map D.int)).filterMap (zipF g) = List.zipWith g l m
  | [], _ => by simp
  | _ :: _, [] => by simp
  | x :: l, y :: m => by
    show (D.tup [.int x, .int y] :: List.zipWith (fun x y => D.tup [x, y]) (l.map D.int) (m.map D.int)).filterMap (zipF g) = _
    rw [List.filterMap_cons_some (show zipF g (.tup [.int x, .int y]) = some (g x y) from rfl), zipF_ints]; rfl
theorem mem_zip {l m : List Int} {d : D} (h : d ∈ List.zipWith (fun x y => D.tup [x, y]) (l.map D.int) (m.map D.int)) : ∃ x y, d = .tup [.int x, .int y] ∧ x ∈ l ∧ y ∈ m := by
  induction l generalizing m with
  | nil => simp at h
  | cons x l ih =>
    cases m with
    | nil => simp at h
    | cons y m =>
      rcases List.mem_cons.mp h with rfl | h
      · exact ⟨x, y, rfl, List.mem_cons_self, List.mem_cons_self⟩
      · obtain ⟨a, b, e, h1, h2⟩ := ih h
        exact ⟨a, b, e, List.mem_cons_of_mem _ h1, List.mem_cons_of_mem _ h2⟩
theorem cut_1 {l : List D} (h : 1 ≤ l.length) : cutD l (some 1) none = l.drop 1 := by
  unfold cutD HT.sIx
  simp only
  rw [if_neg (by omega), show min (1 : Int).toNat l.length = 1 by have : (1 : Int).toNat = 1 := rfl; omega]
  rw [List.take_of_length_le]
  rw [List.length_drop]
  omega
theorem cut_take {l : List D} {m : Int} (h : 0 ≤ m) : cutD l none (some m) = l.take m.toNat := by
  unfold cutD HT.sIx
  simp only [List.drop_zero, Nat.sub_zero]
  rw [if_neg (by omega)]
  by_cases z : m.toNat ≤ l.length
  · rw [Nat.min_eq_left z]
  · rw [Nat.min_eq_right (by omega), List.take_of_length_le (Nat.le_refl _), List.take_of_length_le (by omega)]
theorem cut_drop {l : List D} {m : Int} (h : 0 ≤ m) : cutD l (some m) none = l.drop m.toNat := by
  unfold cutD HT.sIx
  simp only
  rw [if_neg (by omega)]
  by_cases z : m.toNat ≤ l.length
  · rw [Nat.min_eq_left z, List.take_of_length_le (by rw [List.length_drop]; omega)]
  · rw [Nat.min_eq_right (by omega), List.drop_of_length_le (Nat.le_refl _), List.drop_of_length_le (i := m.toNat) (by omega), List.take_nil]
theorem nodup_le {α : Type} [DecidableEq α] : ∀ {l m : List α}, l.Nodup → (∀ x ∈ l, x ∈ m) → l.length ≤ m.length
  | [], _, _, _ => Nat.zero_le _
  | x :: l, m, h, hs => by
    have h' := List.nodup_cons.mp h
    have := nodup_le (l := l) (m := m.erase x) h'.2 fun y hy => (List.mem_erase_of_ne (fun z => by subst z; exact h'.1 hy)).mpr (hs y (List.mem_cons_of_mem _ hy))
    rw [List.length_erase_of_mem (hs x List.mem_cons_self)] at this
    have : 0 < m.length := List.length_pos_of_mem (hs x List.mem_cons_self)
    rw [List.length_cons]
    omega
theorem atI_last {α : Type} {l : List α} {x : α} (h : l[l.length - 1]? = some x) : atI l (-1) = some x := by
  have hl : l.length - 1 < l.length := (List.getElem?_eq_some_iff.mp h).1
  unfold atI ixN
  rw [if_neg (by decide), if_pos (by omega), show (-1 + (l.length : Int)).toNat = l.length - 1 by omega]
  exact h
end Law

namespace Law
open PySem L2 Dl
/-! ### what refuses -/
def SR_refuse_early (ds : List D) : Prop := ∃ s now : Int, ds = [.int s, .int now] ∧ now < s
theorem lr_refuse_early : ∀ ds, SR_refuse_early ds → ds.length = 2 := by rintro ds ⟨_, _, rfl, _⟩; rfl
def q_refuse_early (Pk : Ev → Prop) : Ev → Prop := (fun δ => (dAnd (dB (dOp rNotN ((dVar 0)) (dC .non))) (dB (dOp (rII fun i j => .bl (decide (i < j))) ((dVar 1)) ((dVar 0))))) δ fun q δ1 => if q = true then Pk δ1 else (fun _ => False) δ1)
theorem rr_refuse_early : ∀ ds, SR_refuse_early ds → q_refuse_early (fun _ => True) (startD ["earlier", "now"] ds) := by
  rintro ds ⟨s, now, rfl, h⟩
  simp! only [q_refuse_early]
  exact ite2 (fun _ => trivial) fun z => absurd h z
def t_law_refused (ea : Nat) : TSd := dSeq (dSet 1 (dLst (dCons (dIsE 0 ea true) (dCons (dIsE 0 ea false) (dCons (dIsE 0 ea false) dNil))))) (dSeq (dSet 1 (dOp (rF addF) (dVar 1) (dLst (dCons (dIsE 0 ea false) dNil)))) (dSeq (dIfS (dOr (dB (dOp rNeD (dCnt (dVar 1)) (dC (.int 1)))) (dNot (dTruF (dIsE 0 ea true)))) dNever dNext) (dRet (dTup (dCons (dC (.str "refused")) (dCons (dFst (dVar 1)) dNil))))))
theorem rf_law_refused (ea : Nat) : t_law_refused ea { nx := fun _ => False, rt := fun d' _ => d' = .tup [.str "refused", .int 0] } (.pt ea :: List.replicate 1 .no) := by
  simp! only [t_law_refused, dIsE, dCnt, dFst, lstF_lst]
  refine ⟨[true, false, false, false], rfl, ?_⟩
  have e : ([true, false, false, false] : List Bool).count true = 1 := rfl
  simp! only [e]
  exact ⟨[true, false, false, false], rfl, by decide, by decide, rfl⟩
def okB (o : Option Int) (now : Int) : Bool := match o with
  | none => true
  | some s => decide (s ≤ now)
theorem okB_at {o : Option Int} {now : Int} (h : okB o now = true) : okAt o now := by
  cases o with
  | none => exact okAt_none
  | some s => exact okAt_some (of_decide_eq_true h)
theorem okRef : (D.tup [.str "refused", .int 0]).ok = true := by decide +kernel
--E
end Law

namespace Law
open PySem L2 Dl
/-! ### turns -/
theorem nd1 (i : Nat) : ([i] : List Nat).Nodup = True := eq_true (by simp)
theorem sizeLine_big {n : Nat} (h : n < 100000) : n < sizeLine := Nat.lt_of_lt_of_le h (by decide)
theorem oi_inj {a b : Option Int} (h : oi a = oi b) : a = b := by
  cases a <;> cases b <;> simp [oi] at h ⊢
  exact h
abbrev rowT (r : Int × Int) : D := .tup [.int r.1, .int r.2]
structure Ts where
  l0 : Int
  l1 : Int
  mo : Int
  la : Option Int
  sd : Option Int
  si : Option Int
  en : List (Int × Int)
def Ts.fs (t : Ts) : List (Str × Fl) := [("left", .ow [.int t.l0, .int t.l1]), ("more", .sh (.int t.mo)), ("latest", .sh (oi t.la)), ("side", .sh (oi t.sd)), ("since", .sh (oi t.si)), ("ended", .ow (t.en.map rowT))]
theorem rowT_inj : ∀ {l m : List (Int × Int)}, l.map rowT = m.map rowT → l = m
  | [], [], _ => rfl
  | [], _ :: _, h => by simp at h
  | _ :: _, [], h => by simp at h
  | (a, b) :: l, (d, e) :: m, h => by
    simp only [List.map_cons, List.cons.injEq, D.tup.injEq, D.int.injEq, and_true] at h
    obtain ⟨⟨rfl, rfl⟩, h⟩ := h
    rw [rowT_inj h]
theorem Ts.fs_inj {b c : Ts} (h : b.fs = c.fs) : b = c := by
  obtain ⟨a1, a2, a3, a4, a5, a6, a7⟩ := b
  obtain ⟨b1, b2, b3, b4, b5, b6, b7⟩ := c
  simp only [Ts.fs, List.cons.injEq, Prod.mk.injEq, Fl.sh.injEq, Fl.ow.injEq, true_and, and_true, D.int.injEq] at h
  obtain ⟨⟨rfl, rfl⟩, rfl, h2, h3, h4, h5⟩ := h
  rw [oi_inj h2, oi_inj h3, oi_inj h4, rowT_inj h5]
section
variable (b : Ts)
theorem Ts.f_le : b.fs.lookup ("left" : Str) = some (.ow [.int b.l0, .int b.l1]) := rfl
theorem Ts.f_mo : b.fs.lookup ("more" : Str) = some (.sh (.int b.mo)) := rfl
theorem Ts.f_la : b.fs.lookup ("latest" : Str) = some (.sh (oi b.la)) := rfl
theorem Ts.f_sd : b.fs.lookup ("side" : Str) = some (.sh (oi b.sd)) := rfl
theorem Ts.f_si : b.fs.lookup ("since" : Str) = some (.sh (oi b.si)) := rfl
theorem Ts.f_en : b.fs.lookup ("ended" : Str) = some (.ow (b.en.map rowT)) := rfl
theorem Ts.few : (b.fs.length < 999) = True := eq_true (by show 6 < 999; decide)
theorem Ts.p_le (x y : Int) : putFl "left" (.ow [.int x, .int y]) b.fs = Ts.fs { b with l0 := x, l1 := y } := rfl
theorem Ts.p_laI (x : Int) : putFl "latest" (.sh (.int x)) b.fs = Ts.fs { b with la := some x } := rfl
theorem Ts.p_sdI (x : Int) : putFl "side" (.sh (.int x)) b.fs = Ts.fs { b with sd := some x } := rfl
theorem Ts.p_siI (x : Int) : putFl "since" (.sh (.int x)) b.fs = Ts.fs { b with si := some x } := rfl
theorem Ts.p_en (l : List (Int × Int)) (r : Int × Int) : putFl "ended" (.ow (l.map rowT ++ [rowT r])) b.fs = Ts.fs { b with en := l ++ [r] } := by
  rw [show l.map rowT ++ [rowT r] = (l ++ [r]).map rowT by simp]
  rfl
theorem Ts.m_begin : b.fs.lookup ("begin" : Str) = none := rfl
theorem Ts.m_press : b.fs.lookup ("press" : Str) = none := rfl
theorem Ts.m_left_of : b.fs.lookup ("left_of" : Str) = none := rfl
theorem Ts.m_fell : b.fs.lookup ("fell" : Str) = none := rfl
theorem Ts.m_running : b.fs.lookup ("running" : Str) = none := rfl
theorem Ts.m_turns : b.fs.lookup ("turns" : Str) = none := rfl
theorem Ts.m_hear_of : b.fs.lookup ("hear_of" : Str) = none := rfl
theorem Ts.m_has_fallen : b.fs.lookup ("has_fallen" : Str) = none := rfl
theorem Ts.m_fall : b.fs.lookup ("fall" : Str) = none := rfl
end
/-- what the side has -/
def Ts.lf (t : Ts) (s : Int) : Int := if s = 0 then t.l0 else t.l1
def Ts.setL (t : Ts) (s x : Int) : Ts := if s = 0 then { t with l0 := x } else { t with l1 := x }
def two (s : Int) : Prop := s = 0 ∨ s = 1
/-- a side runs since then -/
structure Ts.runs (t : Ts) (s x : Int) : Prop where
  sd : t.sd = some s
  si : t.si = some x
  tw : two s
/-- both or none -/
def Ts.wf (t : Ts) : Prop := (t.sd = none ∧ t.si = none) ∨ ∃ s x, t.runs s x
def Ts.fallen (t : Ts) (now : Int) : Bool := match t.sd, t.si with
  | some s, some x => decide (x + t.lf s ≤ now)
  | _, _ => false
def Ts.hear (t : Ts) (now : Int) : Ts := { t with la := some now }
def Ts.pressB (t : Ts) (now : Int) : Bool × Ts := match t.sd, t.si with
  | some s, some x => if x + t.lf s ≤ now then (false, t.hear now) else (true, { ((t.hear now).setL s (t.lf s + (t.mo - (now - x)))) with en := t.en ++ [(s, now - x)], sd := some (1 - s), si := some now })
  | _, _ => (false, t.hear now)
def Ts.leftB (t : Ts) (s now : Int) : Int := match t.sd, t.si with
  | some z, some x => if s = z then max 0 (t.lf s - (now - x)) else t.lf s
  | _, _ => t.lf s
def Ts.fellB (t : Ts) (now : Int) : D := match t.sd, t.si with
  | some s, some x => if x + t.lf s ≤ now then .tup [.int s, .int (x + t.lf s)] else .non
  | _, _ => .non
def Ts.runB (t : Ts) (now : Int) : D := match t.sd, t.si with
  | some s, some x => if x + t.lf s ≤ now then .non else .int s
  | _, _ => .non
def Ts.ok (t : Ts) (now : Int) : Prop := t.wf ∧ okAt t.la now ∧ t.en.length < 1000
def S_Turns_init (C : Nat) : SpO := fun as Q => ∃ a b m : Int, as = [.o C [], .v (.int a), .v (.int b), .v (.int m)] ∧ Q .non [.o C (Ts.fs ⟨a, b, m, none, none, none, []⟩), .v (.int a), .v (.int b), .v (.int m)]
def S_Turns_hear_of (C : Nat) : SpO := fun as Q => ∃ (t : Ts) (now : Int), as = [.o C t.fs, .v (.int now)] ∧ okAt t.la now ∧ Q .non [.o C (t.hear now).fs, .v (.int now)]
def S_Turns_fall (C : Nat) : SpO := fun as Q => ∃ (t : Ts) (s x : Int), as = [.o C t.fs] ∧ t.runs s x ∧ Q (.int (x + t.lf s)) [.o C t.fs]
def S_Turns_has_fallen (C : Nat) : SpO := fun as Q => ∃ (t : Ts) (now : Int), as = [.o C t.fs, .v (.int now)] ∧ t.wf ∧ Q (.bl (t.fallen now)) [.o C t.fs, .v (.int now)]
def S_Turns_press (C : Nat) : SpO := fun as Q => ∃ (t : Ts) (now : Int), as = [.o C t.fs, .v (.int now)] ∧ t.ok now ∧ Q (.bl (t.pressB now).1) [.o C (t.pressB now).2.fs, .v (.int now)]
def S_Turns_begin (C : Nat) : SpO := fun as Q => ∃ (t : Ts) (s now : Int), as = [.o C t.fs, .v (.int s), .v (.int now)] ∧ t.ok now ∧ Q (.bl t.sd.isNone) [.o C (if t.sd.isNone = true then { t.hear now with sd := some s, si := some now } else t.hear now).fs, .v (.int s), .v (.int now)]
def S_Turns_left_of (C : Nat) : SpO := fun as Q => ∃ (t : Ts) (s now : Int), as = [.o C t.fs, .v (.int s), .v (.int now)] ∧ two s ∧ t.ok now ∧ Q (.int (t.leftB s now)) [.o C (t.hear now).fs, .v (.int s), .v (.int now)]
def S_Turns_fell (C : Nat) : SpO := fun as Q => ∃ (t : Ts) (now : Int), as = [.o C t.fs, .v (.int now)] ∧ t.ok now ∧ Q (t.fellB now) [.o C (t.hear now).fs, .v (.int now)]
def S_Turns_running (C : Nat) : SpO := fun as Q => ∃ (t : Ts) (now : Int), as = [.o C t.fs, .v (.int now)] ∧ t.ok now ∧ Q (t.runB now) [.o C (t.hear now).fs, .v (.int now)]
def S_Turns_turns (C : Nat) : SpO := fun as Q => ∃ t : Ts, as = [.o C t.fs] ∧ Q (.lst (t.en.map rowT)) [.o C t.fs]
section
variable {C : Nat} {t : Ts} {now s : Int} {Q : D → List Ar → Prop}
theorem oT_inj {b c : Ts} (h : Ar.o C b.fs = Ar.o C c.fs) : b = c := Ts.fs_inj (by simpa using h)
theorem sT_hear_of : S_Turns_hear_of C [.o C t.fs, .v (.int now)] Q ↔ okAt t.la now ∧ Q .non [.o C (t.hear now).fs, .v (.int now)] := by
  refine ⟨?_, fun h => ⟨t, now, rfl, h⟩⟩
  rintro ⟨b', now', e, h⟩
  simp only [List.cons.injEq, Ar.v.injEq, D.int.injEq, and_true] at e
  obtain ⟨e1, rfl⟩ := e
  cases oT_inj e1; exact h
theorem sT_has_fallen : S_Turns_has_fallen C [.o C t.fs, .v (.int now)] Q ↔ t.wf ∧ Q (.bl (t.fallen now)) [.o C t.fs, .v (.int now)] := by
  refine ⟨?_, fun h => ⟨t, now, rfl, h⟩⟩
  rintro ⟨b', now', e, h⟩
  simp only [List.cons.injEq, Ar.v.injEq, D.int.injEq, and_true] at e
  obtain ⟨e1, rfl⟩ := e
  cases oT_inj e1; exact h
theorem sT_press : S_Turns_press C [.o C t.fs, .v (.int now)] Q ↔ t.ok now ∧ Q (.bl (t.pressB now).1) [.o C (t.pressB now).2.fs, .v (.int now)] := by
  refine ⟨?_, fun h => ⟨t, now, rfl, h⟩⟩
  rintro ⟨b', now', e, h⟩
  simp only [List.cons.injEq, Ar.v.injEq, D.int.injEq, and_true] at e
  obtain ⟨e1, rfl⟩ := e
  cases oT_inj e1; exact h
theorem sT_fell : S_Turns_fell C [.o C t.fs, .v (.int now)] Q ↔ t.ok now ∧ Q (t.fellB now) [.o C (t.hear now).fs, .v (.int now)] := by
  refine ⟨?_, fun h => ⟨t, now, rfl, h⟩⟩
  rintro ⟨b', now', e, h⟩
  simp only [List.cons.injEq, Ar.v.injEq, D.int.injEq, and_true] at e
  obtain ⟨e1, rfl⟩ := e
  cases oT_inj e1; exact h
theorem sT_running : S_Turns_running C [.o C t.fs, .v (.int now)] Q ↔ t.ok now ∧ Q (t.runB now) [.o C (t.hear now).fs, .v (.int now)] := by
  refine ⟨?_, fun h => ⟨t, now, rfl, h⟩⟩
  rintro ⟨b', now', e, h⟩
  simp only [List.cons.injEq, Ar.v.injEq, D.int.injEq, and_true] at e
  obtain ⟨e1, rfl⟩ := e
  cases oT_inj e1; exact h
theorem sT_begin : S_Turns_begin C [.o C t.fs, .v (.int s), .v (.int now)] Q ↔ t.ok now ∧ Q (.bl t.sd.isNone) [.o C (if t.sd.isNone = true then { t.hear now with sd := some s, si := some now } else t.hear now).fs, .v (.int s), .v (.int now)] := by
  refine ⟨?_, fun h => ⟨t, s, now, rfl, h⟩⟩
  rintro ⟨b', s', now', e, h⟩
  simp only [List.cons.injEq, Ar.v.injEq, D.int.injEq, and_true] at e
  obtain ⟨e1, rfl, rfl⟩ := e
  cases oT_inj e1; exact h
theorem sT_left_of : S_Turns_left_of C [.o C t.fs, .v (.int s), .v (.int now)] Q ↔ two s ∧ t.ok now ∧ Q (.int (t.leftB s now)) [.o C (t.hear now).fs, .v (.int s), .v (.int now)] := by
  refine ⟨?_, fun h => ⟨t, s, now, rfl, h⟩⟩
  rintro ⟨b', s', now', e, h⟩
  simp only [List.cons.injEq, Ar.v.injEq, D.int.injEq, and_true] at e
  obtain ⟨e1, rfl, rfl⟩ := e
  cases oT_inj e1; exact h
theorem sT_turns : S_Turns_turns C [.o C t.fs] Q ↔ Q (.lst (t.en.map rowT)) [.o C t.fs] := by
  refine ⟨?_, fun h => ⟨t, rfl, h⟩⟩
  rintro ⟨b', e, h⟩
  simp only [List.cons.injEq, and_true] at e
  cases oT_inj e; exact h
theorem sT_init {a b m : Int} : S_Turns_init C [.o C [], .v (.int a), .v (.int b), .v (.int m)] Q ↔ Q .non [.o C (Ts.fs ⟨a, b, m, none, none, none, []⟩), .v (.int a), .v (.int b), .v (.int m)] := by
  refine ⟨?_, fun h => ⟨a, b, m, rfl, h⟩⟩
  rintro ⟨a', b', m', e, h⟩
  simp only [List.cons.injEq, Ar.v.injEq, D.int.injEq, and_true, true_and] at e
  obtain ⟨rfl, rfl, rfl⟩ := e; exact h
end
theorem l_Turns_init (C : Nat) : ∀ as Q, S_Turns_init C as Q → as.length = 4 := by rintro as Q ⟨_, _, _, rfl, _⟩; rfl
theorem l_Turns_hear_of (C : Nat) : ∀ as Q, S_Turns_hear_of C as Q → as.length = 2 := by rintro as Q ⟨_, _, rfl, _⟩; rfl
theorem l_Turns_fall (C : Nat) : ∀ as Q, S_Turns_fall C as Q → as.length = 1 := by rintro as Q ⟨_, _, _, rfl, _⟩; rfl
theorem l_Turns_has_fallen (C : Nat) : ∀ as Q, S_Turns_has_fallen C as Q → as.length = 2 := by rintro as Q ⟨_, _, rfl, _⟩; rfl
theorem l_Turns_press (C : Nat) : ∀ as Q, S_Turns_press C as Q → as.length = 2 := by rintro as Q ⟨_, _, rfl, _⟩; rfl
theorem l_Turns_begin (C : Nat) : ∀ as Q, S_Turns_begin C as Q → as.length = 3 := by rintro as Q ⟨_, _, _, rfl, _⟩; rfl
theorem l_Turns_left_of (C : Nat) : ∀ as Q, S_Turns_left_of C as Q → as.length = 3 := by rintro as Q ⟨_, _, _, rfl, _⟩; rfl
theorem l_Turns_fell (C : Nat) : ∀ as Q, S_Turns_fell C as Q → as.length = 2 := by rintro as Q ⟨_, _, rfl, _⟩; rfl
theorem l_Turns_running (C : Nat) : ∀ as Q, S_Turns_running C as Q → as.length = 2 := by rintro as Q ⟨_, _, rfl, _⟩; rfl
theorem l_Turns_turns (C : Nat) : ∀ as Q, S_Turns_turns C as Q → as.length = 1 := by rintro as Q ⟨_, rfl, _⟩; rfl
theorem ix_two {a b s : Int} (h : two s) : atI [D.int a, D.int b] s = some (.int (if s = 0 then a else b)) := by
  rcases h with rfl | rfl <;> rfl
theorem hear_wf {t : Ts} {now : Int} (h : t.wf) : (t.hear now).wf := by
  rcases h with h | ⟨s, x, h1, h2, h3⟩
  · exact .inl h
  · exact .inr ⟨s, x, h1, h2, h3⟩
def t_Turns_init_5 (c_Turns : Nat) : TSd := dSetL c_Turns 0 "ended" (dNil)
def t_Turns_init_4 (c_Turns : Nat) : TSd := dSeq (dSetF c_Turns 0 "since" (dC .non)) ((t_Turns_init_5 c_Turns))
def t_Turns_init_3 (c_Turns : Nat) : TSd := dSeq (dSetF c_Turns 0 "side" (dC .non)) ((t_Turns_init_4 c_Turns))
def t_Turns_init_2 (c_Turns : Nat) : TSd := dSeq (dSetF c_Turns 0 "latest" (dC .non)) ((t_Turns_init_3 c_Turns))
def t_Turns_init_1 (c_Turns : Nat) : TSd := dSeq (dSetF c_Turns 0 "more" ((dVar 3))) ((t_Turns_init_2 c_Turns))
def t_Turns_init (c_Turns : Nat) : TSd := dSeq (dSetL c_Turns 0 "left" ((dCons ((dVar 1)) ((dCons ((dVar 2)) (dNil)))))) ((t_Turns_init_1 c_Turns))
theorem r_Turns_init (C : Nat) : ∀ (hs : Nat → Nat) as Q, S_Turns_init C as Q → t_Turns_init C { nx := fun δ => Q .non (outO hs 0 as δ), rt := fun d δ => Q d (outO hs 0 as δ) } (startO ["self", "one", "other", "more"] hs as) := by
  rintro hs as Q ⟨a, b, m, rfl, q⟩
  simp! only [t_Turns_init, t_Turns_init_1, t_Turns_init_2, t_Turns_init_3, t_Turns_init_4, t_Turns_init_5]
  exact ⟨by decide, (by show (1 : Nat) < 999; decide), (by show (2 : Nat) < 999; decide), (by show (3 : Nat) < 999; decide), (by show (4 : Nat) < 999; decide), (by show (5 : Nat) < 999; decide), q⟩
def t_Turns_hear_of (c_Turns : Nat) : TSd := dSeq (dDrop ((dCall S_refuse_early ((dCons ((dX ((xFld c_Turns 0 "latest")))) ((dCons ((dVar 1)) (dNil)))))))) (dSetF c_Turns 0 "latest" ((dVar 1)))
theorem r_Turns_hear_of (C : Nat) : ∀ (hs : Nat → Nat) as Q, S_Turns_hear_of C as Q → t_Turns_hear_of C { nx := fun δ => Q .non (outO hs 0 as δ), rt := fun d δ => Q d (outO hs 0 as δ) } (startO ["self", "now"] hs as) := by
  rintro hs as Q ⟨t, now, rfl, ha, q⟩
  simp! only [t_Turns_hear_of, nd1, Ts.f_le, Ts.f_mo, Ts.f_la, Ts.f_sd, Ts.f_si, Ts.f_en, Ts.few, Ts.p_le, Ts.p_laI, Ts.p_sdI, Ts.p_siI, Ts.m_begin, Ts.m_press, Ts.m_left_of, Ts.m_fell, Ts.m_running, Ts.m_turns, Ts.m_hear_of, Ts.m_has_fallen, Ts.m_fall, sT_hear_of, sT_has_fallen, sT_press, sT_begin, sT_left_of, sT_fell, sT_running, sT_turns, sT_init]
  exact ⟨t.la, now, rfl, ha, q⟩
def t_Turns_fall (c_Turns : Nat) : TSd := dRet ((dOp (rF addF) ((dX ((xFld c_Turns 0 "since")))) ((dX ((dFIx c_Turns 0 "left" ((xFld c_Turns 0 "side"))))))))
theorem r_Turns_fall (C : Nat) : ∀ (hs : Nat → Nat) as Q, S_Turns_fall C as Q → t_Turns_fall C { nx := fun δ => Q .non (outO hs 0 as δ), rt := fun d δ => Q d (outO hs 0 as δ) } (startO ["self"] hs as) := by
  rintro hs as Q ⟨t, s, x, rfl, ⟨h1, h2, h3⟩, q⟩
  simp! only [t_Turns_fall, nd1, Ts.f_le, Ts.f_mo, Ts.f_la, Ts.f_sd, Ts.f_si, Ts.f_en, Ts.few, Ts.p_le, Ts.p_laI, Ts.p_sdI, Ts.p_siI, Ts.m_begin, Ts.m_press, Ts.m_left_of, Ts.m_fell, Ts.m_running, Ts.m_turns, Ts.m_hear_of, Ts.m_has_fallen, Ts.m_fall, sT_hear_of, sT_has_fallen, sT_press, sT_begin, sT_left_of, sT_fell, sT_running, sT_turns, sT_init, h1, h2, oi_some, ix_two h3]
  exact q
def t_Turns_has_fallen (c_Turns : Nat) : TSd := dRet ((dAndV ((dOp rNotN ((dX ((xFld c_Turns 0 "side")))) (dC .non))) ((dOp (rII fun i j => .bl (decide (i ≤ j))) ((dMeth 0 c_Turns "fall" (S_Turns_fall c_Turns) (aNil))) ((dVar 1))))))
theorem r_Turns_has_fallen (C : Nat) : ∀ (hs : Nat → Nat) as Q, S_Turns_has_fallen C as Q → t_Turns_has_fallen C { nx := fun δ => Q .non (outO hs 0 as δ), rt := fun d δ => Q d (outO hs 0 as δ) } (startO ["self", "now"] hs as) := by
  rintro hs as Q ⟨t, now, rfl, hw, q⟩
  simp! only [t_Turns_has_fallen, nd1, Ts.f_le, Ts.f_mo, Ts.f_la, Ts.f_sd, Ts.f_si, Ts.f_en, Ts.few, Ts.p_le, Ts.p_laI, Ts.p_sdI, Ts.p_siI, Ts.m_begin, Ts.m_press, Ts.m_left_of, Ts.m_fell, Ts.m_running, Ts.m_turns, Ts.m_hear_of, Ts.m_has_fallen, Ts.m_fall, sT_hear_of, sT_has_fallen, sT_press, sT_begin, sT_left_of, sT_fell, sT_running, sT_turns, sT_init]
  rcases hw with ⟨h1, h2⟩ | ⟨s, x, h⟩
  · simp only [Ts.fallen, h1] at q
    simp! only [h1, oi_none]
    exact q
  · simp only [Ts.fallen, h.sd, h.si] at q
    simp! only [h.sd, oi_some, nd1, Ts.f_le, Ts.f_mo, Ts.f_la, Ts.f_sd, Ts.f_si, Ts.f_en, Ts.few, Ts.p_le, Ts.p_laI, Ts.p_sdI, Ts.p_siI, Ts.m_begin, Ts.m_press, Ts.m_left_of, Ts.m_fell, Ts.m_running, Ts.m_turns, Ts.m_hear_of, Ts.m_has_fallen, Ts.m_fall, sT_hear_of, sT_has_fallen, sT_press, sT_begin, sT_left_of, sT_fell, sT_running, sT_turns, sT_init]
    refine ⟨t, s, x, rfl, h, ?_⟩
    simp! only [Dl.dSeq]
    exact q
def t_Turns_press_7 (c_Turns : Nat) : TSd := dRet (dC (.bl true))
def t_Turns_press_6 (c_Turns : Nat) : TSd := dSeq (dSetF c_Turns 0 "since" ((dVar 1))) ((t_Turns_press_7 c_Turns))
def t_Turns_press_5 (c_Turns : Nat) : TSd := dSeq (dSetF c_Turns 0 "side" ((dOp (rII fun i j => .int (i - j)) (dC (.int 1)) ((dX ((xFld c_Turns 0 "side"))))))) ((t_Turns_press_6 c_Turns))
def t_Turns_press_4 (c_Turns : Nat) : TSd := dSeq (dFApp c_Turns 0 "ended" ((xTup ((xCons ((xFld c_Turns 0 "side")) ((xCons ((xVar 2)) (xNil)))))))) ((t_Turns_press_5 c_Turns))
def t_Turns_press_3 (c_Turns : Nat) : TSd := dSeq (dFAug c_Turns 0 "left" (fun i j => i + j) ((xFld c_Turns 0 "side")) ((xOp (rII fun i j => .int (i - j)) ((xFld c_Turns 0 "more")) ((xVar 2))))) ((t_Turns_press_4 c_Turns))
def t_Turns_press_2 (c_Turns : Nat) : TSd := dSeq (dSet 2 ((dOp (rII fun i j => .int (i - j)) ((dVar 1)) ((dX ((xFld c_Turns 0 "since"))))))) ((t_Turns_press_3 c_Turns))
def t_Turns_press_1 (c_Turns : Nat) : TSd := dSeq (dIfS (dOr (dB (dOp rIsN ((dX ((xFld c_Turns 0 "side")))) (dC .non))) (dTruF ((dMeth 0 c_Turns "has_fallen" (S_Turns_has_fallen c_Turns) ((aCons ((dVar 1)) (aNil))))))) (dRet (dC (.bl false))) (dNext)) ((t_Turns_press_2 c_Turns))
def t_Turns_press (c_Turns : Nat) : TSd := dSeq (dDrop ((dMeth 0 c_Turns "hear_of" (S_Turns_hear_of c_Turns) ((aCons ((dVar 1)) (aNil)))))) ((t_Turns_press_1 c_Turns))
theorem r_Turns_press (C : Nat) : ∀ (hs : Nat → Nat) as Q, S_Turns_press C as Q → t_Turns_press C { nx := fun δ => Q .non (outO hs 0 as δ), rt := fun d δ => Q d (outO hs 0 as δ) } (startO ["self", "now", "took"] hs as) := by
  rintro hs as Q ⟨t, now, rfl, ⟨hw, ha, hl⟩, q⟩
  simp! only [t_Turns_press, t_Turns_press_1, nd1, Ts.f_le, Ts.f_mo, Ts.f_la, Ts.f_sd, Ts.f_si, Ts.f_en, Ts.few, Ts.p_le, Ts.p_laI, Ts.p_sdI, Ts.p_siI, Ts.m_begin, Ts.m_press, Ts.m_left_of, Ts.m_fell, Ts.m_running, Ts.m_turns, Ts.m_hear_of, Ts.m_has_fallen, Ts.m_fall, sT_hear_of, sT_has_fallen, sT_press, sT_begin, sT_left_of, sT_fell, sT_running, sT_turns, sT_init]
  refine ⟨ha, ?_⟩
  rcases hw with ⟨h1, h2⟩ | ⟨s, x, h⟩
  · simp only [Ts.pressB, h1] at q
    have e : (t.hear now).sd = none := h1
    simp! only [e, oi_none]
    exact q
  · have e : (t.hear now).sd = some s := h.sd
    have e2 : (t.hear now).si = some x := h.si
    have e3 : (t.hear now).mo = t.mo := rfl
    have e4 : (t.hear now).en = t.en := rfl
    simp only [Ts.pressB, h.sd, h.si] at q
    simp! only [e, oi_some, nd1, Ts.f_le, Ts.f_mo, Ts.f_la, Ts.f_sd, Ts.f_si, Ts.f_en, Ts.few, Ts.p_le, Ts.p_laI, Ts.p_sdI, Ts.p_siI, Ts.m_begin, Ts.m_press, Ts.m_left_of, Ts.m_fell, Ts.m_running, Ts.m_turns, Ts.m_hear_of, Ts.m_has_fallen, Ts.m_fall, sT_hear_of, sT_has_fallen, sT_press, sT_begin, sT_left_of, sT_fell, sT_running, sT_turns, sT_init]
    refine ⟨hear_wf (.inr ⟨s, x, h⟩), ?_⟩
    have ef : (t.hear now).fallen now = decide (x + t.lf s ≤ now) := by simp only [Ts.fallen, e, e2]; rfl
    by_cases hf : x + t.lf s ≤ now
    · rw [if_pos hf] at q
      rw [ef, decide_eq_true hf]
      simp! only [Dl.dSeq]
      exact q
    · rw [if_neg hf] at q
      rw [ef, decide_eq_false hf]
      simp! only [t_Turns_press_2, t_Turns_press_3, t_Turns_press_4, t_Turns_press_5, t_Turns_press_6, t_Turns_press_7, nd1, Ts.f_le, Ts.f_mo, Ts.f_la, Ts.f_sd, Ts.f_si, Ts.f_en, Ts.few, Ts.p_le, Ts.p_laI, Ts.p_sdI, Ts.p_siI, Ts.m_begin, Ts.m_press, Ts.m_left_of, Ts.m_fell, Ts.m_running, Ts.m_turns, Ts.m_hear_of, Ts.m_has_fallen, Ts.m_fall, sT_hear_of, sT_has_fallen, sT_press, sT_begin, sT_left_of, sT_fell, sT_running, sT_turns, sT_init, e, e2, e3, oi_some, ix_two h.tw]
      rcases h.tw with rfl | rfl
      · refine ⟨0, _, rfl, rfl, ?_⟩
        simp! only [List.set_cons_zero, nd1, Ts.f_le, Ts.f_mo, Ts.f_la, Ts.f_sd, Ts.f_si, Ts.f_en, Ts.few, Ts.p_le, Ts.p_laI, Ts.p_sdI, Ts.p_siI, Ts.m_begin, Ts.m_press, Ts.m_left_of, Ts.m_fell, Ts.m_running, Ts.m_turns, Ts.m_hear_of, Ts.m_has_fallen, Ts.m_fall, sT_hear_of, sT_has_fallen, sT_press, sT_begin, sT_left_of, sT_fell, sT_running, sT_turns, sT_init, e, oi_some, e4, List.length_map]
        refine ⟨sizeLine_big (by omega), ?_⟩
        rw [Ts.p_en _ t.en (0, now - x)]
        simp! only [nd1, Ts.f_le, Ts.f_mo, Ts.f_la, Ts.f_sd, Ts.f_si, Ts.f_en, Ts.few, Ts.p_le, Ts.p_laI, Ts.p_sdI, Ts.p_siI, Ts.m_begin, Ts.m_press, Ts.m_left_of, Ts.m_fell, Ts.m_running, Ts.m_turns, Ts.m_hear_of, Ts.m_has_fallen, Ts.m_fall, sT_hear_of, sT_has_fallen, sT_press, sT_begin, sT_left_of, sT_fell, sT_running, sT_turns, sT_init, e, oi_some]
        exact q
      · refine ⟨1, _, rfl, rfl, ?_⟩
        simp! only [List.set_cons_zero, List.set_cons_succ, nd1, Ts.f_le, Ts.f_mo, Ts.f_la, Ts.f_sd, Ts.f_si, Ts.f_en, Ts.few, Ts.p_le, Ts.p_laI, Ts.p_sdI, Ts.p_siI, Ts.m_begin, Ts.m_press, Ts.m_left_of, Ts.m_fell, Ts.m_running, Ts.m_turns, Ts.m_hear_of, Ts.m_has_fallen, Ts.m_fall, sT_hear_of, sT_has_fallen, sT_press, sT_begin, sT_left_of, sT_fell, sT_running, sT_turns, sT_init, e, oi_some, e4, List.length_map]
        refine ⟨sizeLine_big (by omega), ?_⟩
        rw [Ts.p_en _ t.en (1, now - x)]
        simp! only [nd1, Ts.f_le, Ts.f_mo, Ts.f_la, Ts.f_sd, Ts.f_si, Ts.f_en, Ts.few, Ts.p_le, Ts.p_laI, Ts.p_sdI, Ts.p_siI, Ts.m_begin, Ts.m_press, Ts.m_left_of, Ts.m_fell, Ts.m_running, Ts.m_turns, Ts.m_hear_of, Ts.m_has_fallen, Ts.m_fall, sT_hear_of, sT_has_fallen, sT_press, sT_begin, sT_left_of, sT_fell, sT_running, sT_turns, sT_init, e, oi_some]
        exact q
def t_Turns_begin (c_Turns : Nat) : TSd := dSeq (dDrop ((dMeth 0 c_Turns "hear_of" (S_Turns_hear_of c_Turns) ((aCons ((dVar 2)) (aNil)))))) (dSeq (dIfS (dB (dOp rNotN ((dX ((xFld c_Turns 0 "side")))) (dC .non))) (dRet (dC (.bl false))) (dNext)) (dSeq (dSetF c_Turns 0 "side" ((dVar 1))) (dSeq (dSetF c_Turns 0 "since" ((dVar 2))) (dRet (dC (.bl true))))))
theorem r_Turns_begin (C : Nat) : ∀ (hs : Nat → Nat) as Q, S_Turns_begin C as Q → t_Turns_begin C { nx := fun δ => Q .non (outO hs 0 as δ), rt := fun d δ => Q d (outO hs 0 as δ) } (startO ["self", "side", "now"] hs as) := by
  rintro hs as Q ⟨t, s, now, rfl, ⟨hw, ha, hl⟩, q⟩
  simp! only [t_Turns_begin, nd1, Ts.f_le, Ts.f_mo, Ts.f_la, Ts.f_sd, Ts.f_si, Ts.f_en, Ts.few, Ts.p_le, Ts.p_laI, Ts.p_sdI, Ts.p_siI, Ts.m_begin, Ts.m_press, Ts.m_left_of, Ts.m_fell, Ts.m_running, Ts.m_turns, Ts.m_hear_of, Ts.m_has_fallen, Ts.m_fall, sT_hear_of, sT_has_fallen, sT_press, sT_begin, sT_left_of, sT_fell, sT_running, sT_turns, sT_init]
  refine ⟨ha, ?_⟩
  rcases hw with ⟨h1, h2⟩ | ⟨z, x, h⟩
  · have e : (t.hear now).sd = none := h1
    simp only [h1, Option.isNone_none, if_true] at q
    simp! only [e, oi_none, nd1, Ts.f_le, Ts.f_mo, Ts.f_la, Ts.f_sd, Ts.f_si, Ts.f_en, Ts.few, Ts.p_le, Ts.p_laI, Ts.p_sdI, Ts.p_siI, Ts.m_begin, Ts.m_press, Ts.m_left_of, Ts.m_fell, Ts.m_running, Ts.m_turns, Ts.m_hear_of, Ts.m_has_fallen, Ts.m_fall, sT_hear_of, sT_has_fallen, sT_press, sT_begin, sT_left_of, sT_fell, sT_running, sT_turns, sT_init]
    exact q
  · have e : (t.hear now).sd = some z := h.sd
    simp only [h.sd, Option.isNone_some, Bool.false_eq_true, if_false] at q
    simp! only [e, oi_some]
    exact q
def t_Turns_left_of (c_Turns : Nat) : TSd := dSeq (dDrop ((dMeth 0 c_Turns "hear_of" (S_Turns_hear_of c_Turns) ((aCons ((dVar 2)) (aNil)))))) (dSeq (dIfS (dB (dOp rNeD ((dVar 1)) ((dX ((xFld c_Turns 0 "side")))))) (dRet ((dX ((dFIx c_Turns 0 "left" ((xVar 1))))))) (dNext)) (dRet ((dCall cMax ((dCons (dC (.int 0)) ((dCons ((dOp (rII fun i j => .int (i - j)) ((dX ((dFIx c_Turns 0 "left" ((xVar 1)))))) ((dOp (rII fun i j => .int (i - j)) ((dVar 2)) ((dX ((xFld c_Turns 0 "since")))))))) (dNil)))))))))
theorem r_Turns_left_of (C : Nat) : ∀ (hs : Nat → Nat) as Q, S_Turns_left_of C as Q → t_Turns_left_of C { nx := fun δ => Q .non (outO hs 0 as δ), rt := fun d δ => Q d (outO hs 0 as δ) } (startO ["self", "side", "now"] hs as) := by
  rintro hs as Q ⟨t, s, now, rfl, h2, ⟨hw, ha, hl⟩, q⟩
  simp! only [t_Turns_left_of, nd1, Ts.f_le, Ts.f_mo, Ts.f_la, Ts.f_sd, Ts.f_si, Ts.f_en, Ts.few, Ts.p_le, Ts.p_laI, Ts.p_sdI, Ts.p_siI, Ts.m_begin, Ts.m_press, Ts.m_left_of, Ts.m_fell, Ts.m_running, Ts.m_turns, Ts.m_hear_of, Ts.m_has_fallen, Ts.m_fall, sT_hear_of, sT_has_fallen, sT_press, sT_begin, sT_left_of, sT_fell, sT_running, sT_turns, sT_init, ix_two h2]
  refine ⟨ha, ?_⟩
  rcases hw with ⟨h1, h2⟩ | ⟨z, x, h⟩
  · have e : (t.hear now).sd = none := h1
    simp only [Ts.leftB, h1] at q
    simp! only [e, oi_none]
    exact q
  · have e : (t.hear now).sd = some z := h.sd
    have e2 : (t.hear now).si = some x := h.si
    simp only [Ts.leftB, h.sd, h.si] at q
    simp! only [e, e2, oi_some]
    refine ite2 (fun hz => ?_) fun hz => ?_
    · rw [if_pos hz] at q; exact q
    · rw [if_neg hz] at q; exact q
def t_Turns_fell (c_Turns : Nat) : TSd := dSeq (dDrop ((dMeth 0 c_Turns "hear_of" (S_Turns_hear_of c_Turns) ((aCons ((dVar 1)) (aNil)))))) (dRet ((dIf (dTruF ((dMeth 0 c_Turns "has_fallen" (S_Turns_has_fallen c_Turns) ((aCons ((dVar 1)) (aNil)))))) ((dTup ((dCons ((dX ((xFld c_Turns 0 "side")))) ((dCons ((dMeth 0 c_Turns "fall" (S_Turns_fall c_Turns) (aNil))) (dNil))))))) (dC .non))))
theorem r_Turns_fell (C : Nat) : ∀ (hs : Nat → Nat) as Q, S_Turns_fell C as Q → t_Turns_fell C { nx := fun δ => Q .non (outO hs 0 as δ), rt := fun d δ => Q d (outO hs 0 as δ) } (startO ["self", "now"] hs as) := by
  rintro hs as Q ⟨t, now, rfl, ⟨hw, ha, hl⟩, q⟩
  simp! only [t_Turns_fell, nd1, Ts.f_le, Ts.f_mo, Ts.f_la, Ts.f_sd, Ts.f_si, Ts.f_en, Ts.few, Ts.p_le, Ts.p_laI, Ts.p_sdI, Ts.p_siI, Ts.m_begin, Ts.m_press, Ts.m_left_of, Ts.m_fell, Ts.m_running, Ts.m_turns, Ts.m_hear_of, Ts.m_has_fallen, Ts.m_fall, sT_hear_of, sT_has_fallen, sT_press, sT_begin, sT_left_of, sT_fell, sT_running, sT_turns, sT_init]
  refine ⟨ha, hear_wf hw, ?_⟩
  rcases hw with ⟨h1, h2⟩ | ⟨s, x, h⟩
  · have e : (t.hear now).sd = none := h1
    simp only [Ts.fellB, h1] at q
    have ef : (t.hear now).fallen now = false := by simp only [Ts.fallen, e]
    rw [ef]
    simp! only [Dl.dSeq]
    exact q
  · have e : (t.hear now).sd = some s := h.sd
    have e2 : (t.hear now).si = some x := h.si
    simp only [Ts.fellB, h.sd, h.si] at q
    have ef : (t.hear now).fallen now = decide (x + t.lf s ≤ now) := by simp only [Ts.fallen, e, e2]; rfl
    by_cases hf : x + t.lf s ≤ now
    · rw [if_pos hf] at q
      rw [ef, decide_eq_true hf]
      simp! only [e, oi_some]
      refine ⟨t.hear now, s, x, rfl, ⟨e, e2, h.tw⟩, ?_⟩
      simp! only [Dl.dSeq]
      exact q
    · rw [if_neg hf] at q
      rw [ef, decide_eq_false hf]
      simp! only [Dl.dSeq]
      exact q
def t_Turns_running (c_Turns : Nat) : TSd := dSeq (dDrop ((dMeth 0 c_Turns "hear_of" (S_Turns_hear_of c_Turns) ((aCons ((dVar 1)) (aNil)))))) (dRet ((dIf (dTruF ((dMeth 0 c_Turns "has_fallen" (S_Turns_has_fallen c_Turns) ((aCons ((dVar 1)) (aNil)))))) (dC .non) ((dX ((xFld c_Turns 0 "side")))))))
theorem r_Turns_running (C : Nat) : ∀ (hs : Nat → Nat) as Q, S_Turns_running C as Q → t_Turns_running C { nx := fun δ => Q .non (outO hs 0 as δ), rt := fun d δ => Q d (outO hs 0 as δ) } (startO ["self", "now"] hs as) := by
  rintro hs as Q ⟨t, now, rfl, ⟨hw, ha, hl⟩, q⟩
  simp! only [t_Turns_running, nd1, Ts.f_le, Ts.f_mo, Ts.f_la, Ts.f_sd, Ts.f_si, Ts.f_en, Ts.few, Ts.p_le, Ts.p_laI, Ts.p_sdI, Ts.p_siI, Ts.m_begin, Ts.m_press, Ts.m_left_of, Ts.m_fell, Ts.m_running, Ts.m_turns, Ts.m_hear_of, Ts.m_has_fallen, Ts.m_fall, sT_hear_of, sT_has_fallen, sT_press, sT_begin, sT_left_of, sT_fell, sT_running, sT_turns, sT_init]
  refine ⟨ha, hear_wf hw, ?_⟩
  rcases hw with ⟨h1, h2⟩ | ⟨s, x, h⟩
  · have e : (t.hear now).sd = none := h1
    simp only [Ts.runB, h1] at q
    have ef : (t.hear now).fallen now = false := by simp only [Ts.fallen, e]
    rw [ef]
    simp! only [e, oi_none]
    exact q
  · have e : (t.hear now).sd = some s := h.sd
    have e2 : (t.hear now).si = some x := h.si
    simp only [Ts.runB, h.sd, h.si] at q
    have ef : (t.hear now).fallen now = decide (x + t.lf s ≤ now) := by simp only [Ts.fallen, e, e2]; rfl
    by_cases hf : x + t.lf s ≤ now
    · rw [if_pos hf] at q
      rw [ef, decide_eq_true hf]
      simp! only [Dl.dSeq]
      exact q
    · rw [if_neg hf] at q
      rw [ef, decide_eq_false hf]
      simp! only [e, oi_some]
      exact q
def t_Turns_turns (c_Turns : Nat) : TSd := dRet ((dFList c_Turns 0 "ended"))
theorem r_Turns_turns (C : Nat) : ∀ (hs : Nat → Nat) as Q, S_Turns_turns C as Q → t_Turns_turns C { nx := fun δ => Q .non (outO hs 0 as δ), rt := fun d δ => Q d (outO hs 0 as δ) } (startO ["self"] hs as) := by
  rintro hs as Q ⟨t, rfl, q⟩
  simp! only [t_Turns_turns, nd1, Ts.f_le, Ts.f_mo, Ts.f_la, Ts.f_sd, Ts.f_si, Ts.f_en, Ts.few, Ts.p_le, Ts.p_laI, Ts.p_sdI, Ts.p_siI, Ts.m_begin, Ts.m_press, Ts.m_left_of, Ts.m_fell, Ts.m_running, Ts.m_turns, Ts.m_hear_of, Ts.m_has_fallen, Ts.m_fall, sT_hear_of, sT_has_fallen, sT_press, sT_begin, sT_left_of, sT_fell, sT_running, sT_turns, sT_init]
  exact q
end Law

namespace Law
open PySem L2 Dl
/-! ### turns that refuse -/
def SR_Turns_hear_of (C : Nat) (as : List Ar) : Prop := ∃ (t : Ts) (z now : Int), as = [.o C t.fs, .v (.int now)] ∧ t.la = some z ∧ now < z
theorem lr_Turns_hear_of (C : Nat) : ∀ as, SR_Turns_hear_of C as → as.length = 2 := by rintro as ⟨_, _, _, rfl, _⟩; rfl
def SR_Turns_begin (C : Nat) (as : List Ar) : Prop := ∃ (t : Ts) (z s now : Int), as = [.o C t.fs, .v (.int s), .v (.int now)] ∧ t.la = some z ∧ now < z
theorem lr_Turns_begin (C : Nat) : ∀ as, SR_Turns_begin C as → as.length = 3 := by rintro as ⟨_, _, _, _, rfl, _⟩; rfl
def SR_Turns_press (C : Nat) (as : List Ar) : Prop := ∃ (t : Ts) (z now : Int), as = [.o C t.fs, .v (.int now)] ∧ t.la = some z ∧ now < z
theorem lr_Turns_press (C : Nat) : ∀ as, SR_Turns_press C as → as.length = 2 := by rintro as ⟨_, _, _, rfl, _⟩; rfl
def SR_Turns_left_of (C : Nat) (as : List Ar) : Prop := ∃ (t : Ts) (z s now : Int), as = [.o C t.fs, .v (.int s), .v (.int now)] ∧ t.la = some z ∧ now < z
theorem lr_Turns_left_of (C : Nat) : ∀ as, SR_Turns_left_of C as → as.length = 3 := by rintro as ⟨_, _, _, _, rfl, _⟩; rfl
def SR_Turns_fell (C : Nat) (as : List Ar) : Prop := ∃ (t : Ts) (z now : Int), as = [.o C t.fs, .v (.int now)] ∧ t.la = some z ∧ now < z
theorem lr_Turns_fell (C : Nat) : ∀ as, SR_Turns_fell C as → as.length = 2 := by rintro as ⟨_, _, _, rfl, _⟩; rfl
def SR_Turns_running (C : Nat) (as : List Ar) : Prop := ∃ (t : Ts) (z now : Int), as = [.o C t.fs, .v (.int now)] ∧ t.la = some z ∧ now < z
theorem lr_Turns_running (C : Nat) : ∀ as, SR_Turns_running C as → as.length = 2 := by rintro as ⟨_, _, _, rfl, _⟩; rfl
def q_Turns_hear_of (c_Turns : Nat) (Pk : Ev → Prop) : Ev → Prop := (fun δ => ((dCons ((dX ((xFld c_Turns 0 "latest")))) ((dCons ((dVar 1)) (dNil))))) δ fun ds δ1 => SR_refuse_early ds ∧ Pk δ1)
theorem rr_Turns_hear_of (C : Nat) : ∀ (hs : Nat → Nat) as, SR_Turns_hear_of C as → q_Turns_hear_of C (fun δ => outO hs 0 as δ = as) (startO ["self", "now"] hs as) := by
  rintro hs as ⟨t, z, now, rfl, h, lt⟩
  simp! only [q_Turns_hear_of, Ts.f_la, h, oi_some]
  exact ⟨z, now, rfl, lt⟩
def q_Turns_begin (c_Turns : Nat) (Pk : Ev → Prop) : Ev → Prop := (rMeth 0 c_Turns "hear_of" (SR_Turns_hear_of c_Turns) Pk ((aCons ((dVar 2)) (aNil))))
theorem rr_Turns_begin (C : Nat) : ∀ (hs : Nat → Nat) as, SR_Turns_begin C as → q_Turns_begin C (fun δ => outO hs 0 as δ = as) (startO ["self", "side", "now"] hs as) := by
  rintro hs as ⟨t, z, s, now, rfl, h, lt⟩
  simp! only [q_Turns_begin, Ts.m_hear_of]
  exact ⟨by decide, ⟨t, z, now, rfl, h, lt⟩⟩
def q_Turns_press (c_Turns : Nat) (Pk : Ev → Prop) : Ev → Prop := (rMeth 0 c_Turns "hear_of" (SR_Turns_hear_of c_Turns) Pk ((aCons ((dVar 1)) (aNil))))
theorem rr_Turns_press (C : Nat) : ∀ (hs : Nat → Nat) as, SR_Turns_press C as → q_Turns_press C (fun δ => outO hs 0 as δ = as) (startO ["self", "now", "took"] hs as) := by
  rintro hs as ⟨t, z, now, rfl, h, lt⟩
  simp! only [q_Turns_press, Ts.m_hear_of]
  exact ⟨by decide, ⟨t, z, now, rfl, h, lt⟩⟩
def q_Turns_left_of (c_Turns : Nat) (Pk : Ev → Prop) : Ev → Prop := (rMeth 0 c_Turns "hear_of" (SR_Turns_hear_of c_Turns) Pk ((aCons ((dVar 2)) (aNil))))
theorem rr_Turns_left_of (C : Nat) : ∀ (hs : Nat → Nat) as, SR_Turns_left_of C as → q_Turns_left_of C (fun δ => outO hs 0 as δ = as) (startO ["self", "side", "now"] hs as) := by
  rintro hs as ⟨t, z, s, now, rfl, h, lt⟩
  simp! only [q_Turns_left_of, Ts.m_hear_of]
  exact ⟨by decide, ⟨t, z, now, rfl, h, lt⟩⟩
def q_Turns_fell (c_Turns : Nat) (Pk : Ev → Prop) : Ev → Prop := (rMeth 0 c_Turns "hear_of" (SR_Turns_hear_of c_Turns) Pk ((aCons ((dVar 1)) (aNil))))
theorem rr_Turns_fell (C : Nat) : ∀ (hs : Nat → Nat) as, SR_Turns_fell C as → q_Turns_fell C (fun δ => outO hs 0 as δ = as) (startO ["self", "now"] hs as) := by
  rintro hs as ⟨t, z, now, rfl, h, lt⟩
  simp! only [q_Turns_fell, Ts.m_hear_of]
  exact ⟨by decide, ⟨t, z, now, rfl, h, lt⟩⟩
def q_Turns_running (c_Turns : Nat) (Pk : Ev → Prop) : Ev → Prop := (rMeth 0 c_Turns "hear_of" (SR_Turns_hear_of c_Turns) Pk ((aCons ((dVar 1)) (aNil))))
theorem rr_Turns_running (C : Nat) : ∀ (hs : Nat → Nat) as, SR_Turns_running C as → q_Turns_running C (fun δ => outO hs 0 as δ = as) (startO ["self", "now"] hs as) := by
  rintro hs as ⟨t, z, now, rfl, h, lt⟩
  simp! only [q_Turns_running, Ts.m_hear_of]
  exact ⟨by decide, ⟨t, z, now, rfl, h, lt⟩⟩
/-! ### what is told -/
def Ts.told (t : Ts) (way s now : Int) : D × Ts :=
  if way = 0 then (.bl t.sd.isNone, if t.sd.isNone = true then { t.hear now with sd := some s, si := some now } else t.hear now) else if way = 1 then (.bl (t.pressB now).1, (t.pressB now).2) else if way = 2 then (.int (t.leftB s now), t.hear now) else if way = 3 then (t.fellB now, t.hear now) else (t.runB now, t.hear now)
def refD : D := .tup [.str "refused", .int 0]
def S_law_told (C : Nat) : SpO := fun as Q => ∃ (t : Ts) (way s now : Int), as = [.o C t.fs, .v (.int way), .v (.int s), .v (.int now)] ∧ t.wf ∧ t.en.length < 1000 ∧ two s ∧
  if okB t.la now = true then Q (t.told way s now).1 [.o C (t.told way s now).2.fs, .v (.int way), .v (.int s), .v (.int now)] else Q refD [.o C t.fs, .v (.int way), .v (.int s), .v (.int now)]
theorem l_law_told (C : Nat) : ∀ as Q, S_law_told C as Q → as.length = 4 := by rintro as Q ⟨_, _, _, _, rfl, _⟩; rfl
def t_law_told (c_Turns : Nat) : TSd := dTry (dSeq (dIfS (dB (dOp rEqD ((dVar 1)) (dC (.int 0)))) (dRet ((dMeth 0 c_Turns "begin" (S_Turns_begin c_Turns) ((aCons ((dVar 2)) ((aCons ((dVar 3)) (aNil)))))))) (dNext)) (dSeq (dIfS (dB (dOp rEqD ((dVar 1)) (dC (.int 1)))) (dRet ((dMeth 0 c_Turns "press" (S_Turns_press c_Turns) ((aCons ((dVar 3)) (aNil)))))) (dNext)) (dSeq (dIfS (dB (dOp rEqD ((dVar 1)) (dC (.int 2)))) (dRet ((dMeth 0 c_Turns "left_of" (S_Turns_left_of c_Turns) ((aCons ((dVar 2)) ((aCons ((dVar 3)) (aNil)))))))) (dNext)) (dRet ((dIf (dB (dOp rEqD ((dVar 1)) (dC (.int 3)))) ((dMeth 0 c_Turns "fell" (S_Turns_fell c_Turns) ((aCons ((dVar 3)) (aNil))))) ((dMeth 0 c_Turns "running" (S_Turns_running c_Turns) ((aCons ((dVar 3)) (aNil))))))))))) (fun Pk => (fun δ => (dB (dOp rEqD ((dVar 1)) (dC (.int 0)))) δ fun q δ1 => if q = true then (rMeth 0 c_Turns "begin" (SR_Turns_begin c_Turns) Pk ((aCons ((dVar 2)) ((aCons ((dVar 3)) (aNil)))))) δ1 else (fun δ => (dB (dOp rEqD ((dVar 1)) (dC (.int 1)))) δ fun q δ1 => if q = true then (rMeth 0 c_Turns "press" (SR_Turns_press c_Turns) Pk ((aCons ((dVar 3)) (aNil)))) δ1 else (fun δ => (dB (dOp rEqD ((dVar 1)) (dC (.int 2)))) δ fun q δ1 => if q = true then (rMeth 0 c_Turns "left_of" (SR_Turns_left_of c_Turns) Pk ((aCons ((dVar 2)) ((aCons ((dVar 3)) (aNil)))))) δ1 else (fun δ => (dB (dOp rEqD ((dVar 1)) (dC (.int 3)))) δ fun q δ1 => if q = true then (rMeth 0 c_Turns "fell" (SR_Turns_fell c_Turns) Pk ((aCons ((dVar 3)) (aNil)))) δ1 else (rMeth 0 c_Turns "running" (SR_Turns_running c_Turns) Pk ((aCons ((dVar 3)) (aNil)))) δ1) δ1) δ1) δ1)) (.tup [.str "refused", .int 0])
theorem r_law_told (C : Nat) : ∀ (hs : Nat → Nat) as Q, S_law_told C as Q → t_law_told C { nx := fun δ => Q .non (outO hs 0 as δ), rt := fun d δ => Q d (outO hs 0 as δ) } (startO ["_law_clock", "_law_way", "_law_side", "_law_now", "_law_e"] hs as) := by
  rintro hh as Q ⟨t, way, s, now, rfl, hwf, hl, hs2, q⟩
  unfold t_law_told dTry
  by_cases hok : okB t.la now = true
  · have ha : t.ok now := ⟨hwf, okB_at hok, hl⟩
    rw [if_pos hok] at q
    left
    unfold Ts.told at q
    simp! only [nd1, Ts.f_le, Ts.f_mo, Ts.f_la, Ts.f_sd, Ts.f_si, Ts.f_en, Ts.few, Ts.p_le, Ts.p_laI, Ts.p_sdI, Ts.p_siI, Ts.m_begin, Ts.m_press, Ts.m_left_of, Ts.m_fell, Ts.m_running, Ts.m_turns, Ts.m_hear_of, Ts.m_has_fallen, Ts.m_fall, sT_hear_of, sT_has_fallen, sT_press, sT_begin, sT_left_of, sT_fell, sT_running, sT_turns, sT_init]
    refine ite2 (fun h => ?_) fun h => ?_
    · rw [if_pos h] at q; exact ⟨ha, q⟩
    rw [if_neg h] at q
    refine ite2 (fun h => ?_) fun h => ?_
    · rw [if_pos h] at q; exact ⟨ha, q⟩
    rw [if_neg h] at q
    refine ite2 (fun h => ?_) fun h => ?_
    · rw [if_pos h] at q; exact ⟨hs2, ha, q⟩
    rw [if_neg h] at q
    refine ite2 (fun h => ?_) fun h => ?_
    · rw [if_pos h] at q; exact ⟨ha, q⟩
    · rw [if_neg h] at q; exact ⟨ha, q⟩
  · rw [if_neg hok] at q
    right
    obtain ⟨z, hs, lt⟩ : ∃ z, t.la = some z ∧ now < z := by
      cases h : t.la with
      | none => rw [h] at hok; exact absurd rfl hok
      | some z => rw [h] at hok; exact ⟨z, rfl, by unfold okB at hok; simpa using hok⟩
    refine ⟨fun δ => outO hh 0 [.o C t.fs, .v (.int way), .v (.int s), .v (.int now)] δ = [.o C t.fs, .v (.int way), .v (.int s), .v (.int now)], ?_, fun δ' e => by have e' : outO hh 0 _ δ' = _ := e; show Q _ (outO hh 0 _ δ'); rw [e']; exact q⟩
    simp! only [nd1, Ts.f_le, Ts.f_mo, Ts.f_la, Ts.f_sd, Ts.f_si, Ts.f_en, Ts.few, Ts.p_le, Ts.p_laI, Ts.p_sdI, Ts.p_siI, Ts.m_begin, Ts.m_press, Ts.m_left_of, Ts.m_fell, Ts.m_running, Ts.m_turns, Ts.m_hear_of, Ts.m_has_fallen, Ts.m_fall, sT_hear_of, sT_has_fallen, sT_press, sT_begin, sT_left_of, sT_fell, sT_running, sT_turns, sT_init]
    refine ite2 (fun h => ?_) fun h => ?_
    · exact ⟨t, z, s, now, rfl, hs, lt⟩
    refine ite2 (fun h => ?_) fun h => ?_
    · exact ⟨t, z, now, rfl, hs, lt⟩
    refine ite2 (fun h => ?_) fun h => ?_
    · exact ⟨t, z, s, now, rfl, hs, lt⟩
    refine ite2 (fun h => ?_) fun h => ?_
    · exact ⟨t, z, now, rfl, hs, lt⟩
    · exact ⟨t, z, now, rfl, hs, lt⟩
/-! ### the law's own clock -/
def mineT (n : Int) (t : Ts) : List (Str × Fl) := [("left", .ow [.int t.l0, .int t.l1]), ("more", .sh (.int t.mo)), ("side", .sh (oi t.sd)), ("since", .sh (.int (t.si.getD 0))), ("now", .sh (.int n)), ("rows", .ow (t.en.map rowT))]
section
variable (n : Int) (t : Ts)
theorem mt_le : (mineT n t).lookup ("left" : Str) = some (.ow [.int t.l0, .int t.l1]) := rfl
theorem mt_mo : (mineT n t).lookup ("more" : Str) = some (.sh (.int t.mo)) := rfl
theorem mt_sd : (mineT n t).lookup ("side" : Str) = some (.sh (oi t.sd)) := rfl
theorem mt_si : (mineT n t).lookup ("since" : Str) = some (.sh (.int (t.si.getD 0))) := rfl
theorem mt_now : (mineT n t).lookup ("now" : Str) = some (.sh (.int n)) := rfl
theorem mt_en : (mineT n t).lookup ("rows" : Str) = some (.ow (t.en.map rowT)) := rfl
theorem mq_le (x y : Int) : putFl "left" (.ow [.int x, .int y]) (mineT n t) = mineT n { t with l0 := x, l1 := y } := rfl
theorem mq_sd (x : Int) : putFl "side" (.sh (.int x)) (mineT n t) = mineT n { t with sd := some x } := rfl
theorem mq_si (x : Int) : putFl "since" (.sh (.int x)) (mineT n t) = mineT n { t with si := some x } := rfl
theorem mq_now (x : Int) : putFl "now" (.sh (.int x)) (mineT n t) = mineT x t := rfl
theorem mq_en (l : List (Int × Int)) (r : Int × Int) : putFl "rows" (.ow (l.map rowT ++ [rowT r])) (mineT n t) = mineT n { t with en := l ++ [r] } := by
  rw [show l.map rowT ++ [rowT r] = (l ++ [r]).map rowT by simp]
  rfl
end
def S_law_is_fallen : SpO := fun as Q => ∃ (t : Ts) (n now : Int), as = [.r (mineT n t), .v (.int now)] ∧ t.wf ∧ Q (.bl (t.fallen now)) [.r (mineT n t), .v (.int now)]
theorem l_law_is_fallen : ∀ as Q, S_law_is_fallen as Q → as.length = 2 := by rintro as Q ⟨_, _, _, rfl, _⟩; rfl
def t_law_is_fallen : TSd := dRet ((dAndV ((dOp rNotN ((dX ((xKey 0 "side")))) (dC .non))) ((dOp (rII fun i j => .bl (decide (j ≤ i))) ((dOp (rII fun i j => .int (i - j)) ((dVar 1)) ((dX ((xKey 0 "since")))))) ((dX ((xKIx 0 "left" ((xKey 0 "side"))))))))))
theorem r_law_is_fallen : ∀ (hs : Nat → Nat) as Q, S_law_is_fallen as Q → t_law_is_fallen { nx := fun δ => Q .non (outO hs 0 as δ), rt := fun d δ => Q d (outO hs 0 as δ) } (startO ["_law_mine", "_law_now"] hs as) := by
  rintro hs as Q ⟨t, n, now, rfl, hwf, q⟩
  rcases hwf with ⟨h1, h2⟩ | ⟨s, x, h⟩
  · simp only [Ts.fallen, h1] at q
    simp! only [t_law_is_fallen, mt_sd, h1, oi_none]
    exact q
  · simp only [Ts.fallen, h.sd, h.si] at q
    simp! only [t_law_is_fallen, mt_sd, h.sd, oi_some, mt_si, h.si, Option.getD_some, mt_le, ix_two h.tw]
    have e : decide ((if s = 0 then t.l0 else t.l1) ≤ now - x) = decide (x + t.lf s ≤ now) := by unfold Ts.lf; congr 1; exact propext ⟨fun z => by omega, fun z => by omega⟩
    rw [e]
    exact q
/-- more than nothing is left -/
structure Ts.pos (t : Ts) : Prop where
  a : 0 < t.l0
  b : 0 < t.l1
  m : 0 ≤ t.mo
theorem Ts.pos.lf {t : Ts} (h : t.pos) (s : Int) : 0 < t.lf s := by
  unfold Ts.lf; have := h.a; have := h.b; split <;> omega
def S_law_due : SpO := fun as Q => ∃ (t : Ts) (n way s now : Int), as = [.r (mineT n t), .v (.int way), .v (.int s), .v (.int now)] ∧ t.wf ∧ t.pos ∧ t.en.length < 1000 ∧ two s ∧ (way = 0 ∨ way = 1 ∨ way = 2) ∧
  if now < n then Q refD [.r (mineT n t), .v (.int way), .v (.int s), .v (.int now)] else Q (t.told way s now).1 [.r (mineT now (t.told way s now).2), .v (.int way), .v (.int s), .v (.int now)]
theorem l_law_due : ∀ as Q, S_law_due as Q → as.length = 4 := by rintro as Q ⟨_, _, _, _, _, rfl, _⟩; rfl
def t_law_due_5 : TSd := dRet ((dCall cMax ((dCons (dC (.int 0)) ((dCons ((dOp (rII fun i j => .int (i - j)) ((dX ((xKIx 0 "left" ((xVar 2)))))) ((dVar 6)))) (dNil)))))))
def t_law_due_4 : TSd := dSeq (dSet 6 ((dIf (dB (dOp rEqD ((dVar 2)) ((dX ((xKey 0 "side")))))) ((dOp (rII fun i j => .int (i - j)) ((dVar 3)) ((dX ((xKey 0 "since")))))) (dC (.int 0))))) (t_law_due_5)
def t_law_due_3 : TSd := dSeq (dIfS (dB (dOp rEqD ((dVar 1)) (dC (.int 1)))) (dSeq (dIfS (dOr (dB (dOp rIsN ((dX ((xKey 0 "side")))) (dC .non))) (dTruF ((dCallO (S_law_is_fallen ) ((aAt' 0 ((aCons ((dVar 3)) (aNil))))))))) (dRet (dC (.bl false))) (dNext)) (dSeq (dSet 4 ((dX ((xKey 0 "side"))))) (dSeq (dSet 5 ((dOp (rII fun i j => .int (i - j)) ((dVar 3)) ((dX ((xKey 0 "since"))))))) (dSeq (dKSet 0 "left" ((xOp (rII fun i j => .int (i + j)) ((xOp (rII fun i j => .int (i - j)) ((xKIx 0 "left" ((xVar 4)))) ((xVar 5)))) ((xKey 0 "more")))) ((xVar 4))) (dSeq (dKApp 0 "rows" ((xTup ((xCons ((xVar 4)) ((xCons ((xVar 5)) (xNil)))))))) (dSeq (dSetK 0 "side" ((dOp (rII fun i j => .int (i - j)) (dC (.int 1)) ((dVar 4))))) (dSeq (dSetK 0 "since" ((dVar 3))) (dRet (dC (.bl true)))))))))) (dNext)) (t_law_due_4)
def t_law_due_2 : TSd := dSeq (dIfS (dB (dOp rEqD ((dVar 1)) (dC (.int 0)))) (dSeq (dIfS (dB (dOp rNotN ((dX ((xKey 0 "side")))) (dC .non))) (dRet (dC (.bl false))) (dNext)) (dSeq (dSetK 0 "side" ((dVar 2))) (dSeq (dSetK 0 "since" ((dVar 3))) (dRet (dC (.bl true)))))) (dNext)) (t_law_due_3)
def t_law_due_1 : TSd := dSeq (dSetK 0 "now" ((dVar 3))) (t_law_due_2)
def t_law_due : TSd := dSeq (dIfS (dB (dOp (rII fun i j => .bl (decide (i < j))) ((dVar 3)) ((dX ((xKey 0 "now")))))) (dRet ((dTup ((dCons (dC (.str "refused")) ((dCons (dC (.int 0)) (dNil)))))))) (dNext)) (t_law_due_1)
theorem r_law_due : ∀ (hs : Nat → Nat) as Q, S_law_due as Q → t_law_due { nx := fun δ => Q .non (outO hs 0 as δ), rt := fun d δ => Q d (outO hs 0 as δ) } (startO ["_law_mine", "_law_way", "_law_side", "_law_now", "_law_here", "_law_used", "_law_gone"] hs as) := by
  rintro hs as Q ⟨t, n, way, s, now, rfl, hwf, hp, hl, h2, hw, q⟩
  simp! only [t_law_due, mt_now]
  refine ite2 (fun h => ?_) fun h => ?_
  · rw [if_pos (by simpa using h)] at q; exact q
  rw [if_neg (by simpa using h)] at q
  have hq : ∀ (d : D) (fs : List (Str × Fl)), (t.told way s now).1 = d → mineT now (t.told way s now).2 = fs → Q d [.r fs, .v (.int way), .v (.int s), .v (.int now)] := fun d fs e1 e2 => by rw [e1, e2] at q; exact q
  clear q
  simp! only [t_law_due_1, mq_now]
  refine ⟨rfl, ?_⟩
  rcases hw with rfl | rfl | rfl
  · -- begin
    rcases hwf with ⟨h1, h3⟩ | ⟨z, x, hz⟩
    · simp! only [t_law_due_2, mt_sd, h1, oi_none, mq_sd, mq_si]
      refine ⟨rfl, rfl, hq _ _ ?_ ?_⟩
      · unfold Ts.told; rw [if_pos rfl, h1]; rfl
      · unfold Ts.told; rw [if_pos rfl, h1]; rfl
    · simp! only [t_law_due_2, mt_sd, hz.sd, oi_some]
      refine hq _ _ ?_ ?_
      · unfold Ts.told; rw [if_pos rfl, hz.sd]; rfl
      · unfold Ts.told; rw [if_pos rfl, hz.sd]; rfl
  · -- press
    rcases hwf with ⟨h1, h3⟩ | ⟨z, x, hz⟩
    · simp! only [t_law_due_2, t_law_due_3, Int.reduceEq, decide_false, decide_true, mt_sd, h1, oi_none]
      refine hq _ _ ?_ ?_
      · unfold Ts.told Ts.pressB; rw [if_neg (by decide), if_pos rfl, h1]
      · unfold Ts.told Ts.pressB; rw [if_neg (by decide), if_pos rfl, h1]; rfl
    · simp! only [t_law_due_2, t_law_due_3, Int.reduceEq, decide_false, decide_true, mt_sd, hz.sd, oi_some]
      refine ⟨by decide, t, now, now, rfl, .inr ⟨z, x, hz⟩, ?_⟩
      have ef : t.fallen now = decide (x + t.lf z ≤ now) := by simp only [Ts.fallen, hz.sd, hz.si]
      by_cases hf : x + t.lf z ≤ now
      · rw [ef, decide_eq_true hf]
        simp! only [Dl.dSeq]
        refine hq _ _ ?_ ?_
        · unfold Ts.told Ts.pressB; rw [if_neg (by decide), if_pos rfl, hz.sd, hz.si]; simp only [if_pos hf]
        · unfold Ts.told Ts.pressB; rw [if_neg (by decide), if_pos rfl, hz.sd, hz.si]; simp only [if_pos hf]; rfl
      · rw [ef, decide_eq_false hf]
        simp! only [mt_sd, hz.sd, oi_some, mt_si, hz.si, Option.getD_some, mt_le, ix_two hz.tw, mt_mo]
        have e1 : (t.told 1 s now).1 = .bl true := by unfold Ts.told Ts.pressB; rw [if_neg (by decide), if_pos rfl, hz.sd, hz.si]; simp only [if_neg hf]
        have e2 : (t.told 1 s now).2 = { ((t.hear now).setL z (t.lf z + (t.mo - (now - x)))) with en := t.en ++ [(z, now - x)], sd := some (1 - z), si := some now } := by unfold Ts.told Ts.pressB; rw [if_neg (by decide), if_pos rfl, hz.sd, hz.si]; simp only [if_neg hf]
        rcases hz.tw with rfl | rfl
        · refine ⟨0, rfl, ?_⟩
          simp! only [mq_le, mt_en]
          refine ⟨by rw [List.length_map]; exact sizeLine_big (by omega), ?_⟩
          rw [mq_en _ _ t.en (0, now - x)]
          simp only [mq_sd, mq_si]
          refine ⟨rfl, rfl, hq _ _ e1 ?_⟩
          rw [e2]
          have ev : t.lf 0 + (t.mo - (now - x)) = t.l0 - (now - x) + t.mo := by show t.l0 + _ = _; omega
          rw [ev]; rfl
        · refine ⟨1, rfl, ?_⟩
          simp! only [mq_le, mt_en, if_neg (show ¬ (1 : Int) = 0 by decide)]
          refine ⟨by rw [List.length_map]; exact sizeLine_big (by omega), ?_⟩
          rw [mq_en _ _ t.en (1, now - x)]
          simp only [mq_sd, mq_si]
          refine ⟨rfl, rfl, hq _ _ e1 ?_⟩
          rw [e2]
          have ev : t.lf 1 + (t.mo - (now - x)) = t.l1 - (now - x) + t.mo := by show t.l1 + _ = _; omega
          rw [ev]; rfl
  · -- left
    have e2 : (t.told 2 s now).2 = t.hear now := by unfold Ts.told; rw [if_neg (by decide), if_neg (by decide), if_pos rfl]
    have e1 : (t.told 2 s now).1 = .int (t.leftB s now) := by unfold Ts.told; rw [if_neg (by decide), if_neg (by decide), if_pos rfl]
    have el : (if s = 0 then t.l0 else t.l1) = t.lf s := rfl
    have pl := hp.lf s
    rcases hwf with ⟨h1, h3⟩ | ⟨z, x, hz⟩
    · simp! only [t_law_due_2, t_law_due_3, t_law_due_4, t_law_due_5, Int.reduceEq, decide_false, decide_true, mt_sd, h1, oi_none, mt_le, ix_two h2]
      refine hq _ _ (e1.trans ?_) (by rw [e2]; rfl)
      unfold Ts.leftB; rw [h1, el]
      congr 1; show t.lf s = _; omega
    · simp! only [t_law_due_2, t_law_due_3, t_law_due_4, t_law_due_5, Int.reduceEq, decide_false, decide_true, mt_sd, hz.sd, oi_some, mt_si, hz.si, Option.getD_some, mt_le, ix_two h2]
      refine ite2 (fun hs => ?_) fun hs => ?_
      · refine hq _ _ (e1.trans ?_) (by rw [e2]; rfl)
        unfold Ts.leftB; rw [hz.sd, hz.si, el]; simp only [if_pos hs]
      · refine hq _ _ (e1.trans ?_) (by rw [e2]; rfl)
        unfold Ts.leftB; rw [hz.sd, hz.si, el]; simp only [if_neg hs]
        congr 1; omega
theorem okRT : ∀ l : List (Int × Int), D.okL (l.map rowT) = true
  | [] => rfl
  | r :: l => by
    show (D.ok (rowT r) && D.okL (l.map rowT)) = true
    rw [okRT l]; rfl
theorem depRT : ∀ l : List (Int × Int), D.depL (l.map rowT) ≤ 1
  | [] => by decide
  | r :: l => by
    show max (D.dep (rowT r)) (D.depL (l.map rowT)) ≤ 1
    have := depRT l
    have h : D.dep (rowT r) = 1 := rfl
    omega
theorem okLT (l m : List (Int × Int)) : okEq (.lst (l.map rowT)) (.lst (m.map rowT)) := ⟨okRT l, okRT m, by
  show min (D.depL (l.map rowT) + 1) (D.depL (m.map rowT) + 1) ≤ 60
  have := depRT l
  omega⟩
mutual
theorem eqD_self : ∀ d : D, eqD d d = true
  | .non => rfl
  | .bl b => beq_self_eq_true b
  | .int i => beq_self_eq_true i
  | .str x => beq_self_eq_true x
  | .tup l => eqDL_self l
  | .lst l => eqDL_self l
theorem eqDL_self : ∀ l : List D, eqDL l l = true
  | [] => rfl
  | x :: l => by show (eqD x x && eqDL l l) = true; rw [eqD_self x, eqDL_self l]; rfl
end
theorem hear_self {t : Ts} {n : Int} (h : t.la = some n) : t.hear n = t := by
  obtain ⟨a, b, c, d, e, f, g⟩ := t
  cases (show d = some n from h)
  rfl
theorem drawnTwo {s : Int} (h0 : 0 ≤ s) (h1 : s < 2) : two s := by unfold two; omega
/-- as it stands behind what it was told -/
structure TJ (t c : Ts) (now : Int) : Prop where
  wf : c.wf
  ps : c.pos
  la : c.la = some now
  len : c.en.length ≤ t.en.length + 1
theorem hear_TJ {t : Ts} {now : Int} (h : t.wf) (hp : t.pos) : TJ t (t.hear now) now := ⟨hear_wf h, ⟨hp.a, hp.b, hp.m⟩, rfl, Nat.le_succ _⟩
theorem told_inv {t : Ts} {way s now : Int} (h : t.wf) (hp : t.pos) (hs : two s) (hw : way = 0 ∨ way = 1 ∨ way = 2) : TJ t (t.told way s now).2 now := by
  rcases hw with rfl | rfl | rfl
  · unfold Ts.told; rw [if_pos rfl]
    show TJ t (if t.sd.isNone = true then _ else _) now
    split
    · exact ⟨.inr ⟨s, now, rfl, rfl, hs⟩, ⟨hp.a, hp.b, hp.m⟩, rfl, Nat.le_succ _⟩
    · exact hear_TJ h hp
  · unfold Ts.told Ts.pressB; rw [if_neg (by decide), if_pos rfl]
    rcases h with ⟨h1, h2⟩ | ⟨z, x, hz⟩
    · rw [h1]; exact hear_TJ (.inl ⟨h1, h2⟩) hp
    · rw [hz.sd, hz.si]
      by_cases hf : x + t.lf z ≤ now
      · simp only [if_pos hf]; exact hear_TJ (.inr ⟨z, x, hz⟩) hp
      · simp only [if_neg hf]
        have := hp.m
        rcases hz.tw with rfl | rfl
        · exact ⟨.inr ⟨1 - 0, now, rfl, rfl, .inr rfl⟩, ⟨by show 0 < t.lf 0 + _; omega, hp.b, hp.m⟩, rfl, by show (t.en ++ [_]).length ≤ _; simp⟩
        · exact ⟨.inr ⟨1 - 1, now, rfl, rfl, .inl rfl⟩, ⟨hp.a, by show 0 < t.lf 1 + _; omega, hp.m⟩, rfl, by show (t.en ++ [_]).length ≤ _; simp⟩
  · unfold Ts.told; rw [if_neg (by decide), if_neg (by decide), if_pos rfl]; exact hear_TJ h hp
theorem told_ok {t : Ts} {way s now : Int} (hw : way = 0 ∨ way = 1 ∨ way = 2) : okEq (t.told way s now).1 (t.told way s now).1 := by
  rcases hw with rfl | rfl | rfl
  · show okEq (.bl _) (.bl _); simp only [okEq_bl_bl]
  · show okEq (.bl _) (.bl _); simp only [okEq_bl_bl]
  · show okEq (.int _) (.int _); simp only [okEq_int_int]
theorem refD_ok : okEq refD refD := ⟨okRef, okRef, by decide⟩
theorem pickW {w : Int} (h0 : 0 ≤ w) (h1 : w < 5) : ∃ y : Int, atI [D.int 0, .int 1, .int 1, .int 1, .int 2] w = some (.int y) ∧ (y = 0 ∨ y = 1 ∨ y = 2) := by
  obtain rfl | rfl | rfl | rfl | rfl : w = 0 ∨ w = 1 ∨ w = 2 ∨ w = 3 ∨ w = 4 := by omega
  all_goals exact ⟨_, rfl, by decide⟩
theorem pickN {w : Int} (h0 : 0 ≤ w) (h1 : w < 5) : ∃ y : Int, atI [D.int 0, .int 1, .int 3, .int 8, .int (-4)] w = some (.int y) := by
  obtain rfl | rfl | rfl | rfl | rfl : w = 0 ∨ w = 1 ∨ w = 2 ∨ w = 3 ∨ w = 4 := by omega
  all_goals exact ⟨_, rfl⟩
theorem dCompO_at {k : Nat} {ti : TId} {g : TGd} {tt : TTd} {te : TEd} {δ : Ev} {Q : D → Ev → Prop} (items : List D) (F : D → Option D) (hi : ∀ Q', Q' items δ → ti δ Q')
    (hF : ∀ d ∈ items, ∀ as : Nat → Nat, g d (pinO as 0 δ ++ List.replicate k .no) fun δ2 => tt δ2 fun b δ3 => if b = true then te δ3 fun y δ4 => δ4.take δ.length = pinO as 0 δ ∧ F d = some y else δ3.take δ.length = pinO as 0 δ ∧ F d = none)
    (hl : (items.filterMap F).length ≤ sizeLine) (q : Q (.lst (items.filterMap F)) δ) : dCompO k ti g tt te δ Q := hi _ ⟨F, hF, hl, q⟩
def t_law_b1_10 (c_Turns : Nat) : TSd := dSeq (dSet 13 ((dIf (dB (dOp (rII fun i j => .bl (decide (j < i))) ((dVar 10)) (dC (.int 0)))) ((dCompO 1 (diRange1 ((dCons (dC (.int 5)) (dNil)))) (gdName 14) (dYes) ((dCallO (S_law_told c_Turns) ((aAt' 4 ((aCons ((dVar 14)) ((aCons ((dVar 8)) ((aCons ((dOp (rII fun i j => .int (i - j)) ((dVar 10)) (dC (.int 1)))) (aNil))))))))))))) ((dLst (dNil)))))) (dIfS (dB (dOp rNeD ((dVar 13)) ((dRep ((dCons ((dTup ((dCons (dC (.str "refused")) ((dCons (dC (.int 0)) (dNil))))))) (dNil))) ((dCall cLenF ((dCons ((dVar 13)) (dNil))))))))) (dRet (dC (.bl false))) (dNext))
def t_law_b1_9 (c_Turns : Nat) : TSd := dSeq (dIfS (dNeK 5 "rows" ((dMeth 4 c_Turns "turns" (S_Turns_turns c_Turns) (aNil)))) (dRet (dC (.bl false))) (dNext)) ((t_law_b1_10 c_Turns))
def t_law_b1_8 (c_Turns : Nat) : TSd := dSeq (dFor (diRange1 ((dCons (dC (.int 2)) (dNil)))) (gdName 12) (dIfS (dB (dOp rNeD ((dMeth 4 c_Turns "left_of" (S_Turns_left_of c_Turns) ((aCons ((dVar 12)) ((aCons ((dVar 10)) (aNil))))))) ((dCallO (S_law_due ) ((aAt' 5 ((aCons (dC (.int 2)) ((aCons ((dVar 12)) ((aCons ((dVar 10)) (aNil))))))))))))) (dRet (dC (.bl false))) (dNext))) ((t_law_b1_9 c_Turns))
def t_law_b1_7 (c_Turns : Nat) : TSd := dSeq (dIfS (dOr (dB (dOp rNeD ((dMeth 4 c_Turns "fell" (S_Turns_fell c_Turns) ((aCons ((dVar 10)) (aNil))))) ((dVar 11)))) (dB (dOp rNeD ((dMeth 4 c_Turns "running" (S_Turns_running c_Turns) ((aCons ((dVar 10)) (aNil))))) ((dIf (dB (dOp rIsN ((dVar 11)) (dC .non))) ((dX ((xKey 5 "side")))) (dC .non)))))) (dRet (dC (.bl false))) (dNext)) ((t_law_b1_8 c_Turns))
def t_law_b1_6 (c_Turns : Nat) : TSd := dSeqM (dIfS (dTruF ((dCallO (S_law_is_fallen ) ((aAt' 5 ((aCons ((dVar 10)) (aNil)))))))) (dSet 11 ((dTup ((dCons ((dX ((xKey 5 "side")))) ((dCons ((dOp (rF addF) ((dX ((xKey 5 "since")))) ((dX ((xKIx 5 "left" ((xKey 5 "side")))))))) (dNil)))))))) (dNext)) ((t_law_b1_7 c_Turns))
def t_law_b1_5 (c_Turns : Nat) : TSd := dSeq (dSet 11 (dC .non)) ((t_law_b1_6 c_Turns))
def t_law_b1_4 (c_Turns : Nat) : TSd := dSeq (dSet 10 ((dX ((xKey 5 "now"))))) ((t_law_b1_5 c_Turns))
def t_law_b1_3 (c_Turns : Nat) : TSd := dSeq (dIfS (dB (dOp rNeD ((dCallO (S_law_told c_Turns) ((aAt' 4 ((aCons ((dVar 7)) ((aCons ((dVar 8)) ((aCons ((dVar 9)) (aNil))))))))))) ((dCallO (S_law_due ) ((aAt' 5 ((aCons ((dVar 7)) ((aCons ((dVar 8)) ((aCons ((dVar 9)) (aNil))))))))))))) (dRet (dC (.bl false))) (dNext)) ((t_law_b1_4 c_Turns))
def t_law_b1_2 (c_Turns : Nat) : TSd := dSeq (dSet 9 ((dCall cMax ((dCons (dC (.int 0)) ((dCons ((dOp (rF addF) ((dX ((xKey 5 "now")))) ((dOp (rF ixF) ((dLst ((dCons (dC (.int 0)) ((dCons (dC (.int 1)) ((dCons (dC (.int 3)) ((dCons (dC (.int 8)) ((dCons ((dUn rNegD (dC (.int 4)))) (dNil))))))))))))) ((dCall S_law_drawn ((dCons ((dVar 0)) ((dCons ((dOp (rF addF) (dC (.int 22)) ((dOp (rIC CMul fun i j => .int (i * j)) (dC (.int 5)) ((dVar 6)))))) ((dCons (dC (.int 5)) (dNil))))))))))))) (dNil)))))))) ((t_law_b1_3 c_Turns))
def t_law_b1_1 (c_Turns : Nat) : TSd := dSeq (dSet 8 ((dCall S_law_drawn ((dCons ((dVar 0)) ((dCons ((dOp (rF addF) (dC (.int 21)) ((dOp (rIC CMul fun i j => .int (i * j)) (dC (.int 5)) ((dVar 6)))))) ((dCons (dC (.int 2)) (dNil)))))))))) ((t_law_b1_2 c_Turns))
def t_law_6 (c_Turns : Nat) : TSd := dRet (dC (.bl true))
def t_law_5 (c_Turns : Nat) : TSd := dSeq (dFor (diRange1 ((dCons ((dCall cMax ((dCons (dC (.int 1)) ((dCons ((dCall cMin ((dCons (dC (.int 12)) ((dCons ((dCall cLenF ((dCons ((dVar 0)) (dNil))))) (dNil))))))) (dNil))))))) (dNil)))) (gdName 6) (dSeq (dSet 7 ((dOp (rF ixF) ((dLst ((dCons (dC (.int 0)) ((dCons (dC (.int 1)) ((dCons (dC (.int 1)) ((dCons (dC (.int 1)) ((dCons (dC (.int 2)) (dNil))))))))))))) ((dCall S_law_drawn ((dCons ((dVar 0)) ((dCons ((dOp (rF addF) (dC (.int 20)) ((dOp (rIC CMul fun i j => .int (i * j)) (dC (.int 5)) ((dVar 6)))))) ((dCons (dC (.int 5)) (dNil)))))))))))) ((t_law_b1_1 c_Turns)))) ((t_law_6 c_Turns))
def t_law_4 (c_Turns : Nat) : TSd := dSeq (dRec 5 (pOw "left" ((xCons ((xVar 1)) ((xCons ((xVar 2)) (xNil))))) (pSh "more" ((xVar 3)) (pSh "side" (xC .non) (pSh "since" (xC (.int 0)) (pSh "now" (xC (.int 0)) (pOw "rows" (xNil) (pNil)))))))) ((t_law_5 c_Turns))
def t_law_3 (c_Turns : Nat) : TSd := dSeq (dMake 4 c_Turns (S_Turns_init c_Turns) ((dCons ((dVar 1)) ((dCons ((dVar 2)) ((dCons ((dVar 3)) (dNil)))))))) ((t_law_4 c_Turns))
def t_law_2 (c_Turns : Nat) : TSd := dSeq (dSet 3 ((dCall S_law_drawn ((dCons ((dVar 0)) ((dCons (dC (.int 2)) ((dCons (dC (.int 5)) (dNil)))))))))) ((t_law_3 c_Turns))
def t_law_1 (c_Turns : Nat) : TSd := dSeq (dSet 2 ((dOp (rF addF) (dC (.int 1)) ((dCall S_law_drawn ((dCons ((dVar 0)) ((dCons (dC (.int 1)) ((dCons (dC (.int 30)) (dNil)))))))))))) ((t_law_2 c_Turns))
def t_law (c_Turns : Nat) : TSd := dSeq (dSet 1 ((dOp (rF addF) (dC (.int 1)) ((dCall S_law_drawn ((dCons ((dVar 0)) ((dCons (dC (.int 0)) ((dCons (dC (.int 30)) (dNil)))))))))))) ((t_law_1 c_Turns))
set_option maxHeartbeats 4000000 in
/-- the rest of a round: all is asked -/
theorem rest (C : Nat) {ns : List Int} {a b mo : D} {c : Ts} {m s : Int} {s6 s7 s9 s10 s11 s12 s13 : Sl} {E : EndsD} (hwf : c.wf) (hp : c.pos) (hla : c.la = some m) (hlen : c.en.length < 1000) (hm : 0 ≤ m) (h2 : two s)
    (hE : ∀ s10 s11 s12 s13, E.nx [.sh (scr ns), .sh a, .sh b, .sh mo, .ob none C c.fs, .rc none (mineT m c), s6, s7, .sh (.int s), s9, s10, s11, s12, s13]) :
    t_law_b1_4 C E [.sh (scr ns), .sh a, .sh b, .sh mo, .ob none C c.fs, .rc none (mineT m c), s6, s7, .sh (.int s), s9, s10, s11, s12, s13] := by
  simp! only [t_law_b1_4, t_law_b1_5, t_law_b1_6, mt_now]
  refine ⟨fun δ => δ = [.sh (scr ns), .sh a, .sh b, .sh mo, .ob none C c.fs, .rc none (mineT m c), s6, s7, .sh (.int s), s9, .sh (.int m), .sh (c.fellB m), s12, s13], ?_, ?_⟩
  · simp! only [Dl.dSeq]
    refine ⟨by decide, c, m, m, rfl, hwf, ?_⟩
    rcases hwf with ⟨h1, h3⟩ | ⟨z, x, hz⟩
    · have e : c.fallen m = false := by simp only [Ts.fallen, h1]
      have e2 : c.fellB m = .non := by simp only [Ts.fellB, h1]
      rw [e, e2]
      simp! only [Dl.dSeq]
    · have e : c.fallen m = decide (x + c.lf z ≤ m) := by simp only [Ts.fallen, hz.sd, hz.si]
      by_cases hf : x + c.lf z ≤ m
      · have e2 : c.fellB m = .tup [.int z, .int (x + c.lf z)] := by simp only [Ts.fellB, hz.sd, hz.si, if_pos hf]
        rw [e, decide_eq_true hf, e2]
        simp! only [mt_sd, hz.sd, oi_some, mt_si, hz.si, Option.getD_some, mt_le, ix_two hz.tw]
        rfl
      · have e2 : c.fellB m = .non := by simp only [Ts.fellB, hz.sd, hz.si, if_neg hf]
        rw [e, decide_eq_false hf, e2]
        simp! only [Dl.dSeq]
  · rintro δ' rfl
    have ok : c.ok m := ⟨hwf, by rw [hla]; exact okAt_some (Int.le_refl _), hlen⟩
    have hs := hear_self hla
    have okf : okEq (c.fellB m) (c.fellB m) := by
      unfold Ts.fellB
      split
      · split
        · exact ⟨rfl, rfl, (by show 1 ≤ 60; decide)⟩
        · simp only [okEq_non_non]
      · simp only [okEq_non_non]
    have key : ∀ s11, t_law_b1_8 C E [.sh (scr ns), .sh a, .sh b, .sh mo, .ob none C c.fs, .rc none (mineT m c), s6, s7, .sh (.int s), s9, .sh (.int m), s11, s12, s13] := fun s11 => by
      simp only [t_law_b1_8]
      refine dFor_by (fun _ δ => ∃ s12, δ = [.sh (scr ns), .sh a, .sh b, .sh mo, .ob none C c.fs, .rc none (mineT m c), s6, s7, .sh (.int s), s9, .sh (.int m), s11, s12, s13]) (rangeL 0 2) _ (fun Q h => ?_) ⟨s12, rfl⟩ ?_ ?_
      · simp! only [Dl.dSeq]; exact ⟨by decide, by decide, h⟩
      · rintro i d δ hi ⟨s12, rfl⟩
        obtain ⟨rfl, hlt⟩ := rangeL_get hi
        have tw : two (0 + (i : Int)) := by unfold two; omega
        generalize (0 + (i : Int)) = at_ at tw
        simp! only [nd1, Ts.f_le, Ts.f_mo, Ts.f_la, Ts.f_sd, Ts.f_si, Ts.f_en, Ts.few, Ts.p_le, Ts.p_laI, Ts.p_sdI, Ts.p_siI, Ts.m_begin, Ts.m_press, Ts.m_left_of, Ts.m_fell, Ts.m_running, Ts.m_turns, Ts.m_hear_of, Ts.m_has_fallen, Ts.m_fall, sT_hear_of, sT_has_fallen, sT_press, sT_begin, sT_left_of, sT_fell, sT_running, sT_turns, sT_init, hs]
        refine ⟨tw, ok, c, m, 2, at_, m, rfl, hwf, hp, hlen, tw, .inr (.inr rfl), ?_⟩
        rw [if_neg (by omega)]
        have e2 : (c.told 2 at_ m).2 = c := by unfold Ts.told; rw [if_neg (by decide), if_neg (by decide), if_pos rfl]; exact hs
        have e1 : (c.told 2 at_ m).1 = .int (c.leftB at_ m) := by unfold Ts.told; rw [if_neg (by decide), if_neg (by decide), if_pos rfl]
        rw [e1, e2]
        simp! only [Dl.dSeq]
        exact ⟨_, rfl⟩
      · rintro δ ⟨s12, rfl⟩
        simp! only [t_law_b1_9, t_law_b1_10, nd1, Ts.f_le, Ts.f_mo, Ts.f_la, Ts.f_sd, Ts.f_si, Ts.f_en, Ts.few, Ts.p_le, Ts.p_laI, Ts.p_sdI, Ts.p_siI, Ts.m_begin, Ts.m_press, Ts.m_left_of, Ts.m_fell, Ts.m_running, Ts.m_turns, Ts.m_hear_of, Ts.m_has_fallen, Ts.m_fall, sT_hear_of, sT_has_fallen, sT_press, sT_begin, sT_left_of, sT_fell, sT_running, sT_turns, sT_init, mt_en]
        refine ⟨okLT _ _, ite2 (fun h => absurd h (by rw [eqDL_self]; decide)) fun _ => ?_⟩
        refine ite2 (fun h0 => ?_) fun h0 => ?_
        · refine dCompO_at (rangeL 0 5) (fun _ => some refD) (fun Q' q' => ?_) (fun d hd as => ?_) (by decide +kernel) ?_
          · simp! only [Dl.dSeq]; exact ⟨by decide, by decide, q'⟩
          · obtain ⟨j, hj⟩ := List.mem_iff_getElem?.mp hd
            obtain ⟨rfl, _⟩ := rangeL_get hj
            simp! only [nd1, Ts.f_le, Ts.f_mo, Ts.f_la, Ts.f_sd, Ts.f_si, Ts.f_en, Ts.few, Ts.p_le, Ts.p_laI, Ts.p_sdI, Ts.p_siI, Ts.m_begin, Ts.m_press, Ts.m_left_of, Ts.m_fell, Ts.m_running, Ts.m_turns, Ts.m_hear_of, Ts.m_has_fallen, Ts.m_fall, sT_hear_of, sT_has_fallen, sT_press, sT_begin, sT_left_of, sT_fell, sT_running, sT_turns, sT_init]
            refine ⟨c, _, s, m - 1, rfl, hwf, hlen, h2, ?_⟩
            rw [if_neg (by rw [hla]; unfold okB; simp; omega)]
            simp! only [Dl.dSeq]
            rfl
          · simp! only [Dl.dSeq]
            have er : (rangeL 0 5).filterMap (fun _ => some refD) = [refD, refD, refD, refD, refD] := rfl
            rw [er]
            refine ⟨by decide, by decide, by decide, ⟨by decide +kernel, by decide +kernel, by decide +kernel⟩, ite2 (fun h => absurd h (by show ¬ eqDL [refD, refD, refD, refD, refD] [refD, refD, refD, refD, refD] = false; rw [eqDL_self]; decide)) fun _ => hE _ _ _ _⟩
        · exact ⟨by decide, by decide, by decide, ⟨by decide +kernel, by decide +kernel, by decide +kernel⟩, ite2 (fun h => absurd h (by decide)) fun _ => hE _ _ _ _⟩
    simp! only [t_law_b1_7, nd1, Ts.f_le, Ts.f_mo, Ts.f_la, Ts.f_sd, Ts.f_si, Ts.f_en, Ts.few, Ts.p_le, Ts.p_laI, Ts.p_sdI, Ts.p_siI, Ts.m_begin, Ts.m_press, Ts.m_left_of, Ts.m_fell, Ts.m_running, Ts.m_turns, Ts.m_hear_of, Ts.m_has_fallen, Ts.m_fall, sT_hear_of, sT_has_fallen, sT_press, sT_begin, sT_left_of, sT_fell, sT_running, sT_turns, sT_init, hs]
    refine ⟨ok, okf, ite2 (fun h => absurd h (by rw [eqD_self]; decide)) fun _ => ⟨ok, ?_⟩⟩
    rcases hwf with ⟨h1, h3⟩ | ⟨z, x, hz⟩
    · have e2 : c.fellB m = .non := by simp only [Ts.fellB, h1]
      have e3 : c.runB m = .non := by simp only [Ts.runB, h1]
      rw [e2, e3]
      simp! only [mt_sd, h1, oi_none]
      exact key _
    · by_cases hf : x + c.lf z ≤ m
      · have e2 : c.fellB m = .tup [.int z, .int (x + c.lf z)] := by simp only [Ts.fellB, hz.sd, hz.si, if_pos hf]
        have e3 : c.runB m = .non := by simp only [Ts.runB, hz.sd, hz.si, if_pos hf]
        rw [e2, e3]
        simp! only [Dl.dSeq]
        exact key _
      · have e2 : c.fellB m = .non := by simp only [Ts.fellB, hz.sd, hz.si, if_neg hf]
        have e3 : c.runB m = .int z := by simp only [Ts.runB, hz.sd, hz.si, if_neg hf]
        rw [e2, e3]
        simp! only [mt_sd, hz.sd, oi_some]
        exact key _
set_option maxHeartbeats 4000000 in
theorem r_law (C : Nat) : ∀ ds Q, S_law ds Q → t_law C { nx := fun _ => Q .non, rt := fun d _ => Q d } (startD ["_law_script", "_law_one", "_law_other", "_law_more", "_law_clock", "_law_mine", "_law_k", "_law_way", "_law_side", "_law_now", "_law_here", "_law_fell", "_law_at", "_law_early"] ds) := by
  rintro ds Q ⟨ns, rfl, hl, q⟩
  simp! only [t_law]
  refine use_drawn hl (by decide) (by decide) fun a a0 a1 => ?_
  obtain ⟨S0, eS0⟩ : ∃ S0, S0 = 1 + a := ⟨_, rfl⟩
  simp! only [t_law_1, ← eS0]
  refine use_drawn hl (by decide) (by decide) fun b b0 b1 => ?_
  obtain ⟨S1, eS1⟩ : ∃ S1, S1 = 1 + b := ⟨_, rfl⟩
  simp! only [t_law_2, ← eS1]
  refine use_drawn hl (by decide) (by decide) fun mo mo0 mo1 => ?_
  simp! only [t_law_3, t_law_4, nd1, Ts.f_le, Ts.f_mo, Ts.f_la, Ts.f_sd, Ts.f_si, Ts.f_en, Ts.few, Ts.p_le, Ts.p_laI, Ts.p_sdI, Ts.p_siI, Ts.m_begin, Ts.m_press, Ts.m_left_of, Ts.m_fell, Ts.m_running, Ts.m_turns, Ts.m_hear_of, Ts.m_has_fallen, Ts.m_fall, sT_hear_of, sT_has_fallen, sT_press, sT_begin, sT_left_of, sT_fell, sT_running, sT_turns, sT_init]
  refine ⟨by decide +kernel, by decide, ?_⟩
  simp only [t_law_5]
  refine dFor_by (fun i δ => ∃ (t : Ts) (n : Int) (s6 s7 s8 s9 s10 s11 s12 s13 : Sl), δ = [.sh (scr ns), .sh (.int S0), .sh (.int S1), .sh (.int mo), .ob none C t.fs, .rc none (mineT n t), s6, s7, s8, s9, s10, s11, s12, s13] ∧ t.wf ∧ t.pos ∧ t.en.length ≤ i ∧ 0 ≤ n ∧ (t.la = some n ∨ (t.la = none ∧ n = 0))) (rangeL 0 (max 1 (min 12 (ns.length : Int))).toNat) _ (fun Q h => ?_) ⟨⟨S0, S1, mo, none, none, none, []⟩, 0, .no, .no, .no, .no, .no, .no, .no, .no, rfl, Or.inl ⟨rfl, rfl⟩, ⟨by show 0 < S0; omega, by show 0 < S1; omega, mo0⟩, Nat.le_refl _, Int.le_refl _, Or.inr ⟨rfl, rfl⟩⟩ ?_ ?_
  · simp! only [List.length_map]
    exact ⟨by omega, by omega, h⟩
  · rintro i d δ hi ⟨t, n, s6, s7, s8, s9, s10, s11, s12, s13, rfl, hwf, hp, hlen, hn0, hla⟩
    obtain ⟨rfl, hlt⟩ := rangeL_get hi
    simp! only [Dl.dSeq]
    refine ⟨.inl ⟨by decide, by decide⟩, use_drawn hl (by omega) (by decide) fun w w0 w1 => ?_⟩
    obtain ⟨way, ew, way0⟩ := pickW w0 w1
    simp! only [ew, t_law_b1_1]
    refine ⟨.inl ⟨by decide, by decide⟩, use_drawn hl (by omega) (by decide) fun s s0 s1 => ?_⟩
    have h2 := drawnTwo s0 s1
    simp! only [t_law_b1_2, mt_now]
    refine ⟨.inl ⟨by decide, by decide⟩, use_drawn hl (by omega) (by decide) fun z z0 z1 => ?_⟩
    obtain ⟨y, ey⟩ := pickN z0 z1
    simp! only [ey, t_law_b1_3, nd1, Ts.f_le, Ts.f_mo, Ts.f_la, Ts.f_sd, Ts.f_si, Ts.f_en, Ts.few, Ts.p_le, Ts.p_laI, Ts.p_sdI, Ts.p_siI, Ts.m_begin, Ts.m_press, Ts.m_left_of, Ts.m_fell, Ts.m_running, Ts.m_turns, Ts.m_hear_of, Ts.m_has_fallen, Ts.m_fall, sT_hear_of, sT_has_fallen, sT_press, sT_begin, sT_left_of, sT_fell, sT_running, sT_turns, sT_init]
    generalize hm : max 0 (n + y) = now
    have now0 : 0 ≤ now := by omega
    have hlen2 : t.en.length < 1000 := by omega
    refine ⟨t, way, s, now, rfl, hwf, hlen2, h2, ?_⟩
    by_cases hk : okB t.la now = true
    · rw [if_pos hk]
      have hnn : ¬ now < n := by
        rcases hla with h | ⟨h, h0⟩
        · rw [h] at hk; have := of_decide_eq_true hk; omega
        · omega
      have J := told_inv (now := now) hwf hp h2 way0
      simp! only [Dl.dSeq]
      refine ⟨t, n, way, s, now, rfl, hwf, hp, hlen2, h2, way0, ?_⟩
      rw [if_neg hnn]
      simp! only [Dl.dSeq]
      refine ⟨told_ok way0, ite2 (fun h => absurd h (by rw [eqD_self]; decide)) fun _ => ?_⟩
      generalize (t.told way s now).2 = c at J
      refine rest C J.wf J.ps J.la (by have := J.len; omega) now0 h2 fun t10 t11 t12 t13 => ?_
      exact ⟨c, now, _, _, _, _, _, _, _, _, rfl, J.wf, J.ps, by have := J.len; omega, now0, .inl J.la⟩
    · rw [if_neg hk]
      have hla' : t.la = some n ∧ now < n := by
        rcases hla with h | ⟨h, h0⟩
        · rw [h] at hk; unfold okB at hk; exact ⟨h, by simpa using hk⟩
        · rw [h] at hk; exact absurd rfl hk
      simp! only [Dl.dSeq]
      refine ⟨t, n, way, s, now, rfl, hwf, hp, hlen2, h2, way0, ?_⟩
      rw [if_pos hla'.2]
      simp! only [Dl.dSeq]
      refine ⟨refD_ok, ite2 (fun h => absurd h (by rw [eqD_self]; decide)) fun _ => ?_⟩
      refine rest C hwf hp hla'.1 hlen2 hn0 h2 fun t10 t11 t12 t13 => ?_
      exact ⟨t, n, _, _, _, _, _, _, _, _, rfl, hwf, hp, by omega, hn0, hla⟩
  · rintro δ ⟨t, n, s6, s7, s8, s9, s10, s11, s12, s13, rfl, hwf, hp, hlen, hn0, hla⟩
    simp! only [t_law_6]
    exact q
end Law

namespace Law
open PySem L2 Dl
def top (i : Nat) : Stmt := PySem.Challenge.pw_latebells_k14_turns.main.body.getD i (.Pass ⟨0, 0, 0, 0⟩)
abbrev s_law_cell : Stmt := top 11
abbrev s_law_drawn : Stmt := top 12
abbrev s_Turns_init : Stmt := inClass (top 9) 0
abbrev s_refuse_early : Stmt := top 7
abbrev s_Turns_hear_of : Stmt := inClass (top 9) 7
abbrev s_Turns_begin : Stmt := inClass (top 9) 1
abbrev s_Turns_fall : Stmt := inClass (top 9) 9
abbrev s_Turns_has_fallen : Stmt := inClass (top 9) 8
abbrev s_Turns_press : Stmt := inClass (top 9) 2
abbrev s_Turns_left_of : Stmt := inClass (top 9) 3
abbrev s_Turns_fell : Stmt := inClass (top 9) 4
abbrev s_Turns_running : Stmt := inClass (top 9) 5
abbrev s_law_told : Stmt := top 14
abbrev s_law_is_fallen : Stmt := top 15
abbrev s_law_due : Stmt := top 16
abbrev s_Turns_turns : Stmt := inClass (top 9) 6
abbrev s_law_refused : Stmt := top 13
abbrev s_law : Stmt := top 17
theorem sc_law_cell : FnScope ["_law_script", "_law_k"] ["_law_script", "_law_k"] (defScope s_law_cell) := ⟨rfl, rfl, rfl, by decide +kernel, rfl, by decide +kernel, by decide +kernel⟩
theorem sc_law_drawn : FnScope ["_law_script", "_law_k", "_law_many", "_law_cell_here"] ["_law_script", "_law_k", "_law_many"] (defScope s_law_drawn) := ⟨rfl, rfl, rfl, by decide +kernel, rfl, by decide +kernel, by decide +kernel⟩
theorem sc_Turns_init : FnScope ["self", "one", "other", "more"] ["self", "one", "other", "more"] (defScope s_Turns_init) := ⟨rfl, rfl, rfl, by decide +kernel, rfl, by decide +kernel, by decide +kernel⟩
theorem sc_refuse_early : FnScope ["earlier", "now"] ["earlier", "now"] (defScope s_refuse_early) := ⟨rfl, rfl, rfl, by decide +kernel, rfl, by decide +kernel, by decide +kernel⟩
theorem sc_Turns_hear_of : FnScope ["self", "now"] ["self", "now"] (defScope s_Turns_hear_of) := ⟨rfl, rfl, rfl, by decide +kernel, rfl, by decide +kernel, by decide +kernel⟩
theorem sc_Turns_begin : FnScope ["self", "side", "now"] ["self", "side", "now"] (defScope s_Turns_begin) := ⟨rfl, rfl, rfl, by decide +kernel, rfl, by decide +kernel, by decide +kernel⟩
theorem sc_Turns_fall : FnScope ["self"] ["self"] (defScope s_Turns_fall) := ⟨rfl, rfl, rfl, by decide +kernel, rfl, by decide +kernel, by decide +kernel⟩
theorem sc_Turns_has_fallen : FnScope ["self", "now"] ["self", "now"] (defScope s_Turns_has_fallen) := ⟨rfl, rfl, rfl, by decide +kernel, rfl, by decide +kernel, by decide +kernel⟩
theorem sc_Turns_press : FnScope ["self", "now", "took"] ["self", "now"] (defScope s_Turns_press) := ⟨rfl, rfl, rfl, by decide +kernel, rfl, by decide +kernel, by decide +kernel⟩
theorem sc_Turns_left_of : FnScope ["self", "side", "now"] ["self", "side", "now"] (defScope s_Turns_left_of) := ⟨rfl, rfl, rfl, by decide +kernel, rfl, by decide +kernel, by decide +kernel⟩
theorem sc_Turns_fell : FnScope ["self", "now"] ["self", "now"] (defScope s_Turns_fell) := ⟨rfl, rfl, rfl, by decide +kernel, rfl, by decide +kernel, by decide +kernel⟩
theorem sc_Turns_running : FnScope ["self", "now"] ["self", "now"] (defScope s_Turns_running) := ⟨rfl, rfl, rfl, by decide +kernel, rfl, by decide +kernel, by decide +kernel⟩
theorem sc_law_told : FnScope ["_law_clock", "_law_way", "_law_side", "_law_now", "_law_e"] ["_law_clock", "_law_way", "_law_side", "_law_now"] (defScope s_law_told) := ⟨rfl, rfl, rfl, by decide +kernel, rfl, by decide +kernel, by decide +kernel⟩
theorem sc_law_is_fallen : FnScope ["_law_mine", "_law_now"] ["_law_mine", "_law_now"] (defScope s_law_is_fallen) := ⟨rfl, rfl, rfl, by decide +kernel, rfl, by decide +kernel, by decide +kernel⟩
theorem sc_law_due : FnScope ["_law_mine", "_law_way", "_law_side", "_law_now", "_law_here", "_law_used", "_law_gone"] ["_law_mine", "_law_way", "_law_side", "_law_now"] (defScope s_law_due) := ⟨rfl, rfl, rfl, by decide +kernel, rfl, by decide +kernel, by decide +kernel⟩
theorem sc_Turns_turns : FnScope ["self"] ["self"] (defScope s_Turns_turns) := ⟨rfl, rfl, rfl, by decide +kernel, rfl, by decide +kernel, by decide +kernel⟩
theorem sc_law_refused : FnScope ["_law_e", "_law_flags"] ["_law_e"] (defScope s_law_refused) := ⟨rfl, rfl, rfl, by decide +kernel, rfl, by decide +kernel, by decide +kernel⟩
theorem sc_law : FnScope ["_law_script", "_law_one", "_law_other", "_law_more", "_law_clock", "_law_mine", "_law_k", "_law_way", "_law_side", "_law_now", "_law_here", "_law_fell", "_law_at", "_law_early"] ["_law_script"] (defScope s_law) := ⟨rfl, rfl, rfl, by decide +kernel, rfl, by decide +kernel, by decide +kernel⟩
structure Ad where
  a_law_cell : Addr
  g_law_cell : FuncData
  a_law_drawn : Addr
  g_law_drawn : FuncData
  a_Turns_init : Addr
  g_Turns_init : FuncData
  a_refuse_early : Addr
  g_refuse_early : FuncData
  a_Turns_hear_of : Addr
  g_Turns_hear_of : FuncData
  a_Turns_begin : Addr
  g_Turns_begin : FuncData
  a_Turns_fall : Addr
  g_Turns_fall : FuncData
  a_Turns_has_fallen : Addr
  g_Turns_has_fallen : FuncData
  a_Turns_press : Addr
  g_Turns_press : FuncData
  a_Turns_left_of : Addr
  g_Turns_left_of : FuncData
  a_Turns_fell : Addr
  g_Turns_fell : FuncData
  a_Turns_running : Addr
  g_Turns_running : FuncData
  a_law_told : Addr
  g_law_told : FuncData
  a_law_is_fallen : Addr
  g_law_is_fallen : FuncData
  a_law_due : Addr
  g_law_due : FuncData
  a_Turns_turns : Addr
  g_Turns_turns : FuncData
  a_law_refused : Addr
  g_law_refused : FuncData
  a_law : Addr
  g_law : FuncData
  c_Turns : Addr
  c_Early : Addr
  c_NoClock : Addr
  c_Asleep : Addr
  c_Awake : Addr
  c_RingError : Addr
structure Tx (K : PySem.W.Frag) (mg : Str → Option Value) (t : Ad) : Prop where
  u_law_cell : Fun K "_law_cell" "_law_cell" s_law_cell t.a_law_cell t.g_law_cell
  d_law_cell : Binds K t.g_law_cell ["_law_script", "_law_k"] []
  m_law_cell : mg "_law_cell" = some (.ref t.a_law_cell)
  u_law_drawn : Fun K "_law_drawn" "_law_drawn" s_law_drawn t.a_law_drawn t.g_law_drawn
  d_law_drawn : Binds K t.g_law_drawn ["_law_script", "_law_k", "_law_many"] []
  m_law_drawn : mg "_law_drawn" = some (.ref t.a_law_drawn)
  u_Turns_init : Fun K "__init__" "Turns.__init__" s_Turns_init t.a_Turns_init t.g_Turns_init
  d_Turns_init : Binds K t.g_Turns_init ["self", "one", "other", "more"] []
  h_Turns_init : Meth K t.c_Turns "__init__" t.a_Turns_init
  u_refuse_early : Fun K "refuse_early" "refuse_early" s_refuse_early t.a_refuse_early t.g_refuse_early
  d_refuse_early : Binds K t.g_refuse_early ["earlier", "now"] []
  m_refuse_early : mg "refuse_early" = some (.ref t.a_refuse_early)
  u_Turns_hear_of : Fun K "hear_of" "Turns.hear_of" s_Turns_hear_of t.a_Turns_hear_of t.g_Turns_hear_of
  d_Turns_hear_of : Binds K t.g_Turns_hear_of ["self", "now"] []
  h_Turns_hear_of : Meth K t.c_Turns "hear_of" t.a_Turns_hear_of
  u_Turns_begin : Fun K "begin" "Turns.begin" s_Turns_begin t.a_Turns_begin t.g_Turns_begin
  d_Turns_begin : Binds K t.g_Turns_begin ["self", "side", "now"] []
  h_Turns_begin : Meth K t.c_Turns "begin" t.a_Turns_begin
  u_Turns_fall : Fun K "fall" "Turns.fall" s_Turns_fall t.a_Turns_fall t.g_Turns_fall
  d_Turns_fall : Binds K t.g_Turns_fall ["self"] []
  h_Turns_fall : Meth K t.c_Turns "fall" t.a_Turns_fall
  u_Turns_has_fallen : Fun K "has_fallen" "Turns.has_fallen" s_Turns_has_fallen t.a_Turns_has_fallen t.g_Turns_has_fallen
  d_Turns_has_fallen : Binds K t.g_Turns_has_fallen ["self", "now"] []
  h_Turns_has_fallen : Meth K t.c_Turns "has_fallen" t.a_Turns_has_fallen
  u_Turns_press : Fun K "press" "Turns.press" s_Turns_press t.a_Turns_press t.g_Turns_press
  d_Turns_press : Binds K t.g_Turns_press ["self", "now"] []
  h_Turns_press : Meth K t.c_Turns "press" t.a_Turns_press
  u_Turns_left_of : Fun K "left_of" "Turns.left_of" s_Turns_left_of t.a_Turns_left_of t.g_Turns_left_of
  d_Turns_left_of : Binds K t.g_Turns_left_of ["self", "side", "now"] []
  h_Turns_left_of : Meth K t.c_Turns "left_of" t.a_Turns_left_of
  u_Turns_fell : Fun K "fell" "Turns.fell" s_Turns_fell t.a_Turns_fell t.g_Turns_fell
  d_Turns_fell : Binds K t.g_Turns_fell ["self", "now"] []
  h_Turns_fell : Meth K t.c_Turns "fell" t.a_Turns_fell
  u_Turns_running : Fun K "running" "Turns.running" s_Turns_running t.a_Turns_running t.g_Turns_running
  d_Turns_running : Binds K t.g_Turns_running ["self", "now"] []
  h_Turns_running : Meth K t.c_Turns "running" t.a_Turns_running
  u_law_told : Fun K "_law_told" "_law_told" s_law_told t.a_law_told t.g_law_told
  d_law_told : Binds K t.g_law_told ["_law_clock", "_law_way", "_law_side", "_law_now"] []
  m_law_told : mg "_law_told" = some (.ref t.a_law_told)
  u_law_is_fallen : Fun K "_law_is_fallen" "_law_is_fallen" s_law_is_fallen t.a_law_is_fallen t.g_law_is_fallen
  d_law_is_fallen : Binds K t.g_law_is_fallen ["_law_mine", "_law_now"] []
  m_law_is_fallen : mg "_law_is_fallen" = some (.ref t.a_law_is_fallen)
  u_law_due : Fun K "_law_due" "_law_due" s_law_due t.a_law_due t.g_law_due
  d_law_due : Binds K t.g_law_due ["_law_mine", "_law_way", "_law_side", "_law_now"] []
  m_law_due : mg "_law_due" = some (.ref t.a_law_due)
  u_Turns_turns : Fun K "turns" "Turns.turns" s_Turns_turns t.a_Turns_turns t.g_Turns_turns
  d_Turns_turns : Binds K t.g_Turns_turns ["self"] []
  h_Turns_turns : Meth K t.c_Turns "turns" t.a_Turns_turns
  u_law_refused : Fun K "_law_refused" "_law_refused" s_law_refused t.a_law_refused t.g_law_refused
  d_law_refused : Binds K t.g_law_refused ["_law_e"] []
  m_law_refused : mg "_law_refused" = some (.ref t.a_law_refused)
  u_law : Fun K "law" "law" s_law t.a_law t.g_law
  d_law : Binds K t.g_law ["_law_script"] []
  m_law : mg "law" = some (.ref t.a_law)
  b_ValueError : mg "ValueError" = none
  b_isinstance : mg "isinstance" = none
  b_len : mg "len" = none
  b_list : mg "list" = none
  b_max : mg "max" = none
  b_min : mg "min" = none
  b_range : mg "range" = none
  K_Turns : Cls K t.c_Turns
  n_Turns_ended : NoAttr K t.c_Turns "ended"
  n_Turns_latest : NoAttr K t.c_Turns "latest"
  n_Turns_left : NoAttr K t.c_Turns "left"
  n_Turns_more : NoAttr K t.c_Turns "more"
  n_Turns_side : NoAttr K t.c_Turns "side"
  n_Turns_since : NoAttr K t.c_Turns "since"
  M_Turns : Mk K t.c_Turns t.a_Turns_init
  m_Turns : mg "Turns" = some (.ref t.c_Turns)
  e_Early : mg "Early" = some (.ref t.c_Early)
  e_NoClock : mg "NoClock" = some (.ref t.c_NoClock)
  e_Asleep : mg "Asleep" = some (.ref t.c_Asleep)
  e_Awake : mg "Awake" = some (.ref t.c_Awake)
  e_RingError : mg "RingError" = some (.ref t.c_RingError)
  xC : ExcC K t.c_Early
  k_ValueError : PySem.W.kitOne K (.ref t.c_Early) (.type "ValueError") = some true
  k_Early : PySem.W.kitOne K (.ref t.c_Early) (.ref t.c_Early) = some true
  k_NoClock : PySem.W.kitOne K (.ref t.c_Early) (.ref t.c_NoClock) = some false
  k_Asleep : PySem.W.kitOne K (.ref t.c_Early) (.ref t.c_Asleep) = some false
  k_Awake : PySem.W.kitOne K (.ref t.c_Early) (.ref t.c_Awake) = some false
  q_Early : PySem.W.excIn K t.c_Early [.type "ValueError", .type "Exception", .type "BaseException", .type "object"] "ValueError.__new__" = true
  q_RingError : PySem.W.excIn K t.c_RingError [.type "ValueError", .type "Exception", .type "BaseException", .type "object"] "ValueError.__new__" = true
  n_Early : PySem.W.nsIn K mainGlobals "Early" = some (some (.ref t.c_Early))
  n_RingError : PySem.W.nsIn K mainGlobals "RingError" = some (some (.ref t.c_RingError))
  mr : PySem.W.mroIn K t.c_Early (.ref t.c_RingError) = some true
  nr : t.c_Early ≠ t.c_RingError
section
variable {P : Program} {w : World} {K : PySem.W.Frag} {mg : Str → Option Value} {base : Heap} {t : Ad}
set_option maxHeartbeats 4000000 in
theorem rk_refuse_early (T : Tx K mg t) (KB : K.In base) (NB : base.Ns mainGlobals mg)    : FnOk P w K mg base (CXE P w) 1 t.a_refuse_early t.g_refuse_early ["earlier", "now"] (spR K t.c_Early SR_refuse_early) := by
  have OE := own_in KB NB T.n_Early T.q_Early
  refine fnR (k := 0) T.u_refuse_early sc_refuse_early lr_refuse_early fun cdv A outer s H E n hr W WM => ⟨q_refuse_early (fun _ => True), ?_, rr_refuse_early⟩
  have nd := (sc_refuse_early).nd
  exact (rss_here (rs_if (dt_w (dw_and (dt_isnot (dv 0) de_non) (dw_and1 (dt_lt (dv 1) (dv 0))))) (rss_here (rs_raise WM rfl OE PySem.F.excBase_ValueError rfl rfl rfl)) rss_no))
set_option maxHeartbeats 4000000 in
theorem rk_Turns_hear_of (T : Tx K mg t) (KB : K.In base) (NB : base.Ns mainGlobals mg) (G_refuse_early : FnOk P w K mg base CX0 1 t.a_refuse_early t.g_refuse_early ["earlier", "now"] (spOf K S_refuse_early))  (R_refuse_early : FnOk P w K mg base (CXE P w) 1 t.a_refuse_early t.g_refuse_early ["earlier", "now"] (spR K t.c_Early SR_refuse_early)) : FnOk P w K mg base (CXE P w) 2 t.a_Turns_hear_of t.g_Turns_hear_of ["self", "now"] (spRO K t.c_Early (SR_Turns_hear_of t.c_Turns)) := by
  have OE := own_in KB NB T.n_Early T.q_Early
  refine fnRO (k := 1) (q := q_Turns_hear_of t.c_Turns) T.u_Turns_hear_of sc_Turns_hear_of (lr_Turns_hear_of _) (rr_Turns_hear_of t.c_Turns) fun cdv A outer s H E n Pk hr W WM => ?_
  have nd := (sc_Turns_hear_of).nd
  exact (rss_here (rs_expr (re_call W R_refuse_early (hr.mono (by decide)) T.m_refuse_early T.u_refuse_early.kp T.d_refuse_early (da_cons (dx_de (dx_fld 0 T.K_Turns T.n_Turns_latest)) (da_cons (dv 1) da_nil)))))
set_option maxHeartbeats 4000000 in
theorem rk_Turns_begin (T : Tx K mg t) (KB : K.In base) (NB : base.Ns mainGlobals mg) (G_Turns_hear_of : FnOk P w K mg base CX0 2 t.a_Turns_hear_of t.g_Turns_hear_of ["self", "now"] (spO K (S_Turns_hear_of t.c_Turns)))  (R_Turns_hear_of : FnOk P w K mg base (CXE P w) 2 t.a_Turns_hear_of t.g_Turns_hear_of ["self", "now"] (spRO K t.c_Early (SR_Turns_hear_of t.c_Turns))) : FnOk P w K mg base (CXE P w) 3 t.a_Turns_begin t.g_Turns_begin ["self", "side", "now"] (spRO K t.c_Early (SR_Turns_begin t.c_Turns)) := by
  have OE := own_in KB NB T.n_Early T.q_Early
  refine fnRO (k := 2) (q := q_Turns_begin t.c_Turns) T.u_Turns_begin sc_Turns_begin (lr_Turns_begin _) (rr_Turns_begin t.c_Turns) fun cdv A outer s H E n Pk hr W WM => ?_
  have nd := (sc_Turns_begin).nd
  exact (rss_here (rs_expr (re_meth 0 W T.K_Turns T.h_Turns_hear_of R_Turns_hear_of (hr.mono (by decide)) T.d_Turns_hear_of (dao_cons (dv 2) dao_nil))))
set_option maxHeartbeats 4000000 in
theorem rk_Turns_press (T : Tx K mg t) (KB : K.In base) (NB : base.Ns mainGlobals mg) (G_Turns_hear_of : FnOk P w K mg base CX0 2 t.a_Turns_hear_of t.g_Turns_hear_of ["self", "now"] (spO K (S_Turns_hear_of t.c_Turns))) (G_Turns_has_fallen : FnOk P w K mg base CX0 2 t.a_Turns_has_fallen t.g_Turns_has_fallen ["self", "now"] (spO K (S_Turns_has_fallen t.c_Turns)))  (R_Turns_hear_of : FnOk P w K mg base (CXE P w) 2 t.a_Turns_hear_of t.g_Turns_hear_of ["self", "now"] (spRO K t.c_Early (SR_Turns_hear_of t.c_Turns))) : FnOk P w K mg base (CXE P w) 3 t.a_Turns_press t.g_Turns_press ["self", "now"] (spRO K t.c_Early (SR_Turns_press t.c_Turns)) := by
  have OE := own_in KB NB T.n_Early T.q_Early
  refine fnRO (k := 2) (q := q_Turns_press t.c_Turns) T.u_Turns_press sc_Turns_press (lr_Turns_press _) (rr_Turns_press t.c_Turns) fun cdv A outer s H E n Pk hr W WM => ?_
  have nd := (sc_Turns_press).nd
  exact (rss_here (rs_expr (re_meth 0 W T.K_Turns T.h_Turns_hear_of R_Turns_hear_of (hr.mono (by decide)) T.d_Turns_hear_of (dao_cons (dv 1) dao_nil))))
set_option maxHeartbeats 4000000 in
theorem rk_Turns_left_of (T : Tx K mg t) (KB : K.In base) (NB : base.Ns mainGlobals mg) (G_Turns_hear_of : FnOk P w K mg base CX0 2 t.a_Turns_hear_of t.g_Turns_hear_of ["self", "now"] (spO K (S_Turns_hear_of t.c_Turns)))  (R_Turns_hear_of : FnOk P w K mg base (CXE P w) 2 t.a_Turns_hear_of t.g_Turns_hear_of ["self", "now"] (spRO K t.c_Early (SR_Turns_hear_of t.c_Turns))) : FnOk P w K mg base (CXE P w) 3 t.a_Turns_left_of t.g_Turns_left_of ["self", "side", "now"] (spRO K t.c_Early (SR_Turns_left_of t.c_Turns)) := by
  have OE := own_in KB NB T.n_Early T.q_Early
  refine fnRO (k := 2) (q := q_Turns_left_of t.c_Turns) T.u_Turns_left_of sc_Turns_left_of (lr_Turns_left_of _) (rr_Turns_left_of t.c_Turns) fun cdv A outer s H E n Pk hr W WM => ?_
  have nd := (sc_Turns_left_of).nd
  exact (rss_here (rs_expr (re_meth 0 W T.K_Turns T.h_Turns_hear_of R_Turns_hear_of (hr.mono (by decide)) T.d_Turns_hear_of (dao_cons (dv 2) dao_nil))))
set_option maxHeartbeats 4000000 in
theorem rk_Turns_fell (T : Tx K mg t) (KB : K.In base) (NB : base.Ns mainGlobals mg) (G_Turns_hear_of : FnOk P w K mg base CX0 2 t.a_Turns_hear_of t.g_Turns_hear_of ["self", "now"] (spO K (S_Turns_hear_of t.c_Turns))) (G_Turns_has_fallen : FnOk P w K mg base CX0 2 t.a_Turns_has_fallen t.g_Turns_has_fallen ["self", "now"] (spO K (S_Turns_has_fallen t.c_Turns))) (G_Turns_fall : FnOk P w K mg base CX0 1 t.a_Turns_fall t.g_Turns_fall ["self"] (spO K (S_Turns_fall t.c_Turns)))  (R_Turns_hear_of : FnOk P w K mg base (CXE P w) 2 t.a_Turns_hear_of t.g_Turns_hear_of ["self", "now"] (spRO K t.c_Early (SR_Turns_hear_of t.c_Turns))) : FnOk P w K mg base (CXE P w) 3 t.a_Turns_fell t.g_Turns_fell ["self", "now"] (spRO K t.c_Early (SR_Turns_fell t.c_Turns)) := by
  have OE := own_in KB NB T.n_Early T.q_Early
  refine fnRO (k := 2) (q := q_Turns_fell t.c_Turns) T.u_Turns_fell sc_Turns_fell (lr_Turns_fell _) (rr_Turns_fell t.c_Turns) fun cdv A outer s H E n Pk hr W WM => ?_
  have nd := (sc_Turns_fell).nd
  exact (rss_here (rs_expr (re_meth 0 W T.K_Turns T.h_Turns_hear_of R_Turns_hear_of (hr.mono (by decide)) T.d_Turns_hear_of (dao_cons (dv 1) dao_nil))))
set_option maxHeartbeats 4000000 in
theorem rk_Turns_running (T : Tx K mg t) (KB : K.In base) (NB : base.Ns mainGlobals mg) (G_Turns_hear_of : FnOk P w K mg base CX0 2 t.a_Turns_hear_of t.g_Turns_hear_of ["self", "now"] (spO K (S_Turns_hear_of t.c_Turns))) (G_Turns_has_fallen : FnOk P w K mg base CX0 2 t.a_Turns_has_fallen t.g_Turns_has_fallen ["self", "now"] (spO K (S_Turns_has_fallen t.c_Turns)))  (R_Turns_hear_of : FnOk P w K mg base (CXE P w) 2 t.a_Turns_hear_of t.g_Turns_hear_of ["self", "now"] (spRO K t.c_Early (SR_Turns_hear_of t.c_Turns))) : FnOk P w K mg base (CXE P w) 3 t.a_Turns_running t.g_Turns_running ["self", "now"] (spRO K t.c_Early (SR_Turns_running t.c_Turns)) := by
  have OE := own_in KB NB T.n_Early T.q_Early
  refine fnRO (k := 2) (q := q_Turns_running t.c_Turns) T.u_Turns_running sc_Turns_running (lr_Turns_running _) (rr_Turns_running t.c_Turns) fun cdv A outer s H E n Pk hr W WM => ?_
  have nd := (sc_Turns_running).nd
  exact (rss_here (rs_expr (re_meth 0 W T.K_Turns T.h_Turns_hear_of R_Turns_hear_of (hr.mono (by decide)) T.d_Turns_hear_of (dao_cons (dv 1) dao_nil))))
set_option maxHeartbeats 4000000 in
theorem ok_law_cell (T : Tx K mg t)   : FnOk P w K mg base CX0 1 t.a_law_cell t.g_law_cell ["_law_script", "_law_k"] (spOf K S_law_cell) := by
  refine fnD (k := 0) T.u_law_cell sc_law_cell l_law_cell fun cdv A outer s H E hr => ⟨t_law_cell, ?_, r_law_cell⟩
  have nd := (sc_law_cell).nd
  exact (dss_cons (ds_if (dt_eq hr.units (dv 0) (de_lst da_nil)) (dss_one (ds_ret (de_mul de_int (dv 1)))) dss_nil) (dss_one (ds_ret (de_addF (de_ixF (dv 0) (de_mod (dv 1) (de_lenF T.b_len (da_cons (dv 0) da_nil)))) (de_mul de_int (de_fdiv (dv 1) (de_lenF T.b_len (da_cons (dv 0) da_nil))))))))
set_option maxHeartbeats 4000000 in
theorem ok_law_drawn (T : Tx K mg t) (G_law_cell : FnOk P w K mg base CX0 1 t.a_law_cell t.g_law_cell ["_law_script", "_law_k"] (spOf K S_law_cell))  : FnOk P w K mg base CX0 2 t.a_law_drawn t.g_law_drawn ["_law_script", "_law_k", "_law_many"] (spOf K S_law_drawn) := by
  refine fnD (k := 1) T.u_law_drawn sc_law_drawn l_law_drawn fun cdv A outer s H E hr => ⟨t_law_drawn, ?_, r_law_drawn⟩
  have nd := (sc_law_drawn).nd
  exact (dss_cons (ds_set 3 nd (de_mod (de_addF (de_mul (de_mod (de_call G_law_cell (hr.mono (by decide)) T.m_law_cell T.u_law_cell.kp T.d_law_cell (da_cons (dv 0) (da_cons (dv 1) da_nil))) de_int) de_int) (de_mul de_int (de_addF (dv 1) de_int))) de_int)) (dss_cons (ds_set 3 nd (de_mod (de_addF (de_mul (dv 3) (dv 3)) (de_fdiv (dv 3) de_int)) de_int)) (dss_one (ds_ret (de_mod (de_fdiv (de_mod (de_addF (de_mul (dv 3) (dv 3)) (de_fdiv (dv 3) de_int)) de_int) de_int) (dv 2))))))
set_option maxHeartbeats 4000000 in
theorem ok_Turns_init (T : Tx K mg t)   : FnOk P w K mg base CX0 1 t.a_Turns_init t.g_Turns_init ["self", "one", "other", "more"] (spO K (S_Turns_init t.c_Turns)) := by
  refine fnO (k := 0) T.u_Turns_init sc_Turns_init (l_Turns_init _) fun cdv A outer s H E hr => ⟨t_Turns_init t.c_Turns, ?_, r_Turns_init t.c_Turns⟩
  have nd := (sc_Turns_init).nd
  exact (dss_cons (ds_setL 0 T.K_Turns T.n_Turns_left (da_cons (dv 1) (da_cons (dv 2) da_nil))) (dss_cons (ds_setF 0 T.K_Turns T.n_Turns_more (dv 3)) (dss_cons (ds_setF 0 T.K_Turns T.n_Turns_latest de_non) (dss_cons (ds_setF 0 T.K_Turns T.n_Turns_side de_non) (dss_cons (ds_setF 0 T.K_Turns T.n_Turns_since de_non) (dss_one (ds_setL 0 T.K_Turns T.n_Turns_ended da_nil)))))))
set_option maxHeartbeats 4000000 in
theorem ok_refuse_early (T : Tx K mg t)   : FnOk P w K mg base CX0 1 t.a_refuse_early t.g_refuse_early ["earlier", "now"] (spOf K S_refuse_early) := by
  refine fnD (k := 0) T.u_refuse_early sc_refuse_early l_refuse_early fun cdv A outer s H E hr => ⟨t_refuse_early, ?_, r_refuse_early⟩
  have nd := (sc_refuse_early).nd
  exact (dss_one (ds_if (dt_w (dw_and (dt_isnot (dv 0) de_non) (dw_and1 (dt_lt (dv 1) (dv 0))))) (dss_one ds_never) dss_nil))
set_option maxHeartbeats 4000000 in
theorem ok_Turns_hear_of (T : Tx K mg t) (G_refuse_early : FnOk P w K mg base CX0 1 t.a_refuse_early t.g_refuse_early ["earlier", "now"] (spOf K S_refuse_early))  : FnOk P w K mg base CX0 2 t.a_Turns_hear_of t.g_Turns_hear_of ["self", "now"] (spO K (S_Turns_hear_of t.c_Turns)) := by
  refine fnO (k := 1) T.u_Turns_hear_of sc_Turns_hear_of (l_Turns_hear_of _) fun cdv A outer s H E hr => ⟨t_Turns_hear_of t.c_Turns, ?_, r_Turns_hear_of t.c_Turns⟩
  have nd := (sc_Turns_hear_of).nd
  exact (dss_cons (ds_expr (de_call G_refuse_early (hr.mono (by decide)) T.m_refuse_early T.u_refuse_early.kp T.d_refuse_early (da_cons (dx_de (dx_fld 0 T.K_Turns T.n_Turns_latest)) (da_cons (dv 1) da_nil)))) (dss_one (ds_setF 0 T.K_Turns T.n_Turns_latest (dv 1))))
set_option maxHeartbeats 4000000 in
theorem ok_Turns_begin (T : Tx K mg t) (G_Turns_hear_of : FnOk P w K mg base CX0 2 t.a_Turns_hear_of t.g_Turns_hear_of ["self", "now"] (spO K (S_Turns_hear_of t.c_Turns)))  : FnOk P w K mg base CX0 3 t.a_Turns_begin t.g_Turns_begin ["self", "side", "now"] (spO K (S_Turns_begin t.c_Turns)) := by
  refine fnO (k := 2) T.u_Turns_begin sc_Turns_begin (l_Turns_begin _) fun cdv A outer s H E hr => ⟨t_Turns_begin t.c_Turns, ?_, r_Turns_begin t.c_Turns⟩
  have nd := (sc_Turns_begin).nd
  exact (dss_cons (ds_expr (de_meth 0 T.K_Turns T.h_Turns_hear_of G_Turns_hear_of (hr.mono (by decide)) T.d_Turns_hear_of (dao_cons (dv 2) dao_nil))) (dss_cons (ds_if (dt_isnot (dx_de (dx_fld 0 T.K_Turns T.n_Turns_side)) de_non) (dss_one (ds_ret de_bl)) dss_nil) (dss_cons (ds_setF 0 T.K_Turns T.n_Turns_side (dv 1)) (dss_cons (ds_setF 0 T.K_Turns T.n_Turns_since (dv 2)) (dss_one (ds_ret de_bl))))))
set_option maxHeartbeats 4000000 in
theorem ok_Turns_fall (T : Tx K mg t)   : FnOk P w K mg base CX0 1 t.a_Turns_fall t.g_Turns_fall ["self"] (spO K (S_Turns_fall t.c_Turns)) := by
  refine fnO (k := 0) T.u_Turns_fall sc_Turns_fall (l_Turns_fall _) fun cdv A outer s H E hr => ⟨t_Turns_fall t.c_Turns, ?_, r_Turns_fall t.c_Turns⟩
  have nd := (sc_Turns_fall).nd
  exact (dss_one (ds_ret (de_addF (dx_de (dx_fld 0 T.K_Turns T.n_Turns_since)) (dx_de (dx_fix 0 T.K_Turns T.n_Turns_left (dx_fld 0 T.K_Turns T.n_Turns_side))))))
set_option maxHeartbeats 4000000 in
theorem ok_Turns_has_fallen (T : Tx K mg t) (G_Turns_fall : FnOk P w K mg base CX0 1 t.a_Turns_fall t.g_Turns_fall ["self"] (spO K (S_Turns_fall t.c_Turns)))  : FnOk P w K mg base CX0 2 t.a_Turns_has_fallen t.g_Turns_has_fallen ["self", "now"] (spO K (S_Turns_has_fallen t.c_Turns)) := by
  refine fnO (k := 1) T.u_Turns_has_fallen sc_Turns_has_fallen (l_Turns_has_fallen _) fun cdv A outer s H E hr => ⟨t_Turns_has_fallen t.c_Turns, ?_, r_Turns_has_fallen t.c_Turns⟩
  have nd := (sc_Turns_has_fallen).nd
  exact (dss_one (ds_ret (de_and (de_isnot (dx_de (dx_fld 0 T.K_Turns T.n_Turns_side)) de_non) (de_one (de_le (de_meth0 0 T.K_Turns T.h_Turns_fall G_Turns_fall (hr.mono (by decide)) T.d_Turns_fall) (dv 1))))))
set_option maxHeartbeats 4000000 in
theorem ok_Turns_press (T : Tx K mg t) (G_Turns_hear_of : FnOk P w K mg base CX0 2 t.a_Turns_hear_of t.g_Turns_hear_of ["self", "now"] (spO K (S_Turns_hear_of t.c_Turns))) (G_Turns_has_fallen : FnOk P w K mg base CX0 2 t.a_Turns_has_fallen t.g_Turns_has_fallen ["self", "now"] (spO K (S_Turns_has_fallen t.c_Turns)))  : FnOk P w K mg base CX0 3 t.a_Turns_press t.g_Turns_press ["self", "now"] (spO K (S_Turns_press t.c_Turns)) := by
  refine fnO (k := 2) T.u_Turns_press sc_Turns_press (l_Turns_press _) fun cdv A outer s H E hr => ⟨t_Turns_press t.c_Turns, ?_, r_Turns_press t.c_Turns⟩
  have nd := (sc_Turns_press).nd
  exact (dss_cons (ds_expr (de_meth 0 T.K_Turns T.h_Turns_hear_of G_Turns_hear_of (hr.mono (by decide)) T.d_Turns_hear_of (dao_cons (dv 1) dao_nil))) (dss_cons (ds_if (dt_w (dw_or (dt_is (dx_de (dx_fld 0 T.K_Turns T.n_Turns_side)) de_non) (dw_or1 (dt_truF (de_meth 0 T.K_Turns T.h_Turns_has_fallen G_Turns_has_fallen (hr.mono (by decide)) T.d_Turns_has_fallen (dao_cons (dv 1) dao_nil)))))) (dss_one (ds_ret de_bl)) dss_nil) (dss_cons (ds_set 2 nd (de_sub (dv 1) (dx_de (dx_fld 0 T.K_Turns T.n_Turns_since)))) (dss_cons (ds_faug 0 T.K_Turns T.n_Turns_left ip_add (dx_fld 0 T.K_Turns T.n_Turns_side) (dx_sub (dx_fld 0 T.K_Turns T.n_Turns_more) (dx_var 2))) (dss_cons (ds_fapp 0 T.K_Turns T.n_Turns_ended (dx_tup (dxa_cons (dx_fld 0 T.K_Turns T.n_Turns_side) (dxa_cons (dx_var 2) dxa_nil)))) (dss_cons (ds_setF 0 T.K_Turns T.n_Turns_side (de_sub de_int (dx_de (dx_fld 0 T.K_Turns T.n_Turns_side)))) (dss_cons (ds_setF 0 T.K_Turns T.n_Turns_since (dv 1)) (dss_one (ds_ret de_bl)))))))))
set_option maxHeartbeats 4000000 in
theorem ok_Turns_left_of (T : Tx K mg t) (G_Turns_hear_of : FnOk P w K mg base CX0 2 t.a_Turns_hear_of t.g_Turns_hear_of ["self", "now"] (spO K (S_Turns_hear_of t.c_Turns)))  : FnOk P w K mg base CX0 3 t.a_Turns_left_of t.g_Turns_left_of ["self", "side", "now"] (spO K (S_Turns_left_of t.c_Turns)) := by
  refine fnO (k := 2) T.u_Turns_left_of sc_Turns_left_of (l_Turns_left_of _) fun cdv A outer s H E hr => ⟨t_Turns_left_of t.c_Turns, ?_, r_Turns_left_of t.c_Turns⟩
  have nd := (sc_Turns_left_of).nd
  exact (dss_cons (ds_expr (de_meth 0 T.K_Turns T.h_Turns_hear_of G_Turns_hear_of (hr.mono (by decide)) T.d_Turns_hear_of (dao_cons (dv 2) dao_nil))) (dss_cons (ds_if (dt_ne hr.units (dv 1) (dx_de (dx_fld 0 T.K_Turns T.n_Turns_side))) (dss_one (ds_ret (dx_de (dx_fix 0 T.K_Turns T.n_Turns_left (dx_var 1))))) dss_nil) (dss_one (ds_ret (de_max rfl T.b_max (da_cons de_int (da_cons (de_sub (dx_de (dx_fix 0 T.K_Turns T.n_Turns_left (dx_var 1))) (de_sub (dv 2) (dx_de (dx_fld 0 T.K_Turns T.n_Turns_since)))) da_nil)))))))
set_option maxHeartbeats 4000000 in
theorem ok_Turns_fell (T : Tx K mg t) (G_Turns_hear_of : FnOk P w K mg base CX0 2 t.a_Turns_hear_of t.g_Turns_hear_of ["self", "now"] (spO K (S_Turns_hear_of t.c_Turns))) (G_Turns_has_fallen : FnOk P w K mg base CX0 2 t.a_Turns_has_fallen t.g_Turns_has_fallen ["self", "now"] (spO K (S_Turns_has_fallen t.c_Turns))) (G_Turns_fall : FnOk P w K mg base CX0 1 t.a_Turns_fall t.g_Turns_fall ["self"] (spO K (S_Turns_fall t.c_Turns)))  : FnOk P w K mg base CX0 3 t.a_Turns_fell t.g_Turns_fell ["self", "now"] (spO K (S_Turns_fell t.c_Turns)) := by
  refine fnO (k := 2) T.u_Turns_fell sc_Turns_fell (l_Turns_fell _) fun cdv A outer s H E hr => ⟨t_Turns_fell t.c_Turns, ?_, r_Turns_fell t.c_Turns⟩
  have nd := (sc_Turns_fell).nd
  exact (dss_cons (ds_expr (de_meth 0 T.K_Turns T.h_Turns_hear_of G_Turns_hear_of (hr.mono (by decide)) T.d_Turns_hear_of (dao_cons (dv 1) dao_nil))) (dss_one (ds_ret (de_if (dt_truF (de_meth 0 T.K_Turns T.h_Turns_has_fallen G_Turns_has_fallen (hr.mono (by decide)) T.d_Turns_has_fallen (dao_cons (dv 1) dao_nil))) (de_tup (da_cons (dx_de (dx_fld 0 T.K_Turns T.n_Turns_side)) (da_cons (de_meth0 0 T.K_Turns T.h_Turns_fall G_Turns_fall (hr.mono (by decide)) T.d_Turns_fall) da_nil))) de_non))))
set_option maxHeartbeats 4000000 in
theorem ok_Turns_running (T : Tx K mg t) (G_Turns_hear_of : FnOk P w K mg base CX0 2 t.a_Turns_hear_of t.g_Turns_hear_of ["self", "now"] (spO K (S_Turns_hear_of t.c_Turns))) (G_Turns_has_fallen : FnOk P w K mg base CX0 2 t.a_Turns_has_fallen t.g_Turns_has_fallen ["self", "now"] (spO K (S_Turns_has_fallen t.c_Turns)))  : FnOk P w K mg base CX0 3 t.a_Turns_running t.g_Turns_running ["self", "now"] (spO K (S_Turns_running t.c_Turns)) := by
  refine fnO (k := 2) T.u_Turns_running sc_Turns_running (l_Turns_running _) fun cdv A outer s H E hr => ⟨t_Turns_running t.c_Turns, ?_, r_Turns_running t.c_Turns⟩
  have nd := (sc_Turns_running).nd
  exact (dss_cons (ds_expr (de_meth 0 T.K_Turns T.h_Turns_hear_of G_Turns_hear_of (hr.mono (by decide)) T.d_Turns_hear_of (dao_cons (dv 1) dao_nil))) (dss_one (ds_ret (de_if (dt_truF (de_meth 0 T.K_Turns T.h_Turns_has_fallen G_Turns_has_fallen (hr.mono (by decide)) T.d_Turns_has_fallen (dao_cons (dv 1) dao_nil))) de_non (dx_de (dx_fld 0 T.K_Turns T.n_Turns_side))))))
set_option maxHeartbeats 4000000 in
theorem ok_law_told (T : Tx K mg t) (KB : K.In base) (NB : base.Ns mainGlobals mg) (G_Turns_begin : FnOk P w K mg base CX0 3 t.a_Turns_begin t.g_Turns_begin ["self", "side", "now"] (spO K (S_Turns_begin t.c_Turns))) (G_Turns_press : FnOk P w K mg base CX0 3 t.a_Turns_press t.g_Turns_press ["self", "now"] (spO K (S_Turns_press t.c_Turns))) (G_Turns_left_of : FnOk P w K mg base CX0 3 t.a_Turns_left_of t.g_Turns_left_of ["self", "side", "now"] (spO K (S_Turns_left_of t.c_Turns))) (G_Turns_fell : FnOk P w K mg base CX0 3 t.a_Turns_fell t.g_Turns_fell ["self", "now"] (spO K (S_Turns_fell t.c_Turns))) (G_Turns_running : FnOk P w K mg base CX0 3 t.a_Turns_running t.g_Turns_running ["self", "now"] (spO K (S_Turns_running t.c_Turns)))  (R_Turns_begin : FnOk P w K mg base (CXE P w) 3 t.a_Turns_begin t.g_Turns_begin ["self", "side", "now"] (spRO K t.c_Early (SR_Turns_begin t.c_Turns))) (R_Turns_press : FnOk P w K mg base (CXE P w) 3 t.a_Turns_press t.g_Turns_press ["self", "now"] (spRO K t.c_Early (SR_Turns_press t.c_Turns))) (R_Turns_left_of : FnOk P w K mg base (CXE P w) 3 t.a_Turns_left_of t.g_Turns_left_of ["self", "side", "now"] (spRO K t.c_Early (SR_Turns_left_of t.c_Turns))) (R_Turns_fell : FnOk P w K mg base (CXE P w) 3 t.a_Turns_fell t.g_Turns_fell ["self", "now"] (spRO K t.c_Early (SR_Turns_fell t.c_Turns))) (R_Turns_running : FnOk P w K mg base (CXE P w) 3 t.a_Turns_running t.g_Turns_running ["self", "now"] (spRO K t.c_Early (SR_Turns_running t.c_Turns))) : FnOk P w K mg base CX0 4 t.a_law_told t.g_law_told ["_law_clock", "_law_way", "_law_side", "_law_now"] (spO K (S_law_told t.c_Turns)) := by
  refine fnO (k := 3) T.u_law_told sc_law_told (l_law_told _) fun cdv A outer s H E hr => ⟨t_law_told t.c_Turns, ?_, r_law_told t.c_Turns⟩
  have nd := (sc_law_told).nd
  have BB : Base2 (cxOf CX0 P w K mg base ["_law_clock", "_law_way", "_law_side", "_law_now", "_law_e"] "_law_told" (defScope s_law_told) t.a_law_told cdv A outer s H E) t.c_Early t.c_RingError "RingError" := ⟨⟨_, _, own_in KB NB T.n_RingError T.q_RingError, by decide⟩, base_in KB T.q_Early T.mr T.nr⟩
  exact (dss_one (ds_try (i := 4) rfl rfl BB (dss_cons (ds_if (dt_eq hr.units (dv 1) de_int) (dss_one (ds_ret (de_meth 0 T.K_Turns T.h_Turns_begin G_Turns_begin (hr.mono (by decide)) T.d_Turns_begin (dao_cons (dv 2) (dao_cons (dv 3) dao_nil))))) dss_nil) (dss_cons (ds_if (dt_eq hr.units (dv 1) de_int) (dss_one (ds_ret (de_meth 0 T.K_Turns T.h_Turns_press G_Turns_press (hr.mono (by decide)) T.d_Turns_press (dao_cons (dv 3) dao_nil)))) dss_nil) (dss_cons (ds_if (dt_eq hr.units (dv 1) de_int) (dss_one (ds_ret (de_meth 0 T.K_Turns T.h_Turns_left_of G_Turns_left_of (hr.mono (by decide)) T.d_Turns_left_of (dao_cons (dv 2) (dao_cons (dv 3) dao_nil))))) dss_nil) (dss_one (ds_ret (de_if (dt_eq hr.units (dv 1) de_int) (de_meth 0 T.K_Turns T.h_Turns_fell G_Turns_fell (hr.mono (by decide)) T.d_Turns_fell (dao_cons (dv 3) dao_nil)) (de_meth 0 T.K_Turns T.h_Turns_running G_Turns_running (hr.mono (by decide)) T.d_Turns_running (dao_cons (dv 3) dao_nil)))))))) (fun n pn xe Pk W => (rss_if (dt_eq hr.units (dv 1) de_int) (rss_here (rs_ret (re_meth 0 W T.K_Turns T.h_Turns_begin R_Turns_begin (hr.mono (by decide)) T.d_Turns_begin (dao_cons (dv 2) (dao_cons (dv 3) dao_nil))))) (rss_if (dt_eq hr.units (dv 1) de_int) (rss_here (rs_ret (re_meth 0 W T.K_Turns T.h_Turns_press R_Turns_press (hr.mono (by decide)) T.d_Turns_press (dao_cons (dv 3) dao_nil)))) (rss_if (dt_eq hr.units (dv 1) de_int) (rss_here (rs_ret (re_meth 0 W T.K_Turns T.h_Turns_left_of R_Turns_left_of (hr.mono (by decide)) T.d_Turns_left_of (dao_cons (dv 2) (dao_cons (dv 3) dao_nil))))) (rss_here (rs_ret (re_if (dt_eq hr.units (dv 1) de_int) (re_meth 0 W T.K_Turns T.h_Turns_fell R_Turns_fell (hr.mono (by decide)) T.d_Turns_fell (dao_cons (dv 3) dao_nil)) (re_meth 0 W T.K_Turns T.h_Turns_running R_Turns_running (hr.mono (by decide)) T.d_Turns_running (dao_cons (dv 3) dao_nil))))))))) (suite_ok (i := 4) T.u_law_refused sc_law_refused rfl hr rfl rfl T.d_law_refused T.m_law_refused (fun ea oe cdv2 s2 H2 hcls => ⟨t_law_refused ea, (by exact (dss_cons (ds_set 1 (show List.Nodup (α := Str) ["_law_e", "_law_flags"] by decide +kernel) (de_lst (da_cons (de_isE (c := .ref t.c_Early) (cv := .ref t.c_Early) 0 List.mem_cons_self hcls T.xC rfl (fun _ h => h) T.k_Early (pe_glob (v := .ref t.c_Early) rfl T.e_Early rfl) T.b_isinstance) (da_cons (de_isE (c := .ref t.c_NoClock) (cv := .ref t.c_NoClock) 0 List.mem_cons_self hcls T.xC rfl (fun _ h => h) T.k_NoClock (pe_glob (v := .ref t.c_NoClock) rfl T.e_NoClock rfl) T.b_isinstance) (da_cons (de_isE (c := .ref t.c_Asleep) (cv := .ref t.c_Asleep) 0 List.mem_cons_self hcls T.xC rfl (fun _ h => h) T.k_Asleep (pe_glob (v := .ref t.c_Asleep) rfl T.e_Asleep rfl) T.b_isinstance) da_nil))))) (dss_cons (ds_set 1 (show List.Nodup (α := Str) ["_law_e", "_law_flags"] by decide +kernel) (de_addF (dv 1) (de_lst (da_cons (de_isE (c := .ref t.c_Awake) (cv := .ref t.c_Awake) 0 List.mem_cons_self hcls T.xC rfl (fun _ h => h) T.k_Awake (pe_glob (v := .ref t.c_Awake) rfl T.e_Awake rfl) T.b_isinstance) da_nil)))) (dss_cons (ds_if (dt_w (dw_or (dt_ne (by have z := units3 hr; exact z) (de_cnt (dv 1)) de_int) (dw_or1 (dt_not (dt_truF (de_isE (c := .type "ValueError") (cv := .ty "ValueError") 0 List.mem_cons_self hcls T.xC rfl (fun _ h => h) T.k_ValueError (pe_bltn (v := .ty "ValueError") rfl T.b_ValueError rfl rfl) T.b_isinstance)))))) (dss_one ds_never) dss_nil) (dss_one (ds_ret (de_tup (da_cons de_str (da_cons (de_fst (dv 1)) da_nil))))))))), rf_law_refused ea⟩) rfl (Or.inl rfl) rfl) nd rfl rfl rfl rfl))
set_option maxHeartbeats 4000000 in
theorem ok_law_is_fallen (T : Tx K mg t)   : FnOk P w K mg base CX0 1 t.a_law_is_fallen t.g_law_is_fallen ["_law_mine", "_law_now"] (spO K (S_law_is_fallen)) := by
  refine fnO (k := 0) T.u_law_is_fallen sc_law_is_fallen l_law_is_fallen fun cdv A outer s H E hr => ⟨t_law_is_fallen, ?_, r_law_is_fallen⟩
  have nd := (sc_law_is_fallen).nd
  exact (dss_one (ds_ret (de_and (de_isnot (dx_de (dx_key 0 (by exact units1 hr))) de_non) (de_one (de_ge (de_sub (dv 1) (dx_de (dx_key 0 (by exact units1 hr)))) (dx_de (dx_kix 0 (by exact units1 hr) (dx_key 0 (by exact units1 hr)))))))))
set_option maxHeartbeats 4000000 in
theorem ok_law_due (T : Tx K mg t) (G_law_is_fallen : FnOk P w K mg base CX0 1 t.a_law_is_fallen t.g_law_is_fallen ["_law_mine", "_law_now"] (spO K (S_law_is_fallen)))  : FnOk P w K mg base CX0 2 t.a_law_due t.g_law_due ["_law_mine", "_law_way", "_law_side", "_law_now"] (spO K (S_law_due)) := by
  refine fnO (k := 1) T.u_law_due sc_law_due l_law_due fun cdv A outer s H E hr => ⟨t_law_due, ?_, r_law_due⟩
  have nd := (sc_law_due).nd
  exact (dss_cons (ds_if (dt_lt (dv 3) (dx_de (dx_key 0 (by exact units1 hr)))) (dss_one (ds_ret (de_tup (da_cons de_str (da_cons de_int da_nil))))) dss_nil) (dss_cons (ds_setK 0 (by exact units1 hr) (dv 3)) (dss_cons (ds_if (dt_eq hr.units (dv 1) de_int) (dss_cons (ds_if (dt_isnot (dx_de (dx_key 0 (by exact units1 hr))) de_non) (dss_one (ds_ret de_bl)) dss_nil) (dss_cons (ds_setK 0 (by exact units1 hr) (dv 2)) (dss_cons (ds_setK 0 (by exact units1 hr) (dv 3)) (dss_one (ds_ret de_bl))))) dss_nil) (dss_cons (ds_if (dt_eq hr.units (dv 1) de_int) (dss_cons (ds_if (dt_w (dw_or (dt_is (dx_de (dx_key 0 (by exact units1 hr))) de_non) (dw_or1 (dt_truF (de_callO G_law_is_fallen (hr.mono (by decide)) T.m_law_is_fallen T.u_law_is_fallen.kp T.d_law_is_fallen (dao_at 0 (dao_cons (dv 3) dao_nil))))))) (dss_one (ds_ret de_bl)) dss_nil) (dss_cons (ds_set 4 nd (dx_de (dx_key 0 (by exact units1 hr)))) (dss_cons (ds_set 5 nd (de_sub (dv 3) (dx_de (dx_key 0 (by exact units1 hr))))) (dss_cons (ds_kset 0 (by exact units1 hr) (dx_add (dx_sub (dx_kix 0 (by exact units1 hr) (dx_var 4)) (dx_var 5)) (dx_key 0 (by exact units1 hr))) (dx_var 4)) (dss_cons (ds_kapp 0 (by exact units1 hr) (dx_tup (dxa_cons (dx_var 4) (dxa_cons (dx_var 5) dxa_nil)))) (dss_cons (ds_setK 0 (by exact units1 hr) (de_sub de_int (dv 4))) (dss_cons (ds_setK 0 (by exact units1 hr) (dv 3)) (dss_one (ds_ret de_bl))))))))) dss_nil) (dss_cons (ds_set 6 nd (de_if (dt_eq hr.units (dv 2) (dx_de (dx_key 0 (by exact units1 hr)))) (de_sub (dv 3) (dx_de (dx_key 0 (by exact units1 hr)))) de_int)) (dss_one (ds_ret (de_max rfl T.b_max (da_cons de_int (da_cons (de_sub (dx_de (dx_kix 0 (by exact units1 hr) (dx_var 2))) (dv 6)) da_nil))))))))))
set_option maxHeartbeats 4000000 in
theorem ok_Turns_turns (T : Tx K mg t)   : FnOk P w K mg base CX0 1 t.a_Turns_turns t.g_Turns_turns ["self"] (spO K (S_Turns_turns t.c_Turns)) := by
  refine fnO (k := 0) T.u_Turns_turns sc_Turns_turns (l_Turns_turns _) fun cdv A outer s H E hr => ⟨t_Turns_turns t.c_Turns, ?_, r_Turns_turns t.c_Turns⟩
  have nd := (sc_Turns_turns).nd
  exact (dss_one (ds_ret (de_flist 0 T.K_Turns T.n_Turns_ended T.b_list)))
set_option maxHeartbeats 4000000 in
theorem ok_law (T : Tx K mg t) (G_law_drawn : FnOk P w K mg base CX0 2 t.a_law_drawn t.g_law_drawn ["_law_script", "_law_k", "_law_many"] (spOf K S_law_drawn)) (G_Turns_init : FnOk P w K mg base CX0 1 t.a_Turns_init t.g_Turns_init ["self", "one", "other", "more"] (spO K (S_Turns_init t.c_Turns))) (G_law_told : FnOk P w K mg base CX0 4 t.a_law_told t.g_law_told ["_law_clock", "_law_way", "_law_side", "_law_now"] (spO K (S_law_told t.c_Turns))) (G_law_due : FnOk P w K mg base CX0 2 t.a_law_due t.g_law_due ["_law_mine", "_law_way", "_law_side", "_law_now"] (spO K (S_law_due))) (G_law_is_fallen : FnOk P w K mg base CX0 1 t.a_law_is_fallen t.g_law_is_fallen ["_law_mine", "_law_now"] (spO K (S_law_is_fallen))) (G_Turns_fell : FnOk P w K mg base CX0 3 t.a_Turns_fell t.g_Turns_fell ["self", "now"] (spO K (S_Turns_fell t.c_Turns))) (G_Turns_running : FnOk P w K mg base CX0 3 t.a_Turns_running t.g_Turns_running ["self", "now"] (spO K (S_Turns_running t.c_Turns))) (G_Turns_left_of : FnOk P w K mg base CX0 3 t.a_Turns_left_of t.g_Turns_left_of ["self", "side", "now"] (spO K (S_Turns_left_of t.c_Turns))) (G_Turns_turns : FnOk P w K mg base CX0 1 t.a_Turns_turns t.g_Turns_turns ["self"] (spO K (S_Turns_turns t.c_Turns)))  : FnOk P w K mg base CX0 5 t.a_law t.g_law ["_law_script"] (spOf K S_law) := by
  refine fnD (k := 4) T.u_law sc_law l_law fun cdv A outer s H E hr => ⟨t_law t.c_Turns, ?_, r_law t.c_Turns⟩
  have nd := (sc_law).nd
  exact (dss_cons (ds_set 1 nd (de_addF de_int (de_call G_law_drawn (hr.mono (by decide)) T.m_law_drawn T.u_law_drawn.kp T.d_law_drawn (da_cons (dv 0) (da_cons de_int (da_cons de_int da_nil)))))) (dss_cons (ds_set 2 nd (de_addF de_int (de_call G_law_drawn (hr.mono (by decide)) T.m_law_drawn T.u_law_drawn.kp T.d_law_drawn (da_cons (dv 0) (da_cons de_int (da_cons de_int da_nil)))))) (dss_cons (ds_set 3 nd (de_call G_law_drawn (hr.mono (by decide)) T.m_law_drawn T.u_law_drawn.kp T.d_law_drawn (da_cons (dv 0) (da_cons de_int (da_cons de_int da_nil))))) (dss_cons (ds_make 4 nd T.M_Turns G_Turns_init (hr.mono (by decide)) T.m_Turns T.d_Turns_init (da_cons (dv 1) (da_cons (dv 2) (da_cons (dv 3) da_nil)))) (dss_cons (ds_rec 5 nd (dp_ow (dxa_cons (dx_var 1) (dxa_cons (dx_var 2) dxa_nil)) (dp_sh (dx_var 3) (dp_sh dx_non (dp_sh dx_int (dp_sh dx_int (dp_ow dxa_nil dp_nil)))))) rfl rfl (List.cons_ne_nil _ _) (by decide)) (dss_cons (ds_for PassesOwn.never rfl (di_range1 T.b_range (da_cons (de_max rfl T.b_max (da_cons de_int (da_cons (de_min rfl T.b_min (da_cons de_int (da_cons (de_lenF T.b_len (da_cons (dv 0) da_nil)) da_nil))) da_nil))) da_nil)) (dg_name 6 nd) (dss_cons (ds_set 7 nd (de_ixF (de_lst (by refine da_consL ?_ ?_; exact de_int; refine da_consL ?_ ?_; exact de_int; refine da_consL ?_ ?_; exact de_int; refine da_consL ?_ ?_; exact de_int; refine da_consL ?_ ?_; exact de_int; exact da_nil)) (de_call G_law_drawn (hr.mono (by decide)) T.m_law_drawn T.u_law_drawn.kp T.d_law_drawn (da_cons (dv 0) (da_cons (de_addF de_int (de_mul de_int (dv 6))) (da_cons de_int da_nil)))))) (dss_cons (ds_set 8 nd (de_call G_law_drawn (hr.mono (by decide)) T.m_law_drawn T.u_law_drawn.kp T.d_law_drawn (da_cons (dv 0) (da_cons (de_addF de_int (de_mul de_int (dv 6))) (da_cons de_int da_nil))))) (dss_cons (ds_set 9 nd (de_max rfl T.b_max (da_cons de_int (da_cons (de_addF (dx_de (dx_key 5 (by exact units1 hr))) (de_ixF (de_lst (by refine da_consL ?_ ?_; exact de_int; refine da_consL ?_ ?_; exact de_int; refine da_consL ?_ ?_; exact de_int; refine da_consL ?_ ?_; exact de_int; refine da_consL ?_ ?_; exact (de_neg de_int); exact da_nil)) (de_call G_law_drawn (hr.mono (by decide)) T.m_law_drawn T.u_law_drawn.kp T.d_law_drawn (da_cons (dv 0) (da_cons (de_addF de_int (de_mul de_int (dv 6))) (da_cons de_int da_nil)))))) da_nil)))) (dss_cons (ds_if (dt_ne hr.units (de_callO G_law_told (hr.mono (by decide)) T.m_law_told T.u_law_told.kp T.d_law_told (dao_at 4 (dao_cons (dv 7) (dao_cons (dv 8) (dao_cons (dv 9) dao_nil))))) (de_callO G_law_due (hr.mono (by decide)) T.m_law_due T.u_law_due.kp T.d_law_due (dao_at 5 (dao_cons (dv 7) (dao_cons (dv 8) (dao_cons (dv 9) dao_nil)))))) (dss_one (ds_ret de_bl)) dss_nil) (dss_cons (ds_set 10 nd (dx_de (dx_key 5 (by exact units1 hr)))) (dss_cons (ds_set 11 nd de_non) (dss_consM (ds_if (dt_truF (de_callO G_law_is_fallen (hr.mono (by decide)) T.m_law_is_fallen T.u_law_is_fallen.kp T.d_law_is_fallen (dao_at 5 (dao_cons (dv 10) dao_nil)))) (dss_one (ds_set 11 nd (de_tup (da_cons (dx_de (dx_key 5 (by exact units1 hr))) (da_cons (de_addF (dx_de (dx_key 5 (by exact units1 hr))) (dx_de (dx_kix 5 (by exact units1 hr) (dx_key 5 (by exact units1 hr))))) da_nil))))) dss_nil) (dss_cons (ds_if (dt_w (dw_or (dt_ne hr.units (de_meth 4 T.K_Turns T.h_Turns_fell G_Turns_fell (hr.mono (by decide)) T.d_Turns_fell (dao_cons (dv 10) dao_nil)) (dv 11)) (dw_or1 (dt_ne hr.units (de_meth 4 T.K_Turns T.h_Turns_running G_Turns_running (hr.mono (by decide)) T.d_Turns_running (dao_cons (dv 10) dao_nil)) (de_if (dt_is (dv 11) de_non) (dx_de (dx_key 5 (by exact units1 hr))) de_non))))) (dss_one (ds_ret de_bl)) dss_nil) (dss_cons (ds_for PassesOwn.never rfl (di_range1 T.b_range (da_cons de_int da_nil)) (dg_name 12 nd) (dss_one (ds_if (dt_ne hr.units (de_meth 4 T.K_Turns T.h_Turns_left_of G_Turns_left_of (hr.mono (by decide)) T.d_Turns_left_of (dao_cons (dv 12) (dao_cons (dv 10) dao_nil))) (de_callO G_law_due (hr.mono (by decide)) T.m_law_due T.u_law_due.kp T.d_law_due (dao_at 5 (dao_cons de_int (dao_cons (dv 12) (dao_cons (dv 10) dao_nil)))))) (dss_one (ds_ret de_bl)) dss_nil))) (dss_cons (ds_if (dt_neK 5 hr.units (de_meth0 4 T.K_Turns T.h_Turns_turns G_Turns_turns (hr.mono (by decide)) T.d_Turns_turns)) (dss_one (ds_ret de_bl)) dss_nil) (dss_cons (ds_set 13 nd (de_if (dt_gt (dv 10) de_int) (de_compKO ["_law_script", "_law_one", "_law_other", "_law_more", "_law_clock", "_law_mine", "_law_k", "_law_way", "_law_side", "_law_now", "_law_here", "_law_fell", "!_law_at", "_law_early", "_law_at"] 1 rfl (di_range1 T.b_range (da_cons de_int da_nil)) (fun cl C ex s H => ⟨(dg_name 14 (show List.Nodup (α := Str) ["_law_script", "_law_one", "_law_other", "_law_more", "_law_clock", "_law_mine", "_law_k", "_law_way", "_law_side", "_law_now", "_law_here", "_law_fell", "!_law_at", "_law_early", "_law_at"] by decide +kernel)), dts_nil, (de_callO (by exact G_law_told) (by exact hr.mono (by decide)) (by exact T.m_law_told) (by exact T.u_law_told.kp) (by exact T.d_law_told) (dao_at 4 (dao_cons (dv 14) (dao_cons (dv 8) (dao_cons (de_sub (dv 10) de_int) dao_nil)))))⟩) (by show compOk ["_law_script", "_law_one", "_law_other", "_law_more", "_law_clock", "_law_mine", "_law_k", "_law_way", "_law_side", "_law_now", "_law_here", "_law_fell", "_law_at", "_law_early"] (defScope s_law) ["_law_script", "_law_one", "_law_other", "_law_more", "_law_clock", "_law_mine", "_law_k", "_law_way", "_law_side", "_law_now", "_law_here", "_law_fell", "!_law_at", "_law_early", "_law_at"] _ 1 = true; decide +kernel) (by intro _; rfl)) (de_lst da_nil)) rfl (by first | exact Or.inl rfl | exact Or.inr rfl) rfl (by first | exact .inl rfl | exact .inr rfl | assumption)) (dss_one (ds_if (dt_ne hr.units (dv 13) (de_rep (da_cons (de_tup (da_cons de_str (da_cons de_int da_nil))) da_nil) (de_lenF T.b_len (da_cons (dv 13) da_nil)))) (dss_one (ds_ret de_bl)) dss_nil)))))))))))))) (dss_one (ds_ret de_bl))))))))
theorem ok_all (T : Tx K mg t) (KB : K.In base) (NB : base.Ns mainGlobals mg) : FnOk P w K mg base CX0 5 t.a_law t.g_law ["_law_script"] (spOf K S_law) := by
  have G_law_cell := ok_law_cell (P := P) (w := w) (base := base) T 
  have G_law_drawn := ok_law_drawn (P := P) (w := w) (base := base) T G_law_cell
  have G_Turns_init := ok_Turns_init (P := P) (w := w) (base := base) T 
  have G_refuse_early := ok_refuse_early (P := P) (w := w) (base := base) T 
  have R_refuse_early := rk_refuse_early (P := P) (w := w) (base := base) T KB NB  
  have G_Turns_hear_of := ok_Turns_hear_of (P := P) (w := w) (base := base) T G_refuse_early
  have R_Turns_hear_of := rk_Turns_hear_of (P := P) (w := w) (base := base) T KB NB G_refuse_early R_refuse_early
  have G_Turns_begin := ok_Turns_begin (P := P) (w := w) (base := base) T G_Turns_hear_of
  have R_Turns_begin := rk_Turns_begin (P := P) (w := w) (base := base) T KB NB G_Turns_hear_of R_Turns_hear_of
  have G_Turns_fall := ok_Turns_fall (P := P) (w := w) (base := base) T 
  have G_Turns_has_fallen := ok_Turns_has_fallen (P := P) (w := w) (base := base) T G_Turns_fall
  have G_Turns_press := ok_Turns_press (P := P) (w := w) (base := base) T G_Turns_hear_of G_Turns_has_fallen
  have R_Turns_press := rk_Turns_press (P := P) (w := w) (base := base) T KB NB G_Turns_hear_of G_Turns_has_fallen R_Turns_hear_of
  have G_Turns_left_of := ok_Turns_left_of (P := P) (w := w) (base := base) T G_Turns_hear_of
  have R_Turns_left_of := rk_Turns_left_of (P := P) (w := w) (base := base) T KB NB G_Turns_hear_of R_Turns_hear_of
  have G_Turns_fell := ok_Turns_fell (P := P) (w := w) (base := base) T G_Turns_hear_of G_Turns_has_fallen G_Turns_fall
  have R_Turns_fell := rk_Turns_fell (P := P) (w := w) (base := base) T KB NB G_Turns_hear_of G_Turns_has_fallen G_Turns_fall R_Turns_hear_of
  have G_Turns_running := ok_Turns_running (P := P) (w := w) (base := base) T G_Turns_hear_of G_Turns_has_fallen
  have R_Turns_running := rk_Turns_running (P := P) (w := w) (base := base) T KB NB G_Turns_hear_of G_Turns_has_fallen R_Turns_hear_of
  have G_law_told := ok_law_told (P := P) (w := w) (base := base) T KB NB G_Turns_begin G_Turns_press G_Turns_left_of G_Turns_fell G_Turns_running R_Turns_begin R_Turns_press R_Turns_left_of R_Turns_fell R_Turns_running
  have G_law_is_fallen := ok_law_is_fallen (P := P) (w := w) (base := base) T 
  have G_law_due := ok_law_due (P := P) (w := w) (base := base) T G_law_is_fallen
  have G_Turns_turns := ok_Turns_turns (P := P) (w := w) (base := base) T 
  exact ok_law T G_law_drawn G_Turns_init G_law_told G_law_due G_law_is_fallen G_Turns_fell G_Turns_running G_Turns_left_of G_Turns_turns
end
theorem tx_mk {K : PySem.W.Frag} {h : Heap} {mg : Str → Option Value} (X : K.In h) (G : h.Ns mainGlobals mg) {C0 : Addr} {f0 : Addr} {od0 an0 : Option Addr} {sl0 : Array (Option Value)} {oc0 kV0 dc0 pm0 cd0 ct0 : Value} {f1 : Addr} {od1 an1 : Option Addr} {sl1 : Array (Option Value)} {oc1 kV1 dc1 pm1 cd1 ct1 : Value} {f2 : Addr} {od2 an2 : Option Addr} {sl2 : Array (Option Value)} {oc2 kV2 dc2 pm2 cd2 ct2 : Value} {f3 : Addr} {od3 an3 : Option Addr} {sl3 : Array (Option Value)} {oc3 kV3 dc3 pm3 cd3 ct3 : Value} {f4 : Addr} {od4 an4 : Option Addr} {sl4 : Array (Option Value)} {oc4 kV4 dc4 pm4 cd4 ct4 : Value} {f5 : Addr} {od5 an5 : Option Addr} {sl5 : Array (Option Value)} {oc5 kV5 dc5 pm5 cd5 ct5 : Value} {f6 : Addr} {od6 an6 : Option Addr} {sl6 : Array (Option Value)} {oc6 kV6 dc6 pm6 cd6 ct6 : Value} {f7 : Addr} {od7 an7 : Option Addr} {sl7 : Array (Option Value)} {oc7 kV7 dc7 pm7 cd7 ct7 : Value} {f8 : Addr} {od8 an8 : Option Addr} {sl8 : Array (Option Value)} {oc8 kV8 dc8 pm8 cd8 ct8 : Value} {f9 : Addr} {od9 an9 : Option Addr} {sl9 : Array (Option Value)} {oc9 kV9 dc9 pm9 cd9 ct9 : Value} {f10 : Addr} {od10 an10 : Option Addr} {sl10 : Array (Option Value)} {oc10 kV10 dc10 pm10 cd10 ct10 : Value} {f11 : Addr} {od11 an11 : Option Addr} {sl11 : Array (Option Value)} {oc11 kV11 dc11 pm11 cd11 ct11 : Value} {f12 : Addr} {od12 an12 : Option Addr} {sl12 : Array (Option Value)} {oc12 kV12 dc12 pm12 cd12 ct12 : Value} {f13 : Addr} {od13 an13 : Option Addr} {sl13 : Array (Option Value)} {oc13 kV13 dc13 pm13 cd13 ct13 : Value} {f14 : Addr} {od14 an14 : Option Addr} {sl14 : Array (Option Value)} {oc14 kV14 dc14 pm14 cd14 ct14 : Value} {f15 : Addr} {od15 an15 : Option Addr} {sl15 : Array (Option Value)} {oc15 kV15 dc15 pm15 cd15 ct15 : Value} {f16 : Addr} {od16 an16 : Option Addr} {sl16 : Array (Option Value)} {oc16 kV16 dc16 pm16 cd16 ct16 : Value} {f17 : Addr} {od17 an17 : Option Addr} {sl17 : Array (Option Value)} {oc17 kV17 dc17 pm17 cd17 ct17 : Value} {CEarly : Addr} {CNoClock : Addr} {CAsleep : Addr} {CAwake : Addr} {CRingError : Addr}
    (aC0 : PySem.W.nsIn K mainGlobals "Turns" = some (some (.ref C0))) (pg0 : PySem.W.plainGet K C0 Str.empty = true) (hd0 : PySem.W.hasDictIn K C0 = true) (po0 : PySem.W.plainOver K C0 = true) (sa0 : PySem.W.findIn K (.ref C0) "__setattr__" = some (some (.builtin "object.__setattr__"))) (mk0 : PySem.W.makesIn K C0 = true) (kc0 : PySem.W.keepIn K (.ref C0) = true) (n0x0 : PySem.W.findIn K (.ref C0) "ended" = some none) (n0x1 : PySem.W.findIn K (.ref C0) "latest" = some none) (n0x2 : PySem.W.findIn K (.ref C0) "left" = some none) (n0x3 : PySem.W.findIn K (.ref C0) "more" = some none) (n0x4 : PySem.W.findIn K (.ref C0) "side" = some none) (n0x5 : PySem.W.findIn K (.ref C0) "since" = some none) (a0 : PySem.W.nsIn K mainGlobals "_law_cell" = some (some (.ref f0))) (l0 : K.lookup f0 = some ⟨oc0, od0, .func (PySem.W.fnOf "_law_cell" "_law_cell" (defArgs s_law_cell) (defBody s_law_cell) (defScope s_law_cell) .none kV0 dc0 pm0 an0 cd0 ct0), sl0⟩) (c0 : PySem.W.codeIn K cd0 "_law_cell" = true) (k0 : PySem.W.keepIn K (.ref f0) = true) (a1 : PySem.W.nsIn K mainGlobals "_law_drawn" = some (some (.ref f1))) (l1 : K.lookup f1 = some ⟨oc1, od1, .func (PySem.W.fnOf "_law_drawn" "_law_drawn" (defArgs s_law_drawn) (defBody s_law_drawn) (defScope s_law_drawn) .none kV1 dc1 pm1 an1 cd1 ct1), sl1⟩) (c1 : PySem.W.codeIn K cd1 "_law_drawn" = true) (k1 : PySem.W.keepIn K (.ref f1) = true) (a2 : PySem.W.findIn K (.ref C0) "__init__" = some (some (.ref f2))) (i2 : PySem.W.isFn K (.ref f2) = true) (l2 : K.lookup f2 = some ⟨oc2, od2, .func (PySem.W.fnOf "__init__" "Turns.__init__" (defArgs s_Turns_init) (defBody s_Turns_init) (defScope s_Turns_init) .none kV2 dc2 pm2 an2 cd2 ct2), sl2⟩) (c2 : PySem.W.codeIn K cd2 "Turns.__init__" = true) (k2 : PySem.W.keepIn K (.ref f2) = true) (a3 : PySem.W.nsIn K mainGlobals "refuse_early" = some (some (.ref f3))) (l3 : K.lookup f3 = some ⟨oc3, od3, .func (PySem.W.fnOf "refuse_early" "refuse_early" (defArgs s_refuse_early) (defBody s_refuse_early) (defScope s_refuse_early) .none kV3 dc3 pm3 an3 cd3 ct3), sl3⟩) (c3 : PySem.W.codeIn K cd3 "refuse_early" = true) (k3 : PySem.W.keepIn K (.ref f3) = true) (a4 : PySem.W.findIn K (.ref C0) "hear_of" = some (some (.ref f4))) (i4 : PySem.W.isFn K (.ref f4) = true) (l4 : K.lookup f4 = some ⟨oc4, od4, .func (PySem.W.fnOf "hear_of" "Turns.hear_of" (defArgs s_Turns_hear_of) (defBody s_Turns_hear_of) (defScope s_Turns_hear_of) .none kV4 dc4 pm4 an4 cd4 ct4), sl4⟩) (c4 : PySem.W.codeIn K cd4 "Turns.hear_of" = true) (k4 : PySem.W.keepIn K (.ref f4) = true) (a5 : PySem.W.findIn K (.ref C0) "begin" = some (some (.ref f5))) (i5 : PySem.W.isFn K (.ref f5) = true) (l5 : K.lookup f5 = some ⟨oc5, od5, .func (PySem.W.fnOf "begin" "Turns.begin" (defArgs s_Turns_begin) (defBody s_Turns_begin) (defScope s_Turns_begin) .none kV5 dc5 pm5 an5 cd5 ct5), sl5⟩) (c5 : PySem.W.codeIn K cd5 "Turns.begin" = true) (k5 : PySem.W.keepIn K (.ref f5) = true) (a6 : PySem.W.findIn K (.ref C0) "fall" = some (some (.ref f6))) (i6 : PySem.W.isFn K (.ref f6) = true) (l6 : K.lookup f6 = some ⟨oc6, od6, .func (PySem.W.fnOf "fall" "Turns.fall" (defArgs s_Turns_fall) (defBody s_Turns_fall) (defScope s_Turns_fall) .none kV6 dc6 pm6 an6 cd6 ct6), sl6⟩) (c6 : PySem.W.codeIn K cd6 "Turns.fall" = true) (k6 : PySem.W.keepIn K (.ref f6) = true) (a7 : PySem.W.findIn K (.ref C0) "has_fallen" = some (some (.ref f7))) (i7 : PySem.W.isFn K (.ref f7) = true) (l7 : K.lookup f7 = some ⟨oc7, od7, .func (PySem.W.fnOf "has_fallen" "Turns.has_fallen" (defArgs s_Turns_has_fallen) (defBody s_Turns_has_fallen) (defScope s_Turns_has_fallen) .none kV7 dc7 pm7 an7 cd7 ct7), sl7⟩) (c7 : PySem.W.codeIn K cd7 "Turns.has_fallen" = true) (k7 : PySem.W.keepIn K (.ref f7) = true) (a8 : PySem.W.findIn K (.ref C0) "press" = some (some (.ref f8))) (i8 : PySem.W.isFn K (.ref f8) = true) (l8 : K.lookup f8 = some ⟨oc8, od8, .func (PySem.W.fnOf "press" "Turns.press" (defArgs s_Turns_press) (defBody s_Turns_press) (defScope s_Turns_press) .none kV8 dc8 pm8 an8 cd8 ct8), sl8⟩) (c8 : PySem.W.codeIn K cd8 "Turns.press" = true) (k8 : PySem.W.keepIn K (.ref f8) = true) (a9 : PySem.W.findIn K (.ref C0) "left_of" = some (some (.ref f9))) (i9 : PySem.W.isFn K (.ref f9) = true) (l9 : K.lookup f9 = some ⟨oc9, od9, .func (PySem.W.fnOf "left_of" "Turns.left_of" (defArgs s_Turns_left_of) (defBody s_Turns_left_of) (defScope s_Turns_left_of) .none kV9 dc9 pm9 an9 cd9 ct9), sl9⟩) (c9 : PySem.W.codeIn K cd9 "Turns.left_of" = true) (k9 : PySem.W.keepIn K (.ref f9) = true) (a10 : PySem.W.findIn K (.ref C0) "fell" = some (some (.ref f10))) (i10 : PySem.W.isFn K (.ref f10) = true) (l10 : K.lookup f10 = some ⟨oc10, od10, .func (PySem.W.fnOf "fell" "Turns.fell" (defArgs s_Turns_fell) (defBody s_Turns_fell) (defScope s_Turns_fell) .none kV10 dc10 pm10 an10 cd10 ct10), sl10⟩) (c10 : PySem.W.codeIn K cd10 "Turns.fell" = true) (k10 : PySem.W.keepIn K (.ref f10) = true) (a11 : PySem.W.findIn K (.ref C0) "running" = some (some (.ref f11))) (i11 : PySem.W.isFn K (.ref f11) = true) (l11 : K.lookup f11 = some ⟨oc11, od11, .func (PySem.W.fnOf "running" "Turns.running" (defArgs s_Turns_running) (defBody s_Turns_running) (defScope s_Turns_running) .none kV11 dc11 pm11 an11 cd11 ct11), sl11⟩) (c11 : PySem.W.codeIn K cd11 "Turns.running" = true) (k11 : PySem.W.keepIn K (.ref f11) = true) (a12 : PySem.W.nsIn K mainGlobals "_law_told" = some (some (.ref f12))) (l12 : K.lookup f12 = some ⟨oc12, od12, .func (PySem.W.fnOf "_law_told" "_law_told" (defArgs s_law_told) (defBody s_law_told) (defScope s_law_told) .none kV12 dc12 pm12 an12 cd12 ct12), sl12⟩) (c12 : PySem.W.codeIn K cd12 "_law_told" = true) (k12 : PySem.W.keepIn K (.ref f12) = true) (a13 : PySem.W.nsIn K mainGlobals "_law_is_fallen" = some (some (.ref f13))) (l13 : K.lookup f13 = some ⟨oc13, od13, .func (PySem.W.fnOf "_law_is_fallen" "_law_is_fallen" (defArgs s_law_is_fallen) (defBody s_law_is_fallen) (defScope s_law_is_fallen) .none kV13 dc13 pm13 an13 cd13 ct13), sl13⟩) (c13 : PySem.W.codeIn K cd13 "_law_is_fallen" = true) (k13 : PySem.W.keepIn K (.ref f13) = true) (a14 : PySem.W.nsIn K mainGlobals "_law_due" = some (some (.ref f14))) (l14 : K.lookup f14 = some ⟨oc14, od14, .func (PySem.W.fnOf "_law_due" "_law_due" (defArgs s_law_due) (defBody s_law_due) (defScope s_law_due) .none kV14 dc14 pm14 an14 cd14 ct14), sl14⟩) (c14 : PySem.W.codeIn K cd14 "_law_due" = true) (k14 : PySem.W.keepIn K (.ref f14) = true) (a15 : PySem.W.findIn K (.ref C0) "turns" = some (some (.ref f15))) (i15 : PySem.W.isFn K (.ref f15) = true) (l15 : K.lookup f15 = some ⟨oc15, od15, .func (PySem.W.fnOf "turns" "Turns.turns" (defArgs s_Turns_turns) (defBody s_Turns_turns) (defScope s_Turns_turns) .none kV15 dc15 pm15 an15 cd15 ct15), sl15⟩) (c15 : PySem.W.codeIn K cd15 "Turns.turns" = true) (k15 : PySem.W.keepIn K (.ref f15) = true) (a16 : PySem.W.nsIn K mainGlobals "_law_refused" = some (some (.ref f16))) (l16 : K.lookup f16 = some ⟨oc16, od16, .func (PySem.W.fnOf "_law_refused" "_law_refused" (defArgs s_law_refused) (defBody s_law_refused) (defScope s_law_refused) .none kV16 dc16 pm16 an16 cd16 ct16), sl16⟩) (c16 : PySem.W.codeIn K cd16 "_law_refused" = true) (k16 : PySem.W.keepIn K (.ref f16) = true) (a17 : PySem.W.nsIn K mainGlobals "law" = some (some (.ref f17))) (l17 : K.lookup f17 = some ⟨oc17, od17, .func (PySem.W.fnOf "law" "law" (defArgs s_law) (defBody s_law) (defScope s_law) .none kV17 dc17 pm17 an17 cd17 ct17), sl17⟩) (c17 : PySem.W.codeIn K cd17 "law" = true) (k17 : PySem.W.keepIn K (.ref f17) = true) (aeEarly : PySem.W.nsIn K mainGlobals "Early" = some (some (.ref CEarly))) (aeNoClock : PySem.W.nsIn K mainGlobals "NoClock" = some (some (.ref CNoClock))) (aeAsleep : PySem.W.nsIn K mainGlobals "Asleep" = some (some (.ref CAsleep))) (aeAwake : PySem.W.nsIn K mainGlobals "Awake" = some (some (.ref CAwake))) (aeRingError : PySem.W.nsIn K mainGlobals "RingError" = some (some (.ref CRingError))) (xq : PySem.W.excIn K CEarly [.type "ValueError", .type "Exception", .type "BaseException", .type "object"] "ValueError.__new__" = true) (xr : PySem.W.excIn K CRingError [.type "ValueError", .type "Exception", .type "BaseException", .type "object"] "ValueError.__new__" = true) (xga : PySem.W.findIn K (.ref CEarly) "__getattribute__" = some (some (.builtin "BaseException.__getattribute__"))) (xgn : PySem.W.findIn K (.ref CEarly) "__getattr__" = some none) (xcl : PySem.W.findIn K (.ref CEarly) "__class__" = some (some (.builtin "object.__class__"))) (xkv : PySem.W.kitOne K (.ref CEarly) (.type "ValueError") = some true) (xkEarly : PySem.W.kitOne K (.ref CEarly) (.ref CEarly) = some true) (xkNoClock : PySem.W.kitOne K (.ref CEarly) (.ref CNoClock) = some false) (xkAsleep : PySem.W.kitOne K (.ref CEarly) (.ref CAsleep) = some false) (xkAwake : PySem.W.kitOne K (.ref CEarly) (.ref CAwake) = some false) (xmr : PySem.W.mroIn K CEarly (.ref CRingError) = some true) (xnr : CEarly ≠ CRingError) (z0 : PySem.W.nsIn K mainGlobals "ValueError" = some none) (z1 : PySem.W.nsIn K mainGlobals "isinstance" = some none) (z2 : PySem.W.nsIn K mainGlobals "len" = some none) (z3 : PySem.W.nsIn K mainGlobals "list" = some none) (z4 : PySem.W.nsIn K mainGlobals "max" = some none) (z5 : PySem.W.nsIn K mainGlobals "min" = some none) (z6 : PySem.W.nsIn K mainGlobals "range" = some none) :
    ∃ t : Ad, Tx K mg t ∧ t.a_law = f17 ∧ t.g_law = PySem.W.fnOf "law" "law" (defArgs s_law) (defBody s_law) (defScope s_law) .none kV17 dc17 pm17 an17 cd17 ct17 := by
  have F0 := fun_mk (st := s_law_cell) l0 c0 k0
  have F1 := fun_mk (st := s_law_drawn) l1 c1 k1
  have F2 := fun_mk (st := s_Turns_init) l2 c2 k2
  have F3 := fun_mk (st := s_refuse_early) l3 c3 k3
  have F4 := fun_mk (st := s_Turns_hear_of) l4 c4 k4
  have F5 := fun_mk (st := s_Turns_begin) l5 c5 k5
  have F6 := fun_mk (st := s_Turns_fall) l6 c6 k6
  have F7 := fun_mk (st := s_Turns_has_fallen) l7 c7 k7
  have F8 := fun_mk (st := s_Turns_press) l8 c8 k8
  have F9 := fun_mk (st := s_Turns_left_of) l9 c9 k9
  have F10 := fun_mk (st := s_Turns_fell) l10 c10 k10
  have F11 := fun_mk (st := s_Turns_running) l11 c11 k11
  have F12 := fun_mk (st := s_law_told) l12 c12 k12
  have F13 := fun_mk (st := s_law_is_fallen) l13 c13 k13
  have F14 := fun_mk (st := s_law_due) l14 c14 k14
  have F15 := fun_mk (st := s_Turns_turns) l15 c15 k15
  have F16 := fun_mk (st := s_law_refused) l16 c16 k16
  have F17 := fun_mk (st := s_law) l17 c17 k17
  exact ⟨⟨f0, _, f1, _, f2, _, f3, _, f4, _, f5, _, f6, _, f7, _, f8, _, f9, _, f10, _, f11, _, f12, _, f13, _, f14, _, f15, _, f16, _, f17, _, C0, CEarly, CNoClock, CAsleep, CAwake, CRingError⟩, ⟨F0, F0.binds (ps := ["_law_script", "_law_k"]) (fun _ _ _ _ _ _ us hl => match us, hl with | [_, _], _ => rfl), PySem.W.mg_of X G a0, F1, F1.binds (ps := ["_law_script", "_law_k", "_law_many"]) (fun _ _ _ _ _ _ us hl => match us, hl with | [_, _, _], _ => rfl), PySem.W.mg_of X G a1, F2, F2.binds (ps := ["self", "one", "other", "more"]) (fun _ _ _ _ _ _ us hl => match us, hl with | [_, _, _, _], _ => rfl), ⟨a2, i2, k2⟩, F3, F3.binds (ps := ["earlier", "now"]) (fun _ _ _ _ _ _ us hl => match us, hl with | [_, _], _ => rfl), PySem.W.mg_of X G a3, F4, F4.binds (ps := ["self", "now"]) (fun _ _ _ _ _ _ us hl => match us, hl with | [_, _], _ => rfl), ⟨a4, i4, k4⟩, F5, F5.binds (ps := ["self", "side", "now"]) (fun _ _ _ _ _ _ us hl => match us, hl with | [_, _, _], _ => rfl), ⟨a5, i5, k5⟩, F6, F6.binds (ps := ["self"]) (fun _ _ _ _ _ _ us hl => match us, hl with | [_], _ => rfl), ⟨a6, i6, k6⟩, F7, F7.binds (ps := ["self", "now"]) (fun _ _ _ _ _ _ us hl => match us, hl with | [_, _], _ => rfl), ⟨a7, i7, k7⟩, F8, F8.binds (ps := ["self", "now"]) (fun _ _ _ _ _ _ us hl => match us, hl with | [_, _], _ => rfl), ⟨a8, i8, k8⟩, F9, F9.binds (ps := ["self", "side", "now"]) (fun _ _ _ _ _ _ us hl => match us, hl with | [_, _, _], _ => rfl), ⟨a9, i9, k9⟩, F10, F10.binds (ps := ["self", "now"]) (fun _ _ _ _ _ _ us hl => match us, hl with | [_, _], _ => rfl), ⟨a10, i10, k10⟩, F11, F11.binds (ps := ["self", "now"]) (fun _ _ _ _ _ _ us hl => match us, hl with | [_, _], _ => rfl), ⟨a11, i11, k11⟩, F12, F12.binds (ps := ["_law_clock", "_law_way", "_law_side", "_law_now"]) (fun _ _ _ _ _ _ us hl => match us, hl with | [_, _, _, _], _ => rfl), PySem.W.mg_of X G a12, F13, F13.binds (ps := ["_law_mine", "_law_now"]) (fun _ _ _ _ _ _ us hl => match us, hl with | [_, _], _ => rfl), PySem.W.mg_of X G a13, F14, F14.binds (ps := ["_law_mine", "_law_way", "_law_side", "_law_now"]) (fun _ _ _ _ _ _ us hl => match us, hl with | [_, _, _, _], _ => rfl), PySem.W.mg_of X G a14, F15, F15.binds (ps := ["self"]) (fun _ _ _ _ _ _ us hl => match us, hl with | [_], _ => rfl), ⟨a15, i15, k15⟩, F16, F16.binds (ps := ["_law_e"]) (fun _ _ _ _ _ _ us hl => match us, hl with | [_], _ => rfl), PySem.W.mg_of X G a16, F17, F17.binds (ps := ["_law_script"]) (fun _ _ _ _ _ _ us hl => match us, hl with | [_], _ => rfl), PySem.W.mg_of X G a17, PySem.W.mg_none_of X G z0, PySem.W.mg_none_of X G z1, PySem.W.mg_none_of X G z2, PySem.W.mg_none_of X G z3, PySem.W.mg_none_of X G z4, PySem.W.mg_none_of X G z5, PySem.W.mg_none_of X G z6, ⟨pg0, hd0, po0, sa0⟩, n0x0, n0x1, n0x2, n0x3, n0x4, n0x5, ⟨mk0, a2, i2, kc0⟩, PySem.W.mg_of X G aC0, PySem.W.mg_of X G aeEarly, PySem.W.mg_of X G aeNoClock, PySem.W.mg_of X G aeAsleep, PySem.W.mg_of X G aeAwake, PySem.W.mg_of X G aeRingError, ⟨⟨_, _, xq, by decide, by decide⟩, xga, xgn, xcl⟩, xkv, xkEarly, xkNoClock, xkAsleep, xkAwake, xq, xr, aeEarly, aeRingError, xmr, xnr⟩, rfl, rfl⟩
theorem law_mk {l : PySem.W.OpenLaw} {w : World} {K : PySem.W.Frag} {h : Heap} {mg : Str → Option Value} {fa : Addr} (X : K.In h) (G : h.Ns mainGlobals mg) (hfa : mg "law" = some (.ref fa)) {C0 : Addr} {f0 : Addr} {od0 an0 : Option Addr} {sl0 : Array (Option Value)} {oc0 kV0 dc0 pm0 cd0 ct0 : Value} {f1 : Addr} {od1 an1 : Option Addr} {sl1 : Array (Option Value)} {oc1 kV1 dc1 pm1 cd1 ct1 : Value} {f2 : Addr} {od2 an2 : Option Addr} {sl2 : Array (Option Value)} {oc2 kV2 dc2 pm2 cd2 ct2 : Value} {f3 : Addr} {od3 an3 : Option Addr} {sl3 : Array (Option Value)} {oc3 kV3 dc3 pm3 cd3 ct3 : Value} {f4 : Addr} {od4 an4 : Option Addr} {sl4 : Array (Option Value)} {oc4 kV4 dc4 pm4 cd4 ct4 : Value} {f5 : Addr} {od5 an5 : Option Addr} {sl5 : Array (Option Value)} {oc5 kV5 dc5 pm5 cd5 ct5 : Value} {f6 : Addr} {od6 an6 : Option Addr} {sl6 : Array (Option Value)} {oc6 kV6 dc6 pm6 cd6 ct6 : Value} {f7 : Addr} {od7 an7 : Option Addr} {sl7 : Array (Option Value)} {oc7 kV7 dc7 pm7 cd7 ct7 : Value} {f8 : Addr} {od8 an8 : Option Addr} {sl8 : Array (Option Value)} {oc8 kV8 dc8 pm8 cd8 ct8 : Value} {f9 : Addr} {od9 an9 : Option Addr} {sl9 : Array (Option Value)} {oc9 kV9 dc9 pm9 cd9 ct9 : Value} {f10 : Addr} {od10 an10 : Option Addr} {sl10 : Array (Option Value)} {oc10 kV10 dc10 pm10 cd10 ct10 : Value} {f11 : Addr} {od11 an11 : Option Addr} {sl11 : Array (Option Value)} {oc11 kV11 dc11 pm11 cd11 ct11 : Value} {f12 : Addr} {od12 an12 : Option Addr} {sl12 : Array (Option Value)} {oc12 kV12 dc12 pm12 cd12 ct12 : Value} {f13 : Addr} {od13 an13 : Option Addr} {sl13 : Array (Option Value)} {oc13 kV13 dc13 pm13 cd13 ct13 : Value} {f14 : Addr} {od14 an14 : Option Addr} {sl14 : Array (Option Value)} {oc14 kV14 dc14 pm14 cd14 ct14 : Value} {f15 : Addr} {od15 an15 : Option Addr} {sl15 : Array (Option Value)} {oc15 kV15 dc15 pm15 cd15 ct15 : Value} {f16 : Addr} {od16 an16 : Option Addr} {sl16 : Array (Option Value)} {oc16 kV16 dc16 pm16 cd16 ct16 : Value} {f17 : Addr} {od17 an17 : Option Addr} {sl17 : Array (Option Value)} {oc17 kV17 dc17 pm17 cd17 ct17 : Value} {CEarly : Addr} {CNoClock : Addr} {CAsleep : Addr} {CAwake : Addr} {CRingError : Addr}
    (aC0 : PySem.W.nsIn K mainGlobals "Turns" = some (some (.ref C0))) (pg0 : PySem.W.plainGet K C0 Str.empty = true) (hd0 : PySem.W.hasDictIn K C0 = true) (po0 : PySem.W.plainOver K C0 = true) (sa0 : PySem.W.findIn K (.ref C0) "__setattr__" = some (some (.builtin "object.__setattr__"))) (mk0 : PySem.W.makesIn K C0 = true) (kc0 : PySem.W.keepIn K (.ref C0) = true) (n0x0 : PySem.W.findIn K (.ref C0) "ended" = some none) (n0x1 : PySem.W.findIn K (.ref C0) "latest" = some none) (n0x2 : PySem.W.findIn K (.ref C0) "left" = some none) (n0x3 : PySem.W.findIn K (.ref C0) "more" = some none) (n0x4 : PySem.W.findIn K (.ref C0) "side" = some none) (n0x5 : PySem.W.findIn K (.ref C0) "since" = some none) (a0 : PySem.W.nsIn K mainGlobals "_law_cell" = some (some (.ref f0))) (l0 : K.lookup f0 = some ⟨oc0, od0, .func (PySem.W.fnOf "_law_cell" "_law_cell" (defArgs s_law_cell) (defBody s_law_cell) (defScope s_law_cell) .none kV0 dc0 pm0 an0 cd0 ct0), sl0⟩) (c0 : PySem.W.codeIn K cd0 "_law_cell" = true) (k0 : PySem.W.keepIn K (.ref f0) = true) (a1 : PySem.W.nsIn K mainGlobals "_law_drawn" = some (some (.ref f1))) (l1 : K.lookup f1 = some ⟨oc1, od1, .func (PySem.W.fnOf "_law_drawn" "_law_drawn" (defArgs s_law_drawn) (defBody s_law_drawn) (defScope s_law_drawn) .none kV1 dc1 pm1 an1 cd1 ct1), sl1⟩) (c1 : PySem.W.codeIn K cd1 "_law_drawn" = true) (k1 : PySem.W.keepIn K (.ref f1) = true) (a2 : PySem.W.findIn K (.ref C0) "__init__" = some (some (.ref f2))) (i2 : PySem.W.isFn K (.ref f2) = true) (l2 : K.lookup f2 = some ⟨oc2, od2, .func (PySem.W.fnOf "__init__" "Turns.__init__" (defArgs s_Turns_init) (defBody s_Turns_init) (defScope s_Turns_init) .none kV2 dc2 pm2 an2 cd2 ct2), sl2⟩) (c2 : PySem.W.codeIn K cd2 "Turns.__init__" = true) (k2 : PySem.W.keepIn K (.ref f2) = true) (a3 : PySem.W.nsIn K mainGlobals "refuse_early" = some (some (.ref f3))) (l3 : K.lookup f3 = some ⟨oc3, od3, .func (PySem.W.fnOf "refuse_early" "refuse_early" (defArgs s_refuse_early) (defBody s_refuse_early) (defScope s_refuse_early) .none kV3 dc3 pm3 an3 cd3 ct3), sl3⟩) (c3 : PySem.W.codeIn K cd3 "refuse_early" = true) (k3 : PySem.W.keepIn K (.ref f3) = true) (a4 : PySem.W.findIn K (.ref C0) "hear_of" = some (some (.ref f4))) (i4 : PySem.W.isFn K (.ref f4) = true) (l4 : K.lookup f4 = some ⟨oc4, od4, .func (PySem.W.fnOf "hear_of" "Turns.hear_of" (defArgs s_Turns_hear_of) (defBody s_Turns_hear_of) (defScope s_Turns_hear_of) .none kV4 dc4 pm4 an4 cd4 ct4), sl4⟩) (c4 : PySem.W.codeIn K cd4 "Turns.hear_of" = true) (k4 : PySem.W.keepIn K (.ref f4) = true) (a5 : PySem.W.findIn K (.ref C0) "begin" = some (some (.ref f5))) (i5 : PySem.W.isFn K (.ref f5) = true) (l5 : K.lookup f5 = some ⟨oc5, od5, .func (PySem.W.fnOf "begin" "Turns.begin" (defArgs s_Turns_begin) (defBody s_Turns_begin) (defScope s_Turns_begin) .none kV5 dc5 pm5 an5 cd5 ct5), sl5⟩) (c5 : PySem.W.codeIn K cd5 "Turns.begin" = true) (k5 : PySem.W.keepIn K (.ref f5) = true) (a6 : PySem.W.findIn K (.ref C0) "fall" = some (some (.ref f6))) (i6 : PySem.W.isFn K (.ref f6) = true) (l6 : K.lookup f6 = some ⟨oc6, od6, .func (PySem.W.fnOf "fall" "Turns.fall" (defArgs s_Turns_fall) (defBody s_Turns_fall) (defScope s_Turns_fall) .none kV6 dc6 pm6 an6 cd6 ct6), sl6⟩) (c6 : PySem.W.codeIn K cd6 "Turns.fall" = true) (k6 : PySem.W.keepIn K (.ref f6) = true) (a7 : PySem.W.findIn K (.ref C0) "has_fallen" = some (some (.ref f7))) (i7 : PySem.W.isFn K (.ref f7) = true) (l7 : K.lookup f7 = some ⟨oc7, od7, .func (PySem.W.fnOf "has_fallen" "Turns.has_fallen" (defArgs s_Turns_has_fallen) (defBody s_Turns_has_fallen) (defScope s_Turns_has_fallen) .none kV7 dc7 pm7 an7 cd7 ct7), sl7⟩) (c7 : PySem.W.codeIn K cd7 "Turns.has_fallen" = true) (k7 : PySem.W.keepIn K (.ref f7) = true) (a8 : PySem.W.findIn K (.ref C0) "press" = some (some (.ref f8))) (i8 : PySem.W.isFn K (.ref f8) = true) (l8 : K.lookup f8 = some ⟨oc8, od8, .func (PySem.W.fnOf "press" "Turns.press" (defArgs s_Turns_press) (defBody s_Turns_press) (defScope s_Turns_press) .none kV8 dc8 pm8 an8 cd8 ct8), sl8⟩) (c8 : PySem.W.codeIn K cd8 "Turns.press" = true) (k8 : PySem.W.keepIn K (.ref f8) = true) (a9 : PySem.W.findIn K (.ref C0) "left_of" = some (some (.ref f9))) (i9 : PySem.W.isFn K (.ref f9) = true) (l9 : K.lookup f9 = some ⟨oc9, od9, .func (PySem.W.fnOf "left_of" "Turns.left_of" (defArgs s_Turns_left_of) (defBody s_Turns_left_of) (defScope s_Turns_left_of) .none kV9 dc9 pm9 an9 cd9 ct9), sl9⟩) (c9 : PySem.W.codeIn K cd9 "Turns.left_of" = true) (k9 : PySem.W.keepIn K (.ref f9) = true) (a10 : PySem.W.findIn K (.ref C0) "fell" = some (some (.ref f10))) (i10 : PySem.W.isFn K (.ref f10) = true) (l10 : K.lookup f10 = some ⟨oc10, od10, .func (PySem.W.fnOf "fell" "Turns.fell" (defArgs s_Turns_fell) (defBody s_Turns_fell) (defScope s_Turns_fell) .none kV10 dc10 pm10 an10 cd10 ct10), sl10⟩) (c10 : PySem.W.codeIn K cd10 "Turns.fell" = true) (k10 : PySem.W.keepIn K (.ref f10) = true) (a11 : PySem.W.findIn K (.ref C0) "running" = some (some (.ref f11))) (i11 : PySem.W.isFn K (.ref f11) = true) (l11 : K.lookup f11 = some ⟨oc11, od11, .func (PySem.W.fnOf "running" "Turns.running" (defArgs s_Turns_running) (defBody s_Turns_running) (defScope s_Turns_running) .none kV11 dc11 pm11 an11 cd11 ct11), sl11⟩) (c11 : PySem.W.codeIn K cd11 "Turns.running" = true) (k11 : PySem.W.keepIn K (.ref f11) = true) (a12 : PySem.W.nsIn K mainGlobals "_law_told" = some (some (.ref f12))) (l12 : K.lookup f12 = some ⟨oc12, od12, .func (PySem.W.fnOf "_law_told" "_law_told" (defArgs s_law_told) (defBody s_law_told) (defScope s_law_told) .none kV12 dc12 pm12 an12 cd12 ct12), sl12⟩) (c12 : PySem.W.codeIn K cd12 "_law_told" = true) (k12 : PySem.W.keepIn K (.ref f12) = true) (a13 : PySem.W.nsIn K mainGlobals "_law_is_fallen" = some (some (.ref f13))) (l13 : K.lookup f13 = some ⟨oc13, od13, .func (PySem.W.fnOf "_law_is_fallen" "_law_is_fallen" (defArgs s_law_is_fallen) (defBody s_law_is_fallen) (defScope s_law_is_fallen) .none kV13 dc13 pm13 an13 cd13 ct13), sl13⟩) (c13 : PySem.W.codeIn K cd13 "_law_is_fallen" = true) (k13 : PySem.W.keepIn K (.ref f13) = true) (a14 : PySem.W.nsIn K mainGlobals "_law_due" = some (some (.ref f14))) (l14 : K.lookup f14 = some ⟨oc14, od14, .func (PySem.W.fnOf "_law_due" "_law_due" (defArgs s_law_due) (defBody s_law_due) (defScope s_law_due) .none kV14 dc14 pm14 an14 cd14 ct14), sl14⟩) (c14 : PySem.W.codeIn K cd14 "_law_due" = true) (k14 : PySem.W.keepIn K (.ref f14) = true) (a15 : PySem.W.findIn K (.ref C0) "turns" = some (some (.ref f15))) (i15 : PySem.W.isFn K (.ref f15) = true) (l15 : K.lookup f15 = some ⟨oc15, od15, .func (PySem.W.fnOf "turns" "Turns.turns" (defArgs s_Turns_turns) (defBody s_Turns_turns) (defScope s_Turns_turns) .none kV15 dc15 pm15 an15 cd15 ct15), sl15⟩) (c15 : PySem.W.codeIn K cd15 "Turns.turns" = true) (k15 : PySem.W.keepIn K (.ref f15) = true) (a16 : PySem.W.nsIn K mainGlobals "_law_refused" = some (some (.ref f16))) (l16 : K.lookup f16 = some ⟨oc16, od16, .func (PySem.W.fnOf "_law_refused" "_law_refused" (defArgs s_law_refused) (defBody s_law_refused) (defScope s_law_refused) .none kV16 dc16 pm16 an16 cd16 ct16), sl16⟩) (c16 : PySem.W.codeIn K cd16 "_law_refused" = true) (k16 : PySem.W.keepIn K (.ref f16) = true) (a17 : PySem.W.nsIn K mainGlobals "law" = some (some (.ref f17))) (l17 : K.lookup f17 = some ⟨oc17, od17, .func (PySem.W.fnOf "law" "law" (defArgs s_law) (defBody s_law) (defScope s_law) .none kV17 dc17 pm17 an17 cd17 ct17), sl17⟩) (c17 : PySem.W.codeIn K cd17 "law" = true) (k17 : PySem.W.keepIn K (.ref f17) = true) (aeEarly : PySem.W.nsIn K mainGlobals "Early" = some (some (.ref CEarly))) (aeNoClock : PySem.W.nsIn K mainGlobals "NoClock" = some (some (.ref CNoClock))) (aeAsleep : PySem.W.nsIn K mainGlobals "Asleep" = some (some (.ref CAsleep))) (aeAwake : PySem.W.nsIn K mainGlobals "Awake" = some (some (.ref CAwake))) (aeRingError : PySem.W.nsIn K mainGlobals "RingError" = some (some (.ref CRingError))) (xq : PySem.W.excIn K CEarly [.type "ValueError", .type "Exception", .type "BaseException", .type "object"] "ValueError.__new__" = true) (xr : PySem.W.excIn K CRingError [.type "ValueError", .type "Exception", .type "BaseException", .type "object"] "ValueError.__new__" = true) (xga : PySem.W.findIn K (.ref CEarly) "__getattribute__" = some (some (.builtin "BaseException.__getattribute__"))) (xgn : PySem.W.findIn K (.ref CEarly) "__getattr__" = some none) (xcl : PySem.W.findIn K (.ref CEarly) "__class__" = some (some (.builtin "object.__class__"))) (xkv : PySem.W.kitOne K (.ref CEarly) (.type "ValueError") = some true) (xkEarly : PySem.W.kitOne K (.ref CEarly) (.ref CEarly) = some true) (xkNoClock : PySem.W.kitOne K (.ref CEarly) (.ref CNoClock) = some false) (xkAsleep : PySem.W.kitOne K (.ref CEarly) (.ref CAsleep) = some false) (xkAwake : PySem.W.kitOne K (.ref CEarly) (.ref CAwake) = some false) (xmr : PySem.W.mroIn K CEarly (.ref CRingError) = some true) (xnr : CEarly ≠ CRingError) (z0 : PySem.W.nsIn K mainGlobals "ValueError" = some none) (z1 : PySem.W.nsIn K mainGlobals "isinstance" = some none) (z2 : PySem.W.nsIn K mainGlobals "len" = some none) (z3 : PySem.W.nsIn K mainGlobals "list" = some none) (z4 : PySem.W.nsIn K mainGlobals "max" = some none) (z5 : PySem.W.nsIn K mainGlobals "min" = some none) (z6 : PySem.W.nsIn K mainGlobals "range" = some none) :
    ∃ fd : FuncData, (∀ (s : Shared) (v : Value), BindsTo s fd ⟨[v], []⟩ [("_law_script", v)]) ∧ ∀ base : Heap, K.In base → base.Ns mainGlobals mg → FnOk l.prog w K mg base CX0 5 fa fd ["_law_script"] (spOf K S_law) := by
  obtain ⟨t, T, e1, e2⟩ := tx_mk X G aC0 pg0 hd0 po0 sa0 mk0 kc0 n0x0 n0x1 n0x2 n0x3 n0x4 n0x5 a0 l0 c0 k0 a1 l1 c1 k1 a2 i2 l2 c2 k2 a3 l3 c3 k3 a4 i4 l4 c4 k4 a5 i5 l5 c5 k5 a6 i6 l6 c6 k6 a7 i7 l7 c7 k7 a8 i8 l8 c8 k8 a9 i9 l9 c9 k9 a10 i10 l10 c10 k10 a11 i11 l11 c11 k11 a12 l12 c12 k12 a13 l13 c13 k13 a14 l14 c14 k14 a15 i15 l15 c15 k15 a16 l16 c16 k16 a17 l17 c17 k17 aeEarly aeNoClock aeAsleep aeAwake aeRingError xq xr xga xgn xcl xkv xkEarly xkNoClock xkAsleep xkAwake xmr xnr z0 z1 z2 z3 z4 z5 z6
  have e := hfa.symm.trans T.m_law
  cases e
  refine ⟨t.g_law, fun s v => ?_, fun base KB NB => ok_all T KB NB⟩
  rw [e2]
  exact .of_eq rfl
theorem walk {l : PySem.W.OpenLaw} {q : Program} {loose : List Str} {XP : (Str → Option Value) → Heap → Prop} {YP : World → Heap → Prop} {d : DefRec} {K : Params → PySem.W.Frag} (hn : l.most = some 63) (hdf : d.params.defaults = [])
    (hY : ∀ (w : World) (h : Heap), YP w h → (K w.params).In h)
    (F : ∀ (w : World) (mg : Str → Option Value) (fa : Addr) (h : Heap), (K w.params).In h → h.Ns mainGlobals mg → mg d.name = some (.ref fa) →
      ∃ fd : FuncData, (∀ (s : Shared) (u : Value), BindsTo s fd ⟨[u], []⟩ [("_law_script", u)]) ∧ ∀ base : Heap, (K w.params).In base → base.Ns mainGlobals mg → FnOk l.prog w (K w.params) mg base CX0 5 fa fd ["_law_script"] (spOf (K w.params) S_law)) :
    PySem.W.WalkO q loose XP YP l.row.toRowW d [] (fun f vs => PySem.call f vs) :=
  L2.walk_of (n := 63) (k := 5) (x := "_law_script") (CX := fun _ => CX0) (sp := fun w => spOf (K w.params) S_law) hn (by decide) hdf ⟨rfl, by decide, by decide⟩ hY F
    (fun w H a ns hl _ hS => ⟨H, [.lst (ns.map D.int)], fun d => d = .bl true, Same.refl _, .cons (.lst hS (DenL.ints ns)) .nil, ⟨ns, rfl, hl, rfl⟩, fun v G' H' d _ dv e => by subst e; exact dv.bl_inv⟩) fun _ _ _ _ _ z => z
end Law
open PySem PySem.W PyProof.Rows
set_option maxRecDepth 100000 in
set_option maxHeartbeats 0 in
theorem PySem.Challenge.cw_latebells_k14_turns_holds : PySem.Challenge.rw_latebells_k14_turns.Holds := by
  w_on; o_law; k_head; (case hw => w_witness2)
  k_fill
  refine Law.walk (l := PySem.Challenge.rw_latebells_k14_turns) rfl rfl (fun w h Y => PySem.W.kIn_of Y) ?F
  case F =>
    intro w mg fa h KX G hmg
    refine' Law.law_mk KX G hmg ?aC0 ?pg0 ?hd0 ?po0 ?sa0 ?mk0 ?kc0 ?n0x0 ?n0x1 ?n0x2 ?n0x3 ?n0x4 ?n0x5 ?a0 ?l0 ?c0 ?k0 ?a1 ?l1 ?c1 ?k1 ?a2 ?i2 ?l2 ?c2 ?k2 ?a3 ?l3 ?c3 ?k3 ?a4 ?i4 ?l4 ?c4 ?k4 ?a5 ?i5 ?l5 ?c5 ?k5 ?a6 ?i6 ?l6 ?c6 ?k6 ?a7 ?i7 ?l7 ?c7 ?k7 ?a8 ?i8 ?l8 ?c8 ?k8 ?a9 ?i9 ?l9 ?c9 ?k9 ?a10 ?i10 ?l10 ?c10 ?k10 ?a11 ?i11 ?l11 ?c11 ?k11 ?a12 ?l12 ?c12 ?k12 ?a13 ?l13 ?c13 ?k13 ?a14 ?l14 ?c14 ?k14 ?a15 ?i15 ?l15 ?c15 ?k15 ?a16 ?l16 ?c16 ?k16 ?a17 ?l17 ?c17 ?k17 ?aeEarly ?aeNoClock ?aeAsleep ?aeAwake ?aeRingError ?xq ?xr ?xga ?xgn ?xcl ?xkv ?xkEarly ?xkNoClock ?xkAsleep ?xkAwake ?xmr ?xnr ?z0 ?z1 ?z2 ?z3 ?z4 ?z5 ?z6
    (case aC0 => k_is); (case pg0 => k_is); (case hd0 => k_is); (case po0 => k_is)
    (case sa0 => k_is); (case mk0 => k_is); (case kc0 => k_is); (case n0x0 => k_is)
    (case n0x1 => k_is); (case n0x2 => k_is); (case n0x3 => k_is); (case n0x4 => k_is)
    (case n0x5 => k_is); (case a0 => k_is); (case l0 => k_is); (case c0 => k_is)
    (case k0 => k_is); (case a1 => k_is); (case l1 => k_is); (case c1 => k_is)
    (case k1 => k_is); (case a2 => k_is); (case i2 => k_is); (case l2 => k_is)
    (case c2 => k_is); (case k2 => k_is); (case a3 => k_is); (case l3 => k_is)
    (case c3 => k_is); (case k3 => k_is); (case a4 => k_is); (case i4 => k_is)
    (case l4 => k_is); (case c4 => k_is); (case k4 => k_is); (case a5 => k_is)
    (case i5 => k_is); (case l5 => k_is); (case c5 => k_is); (case k5 => k_is)
    (case a6 => k_is); (case i6 => k_is); (case l6 => k_is); (case c6 => k_is)
    (case k6 => k_is); (case a7 => k_is); (case i7 => k_is); (case l7 => k_is)
    (case c7 => k_is); (case k7 => k_is); (case a8 => k_is); (case i8 => k_is)
    (case l8 => k_is); (case c8 => k_is); (case k8 => k_is); (case a9 => k_is)
    (case i9 => k_is); (case l9 => k_is); (case c9 => k_is); (case k9 => k_is)
    (case a10 => k_is); (case i10 => k_is); (case l10 => k_is); (case c10 => k_is)
    (case k10 => k_is); (case a11 => k_is); (case i11 => k_is); (case l11 => k_is)
    (case c11 => k_is); (case k11 => k_is); (case a12 => k_is); (case l12 => k_is)
    (case c12 => k_is); (case k12 => k_is); (case a13 => k_is); (case l13 => k_is)
    (case c13 => k_is); (case k13 => k_is); (case a14 => k_is); (case l14 => k_is)
    (case c14 => k_is); (case k14 => k_is); (case a15 => k_is); (case i15 => k_is)
    (case l15 => k_is); (case c15 => k_is); (case k15 => k_is); (case a16 => k_is)
    (case l16 => k_is); (case c16 => k_is); (case k16 => k_is); (case a17 => k_is)
    (case l17 => k_is); (case c17 => k_is); (case k17 => k_is); (case aeEarly => k_is)
    (case aeNoClock => k_is); (case aeAsleep => k_is); (case aeAwake => k_is); (case aeRingError => k_is)
    (case xq => k_exc); (case xr => k_exc); (case xga => k_is); (case xgn => k_is)
    (case xcl => k_is); (case xkv => kit_is); (case xkEarly => kit_is); (case xkNoClock => kit_is)
    (case xkAsleep => kit_is); (case xkAwake => kit_is); (case xmr => k_is); (case xnr => exact (by decide))
    (case z0 => k_is); (case z1 => k_is); (case z2 => k_is); (case z3 => k_is)
    (case z4 => k_is); (case z5 => k_is); (case z6 => k_is)
