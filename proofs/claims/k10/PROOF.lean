import PyProof.Rows.All
import Wide.All
import OpenK.AllK
import Wide.FinOn
import Lean
import PyProof.EqAt
import PyProof.EqKinds
import PyProof.TupleCall
import PyProof.NeData
import PyProof.P3In
import PySem.Challenge.RW_latebells_k10_watches
set_option Elab.async false
set_option linter.all false
set_option maxRecDepth 100000
/-! THE HAND LAYER, for ints, bools, texts, own classes, LISTS and tuples (index, slices, in, append, pop ..), calls, loops. Paste it whole ahead of your own text; what your proof does not reach may be deleted. -/
namespace L2
open PySem PySem.Spec PyProof.Rows

/-- a key: an int or a str -/
abbrev Key := Sum Int Str
def keyIs : Key → Value → Bool
  | .inl k, v => Value.isInt k v
  | .inr x, v => Value.isStrOf x v
def keyH (w : World) : Key → Int
  | .inl k => hashInt k
  | .inr x => hashStr w x
theorem keyIs_shape : ∀ {k : Key} {v : Value}, keyIs k v = true → (∃ i t, k = Sum.inl i ∧ v = Value.int i t) ∨ (∃ x t, k = Sum.inr x ∧ v = Value.str x t)
  | .inl i, v, h => by
    obtain ⟨t, e⟩ := Value.isInt_shape (k := i) (v := v) h
    exact .inl ⟨i, t, rfl, e⟩
  | .inr x, v, h => by
    obtain ⟨t, e⟩ := Value.isStrOf_shape (x := x) (v := v) h
    exact .inr ⟨x, t, rfl, e⟩
theorem keyIs_int (i : Int) (t : Tok) : keyIs (.inl i) (.int i t) = true := by simp [keyIs, Value.isInt]
theorem keyIs_str (x : Str) (t : Tok) : keyIs (.inr x) (.str x t) = true := by simp [keyIs, Value.isStrOf]
theorem key_ll (a b : Int) : decide ((Sum.inl a : Key) = Sum.inl b) = (a == b) := by
  by_cases e : a = b
  · subst e; simp
  · have h : ¬ (Sum.inl a : Key) = Sum.inl b := fun q => e (Sum.inl.inj q)
    rw [decide_eq_false h]
    exact (beq_eq_false_iff_ne.mpr e).symm
theorem key_rr (a b : Str) : decide ((Sum.inr a : Key) = Sum.inr b) = decide (a = b) := by
  by_cases e : a = b
  · subst e; simp
  · have h : ¬ (Sum.inr a : Key) = Sum.inr b := fun q => e (Sum.inr.inj q)
    rw [decide_eq_false h, decide_eq_false e]
theorem key_lr (a : Int) (b : Str) : decide ((Sum.inl a : Key) = Sum.inr b) = false := decide_eq_false (fun q => nomatch q)
theorem key_rl (a : Str) (b : Int) : decide ((Sum.inr a : Key) = Sum.inl b) = false := decide_eq_false (fun q => nomatch q)

def mixKind (prog : Program) (w : World) : PySem.KeyKind prog w Key where
  is := keyIs
  hash := keyH w
  inj := fun v a b ha hb => by
    rcases keyIs_shape ha with ⟨i, t, rfl, rfl⟩ | ⟨x, t, rfl, rfl⟩
    · rcases keyIs_shape hb with ⟨j, u, rfl, e⟩ | ⟨y, u, rfl, e⟩
      · injection e with e1 _; rw [e1]
      · exact nomatch e
    · rcases keyIs_shape hb with ⟨j, u, rfl, e⟩ | ⟨y, u, rfl, e⟩
      · exact nomatch e
      · injection e with e1 _; rw [e1]
  byValue := fun k v h => by
    rcases keyIs_shape h with ⟨i, t, rfl, rfl⟩ | ⟨x, t, rfl, rfl⟩ <;> rfl
  pyHash := fun hv h => by
    rcases keyIs_shape hv with ⟨i, t, rfl, rfl⟩ | ⟨x, t, rfl, rfl⟩
    · exact wpAny_pyHash_int h
    · exact wpAny_pyHash_str h
  eqBool := fun hu hv h => by
    rcases keyIs_shape hu with ⟨i, t, rfl, rfl⟩ | ⟨x, t, rfl, rfl⟩
    · rcases keyIs_shape hv with ⟨j, u, rfl, rfl⟩ | ⟨y, u, rfl, rfl⟩
      · rw [key_ll] at h; exact wpAny_eqBool_int h
      · rw [key_lr] at h; exact SeqAt.EqAt.int_str i t y u _ _ _ _ h
    · rcases keyIs_shape hv with ⟨j, u, rfl, rfl⟩ | ⟨y, u, rfl, rfl⟩
      · rw [key_rl] at h; exact SeqAt.EqAt.str_int x t j u _ _ _ _ h
      · rw [key_rr] at h; exact wpAny_eqBool_str h
  «strs» := fun k x t v h => by
    rcases keyIs_shape h with ⟨i, u, rfl, e⟩ | ⟨y, u, rfl, e⟩
    · exact nomatch e
    · injection e with e1 _
      subst e1
      cases v <;> rfl

theorem mixKind_is (prog : Program) (w : World) (k : Key) (v : Value) : (mixKind prog w).is k v = keyIs k v := rfl
theorem mixKind_int (prog : Program) (w : World) (i : Int) (t : Tok) : (mixKind prog w).is (.inl i) (.int i t) = true := keyIs_int i t
theorem mixKind_str (prog : Program) (w : World) (x : Str) (t : Tok) : (mixKind prog w).is (.inr x) (.str x t) = true := keyIs_str x t
end L2

namespace L2
open PySem PySem.Spec PyProof.Rows

/-- a value, without the heap -/
inductive V where
  | non | bl (b : Bool) | int (i : Int) | str (x : Str) | byt (b : Array UInt8) | flt (b : UInt64) | ref (a : Addr) | ty (n : String)
  deriving DecidableEq

def RelV : V → Value → Prop
  | .non, u => u = Value.none
  | .bl b, u => u = Value.bool b
  | .int i, u => ∃ t, u = Value.int i t
  | .str x, u => ∃ t, u = Value.str x t
  | .byt b, u => ∃ t, u = Value.bytes b t
  | .flt b, u => ∃ t, u = Value.float b t
  | .ref a, u => u = Value.ref a
  | .ty n, u => u = Value.type n

abbrev Vals : List V → List Value → Prop := Paired RelV
theorem Vals.length {xs : List V} {us : List Value} (r : Vals xs us) : xs.length = us.length := Paired.length r
theorem Vals.get : ∀ {xs : List V} {us : List Value} {i : Nat} {x : V}, Vals xs us → xs[i]? = some x → ∃ u, us[i]? = some u ∧ RelV x u
  | _, _, _, _, .nil, e => by simp at e
  | _, _, 0, _, .cons r _, e => by simp at e; subst e; exact ⟨_, rfl, r⟩
  | _, _, i + 1, x, .cons _ t, e => by
    obtain ⟨u, h1, h2⟩ := Vals.get (i := i) (x := x) t (by simpa using e)
    exact ⟨u, by simpa using h1, h2⟩
theorem Vals.set {x : V} {u : Value} (r : RelV x u) : ∀ {xs : List V} {us : List Value} (i : Nat), Vals xs us → Vals (xs.set i x) (us.set i u)
  | _, _, _, .nil => .nil
  | _, _, 0, .cons _ t => .cons r t
  | _, _, i + 1, .cons q t => .cons q (Vals.set r i t)
theorem Vals.append : ∀ {xs ys : List V} {us ws : List Value}, Vals xs us → Vals ys ws → Vals (xs ++ ys) (us ++ ws)
  | _, _, _, _, .nil, s => s
  | _, _, _, _, .cons r t, s => .cons r (Vals.append t s)
theorem Vals.take : ∀ {xs : List V} {us : List Value} (n : Nat), Vals xs us → Vals (xs.take n) (us.take n)
  | _, _, 0, _ => .nil
  | _, _, _ + 1, .nil => .nil
  | _, _, n + 1, .cons r t => .cons r (Vals.take n t)
theorem Vals.drop : ∀ {xs : List V} {us : List Value} (n : Nat), Vals xs us → Vals (xs.drop n) (us.drop n)
  | _, _, 0, r => r
  | _, _, _ + 1, .nil => .nil
  | _, _, n + 1, .cons _ t => Vals.drop n t
theorem Vals.none_of : ∀ {xs : List V} {us : List Value} {i : Nat}, Vals xs us → xs[i]? = none → us[i]? = none := fun {xs us i} r e => by
  have h1 := r.length
  have h2 : xs.length ≤ i := List.getElem?_eq_none_iff.mp e
  exact List.getElem?_eq_none_iff.mpr (by omega)

def RelO : Option V → Option Value → Prop
  | some v, some u => RelV v u
  | none, none => True
  | _, _ => False
def KV {κ : Type} : List (κ × V) → List (κ × Value) → Prop := Paired fun (p : κ × V) (q : κ × Value) => p.1 = q.1 ∧ RelV p.2 q.2

/-- a key of a dict (00_mix): an int or a text -/
def kV : Key → V
  | .inl i => .int i
  | .inr x => .str x

/-- what stands at a tracked address -/
inductive HO where
  /-- a list -/
  | lst (xs : List V)
  /-- a tuple (never changes) -/
  | tup (xs : List V)
  /-- a dict whose keys are ints and texts; one whose keys are tuples of ints and texts (the empty one is both) -/
  | dK (kvs : List (Key × V)) | dT (kvs : List (List Key × V))
  /-- a set of ints: its members, its size -/
  | set (S : Int → Bool) (n : Nat)
  /-- an instance of the class at C, its dict at dx, its attributes -/
  | ins (C dx : Addr) (fs : List (Str × V))
  /-- the dict of the instance at x -/
  | own (x : Addr)
  /-- the dict of an exception -/
  | xd (fs : List (Str × V))
  /-- a bound method, f of x -/
  | met (f x : Addr)
  /-- a range object lo, lo + 1, .. below hi -/
  | rng (lo hi : Int)
  /-- a thing that is known to the object (the script; a dict while a loop walks it): read, never written while it is so -/
  | frz (o : Obj) (u : HO)
  /-- a code object's table -/
  | tbl (ps : Array Value)
  /-- any other thing, by what is true of its one object (a def of one's own: SetO a S n := HO.ext fun h => ..) -/
  | ext (φ : Heap → Prop)

abbrev Hp := Addr → Option HO
def upd (H : Hp) (a : Addr) (o : HO) : Hp := fun b => if b = a then some o else H b
theorem upd_same {H : Hp} {a : Addr} {o : HO} : upd H a o a = some o := by unfold upd; rw [if_pos rfl]
theorem upd_ne {H : Hp} {a b : Addr} {o : HO} (h : b ≠ a) : upd H a o b = H b := by unfold upd; rw [if_neg h]
theorem upd_upd {H : Hp} {a : Addr} {o u : HO} : upd (upd H a o) a u = upd H a u := by
  funext b; unfold upd; split <;> rfl
/-- two objects of different content stand apart -/
theorem ne_of {H : Hp} {a b : Addr} {o u : HO} (h : H a = some o) (h' : H b = some u) (d : o ≠ u) : a ≠ b := by
  intro e; subst e; rw [h] at h'; exact d (Option.some.inj h')
theorem ne_of_none {H : Hp} {a b : Addr} {o : HO} (h : H a = some o) (h' : H b = none) : a ≠ b := by
  intro e; subst e; rw [h] at h'; cases h'

section
variable (P : Program) (w : World)
def ObjOk (H : Hp) (h : Heap) (a : Addr) : HO → Prop
  | .lst xs => xs.length ≤ sizeLine ∧ ∃ (its : List Value) (n : Nat), Vals xs its ∧ h.get? a = some { cls := .type "list", data := .seq its.toArray n }
  | .tup xs => xs.length ≤ sizeLine ∧ ∃ its : List Value, Vals xs its ∧ IsTup h a its.toArray
  | .dK kvs => kvs.length ≤ sizeLine ∧ (a == sysModules) = false ∧ ∃ vs, KV kvs vs ∧ h.DictOf (mixKind P w) a vs
  | .dT kvs => kvs.length ≤ sizeLine ∧ (a == sysModules) = false ∧ ∃ xs : List (List Key × Addr × Value),
      Paired (fun (p : List Key × V) (q : List Key × Addr × Value) => p.1 = q.1 ∧ H q.2.1 = some (.tup (p.1.map kV)) ∧ RelV p.2 q.2.2) kvs xs ∧
      ∃ o es ep, h.get? a = some o ∧ o.ExactDict ∧ o.data = .dict es ep ∧ es.toList = xs.map (entryOfKey (tupleKind (mixKind P w))) ∧ (xs.map (·.1)).Nodup
  | .set S n => h.SetOf (intKind P w) a S n
  | .ins C dx fs => H dx = some (.own a) ∧ fs.length ≤ 1000 ∧ dx ≠ a ∧ h.get? a = some (PySem.W.instObj C dx) ∧
      ∃ mA, h.Ns1 dx mA ∧ (∀ f, RelO (fs.lookup f) (mA f)) ∧ PySem.Within mA (fs.map (·.1))
  | .own _ => ∃ o, h.get? a = some o
  | .xd fs => ∃ mA, h.Ns1 a mA ∧ ∀ f, RelO (fs.lookup f) (mA f)
  | .rng lo hi => ∃ t u v, h.get? a = some { cls := .type "range", data := .fields #[.int lo t, .int hi u, .int 1 v] }
  | .frz o u => h.get? a = some o ∧ ObjOk H h a u
  | .tbl ps => h.get? a = some { cls := .none, data := .fields ps }
  | .met f x => h.get? a = some (PySem.W.methodObj (.ref f) (.ref x))
  | .ext φ => φ h ∧ (∃ o, h.get? a = some o) ∧ ∀ h1 h2 : Heap, φ h1 → (∀ o, h1.get? a = some o → h2.get? a = some o) → φ h2
/-- the abstract heap is held -/
def HOk (H : Hp) (h : Heap) : Prop := ∀ a o, H a = some o → ObjOk P w H h a o
end

section
variable {P : Program} {w : World} {H H' : Hp} {h h' : Heap} {a : Addr} {o : HO}
theorem ObjOk.lt (x : ObjOk P w H h a o) : a < h.objs.size := by
  cases o with
  | lst xs => obtain ⟨_, _, _, _, e⟩ := x; exact Heap.lt_size e
  | tup xs => obtain ⟨_, _, _, p⟩ := x; exact p.lt
  | dK kvs => obtain ⟨_, _, _, _, o, _, _, e, _⟩ := x; exact Heap.lt_size e
  | dT kvs => obtain ⟨_, _, _, _, o, _, _, e, _⟩ := x; exact Heap.lt_size e
  | set S n => obtain ⟨o, _, _, _, e, _⟩ := x; exact Heap.lt_size e
  | ins C dx fs => obtain ⟨_, _, _, e, _⟩ := x; exact Heap.lt_size e
  | own y => obtain ⟨_, e⟩ := x; exact Heap.lt_size e
  | xd fs => obtain ⟨_, ⟨_, _, _, e, _⟩, _⟩ := x; exact Heap.lt_size e
  | rng lo hi => obtain ⟨_, _, _, e⟩ := x; exact Heap.lt_size e
  | frz ob u => obtain ⟨e, _⟩ := x; exact Heap.lt_size e
  | tbl ps => exact Heap.lt_size (show h.get? a = some _ from x)
  | met f y => exact Heap.lt_size (show h.get? a = some _ from x)
  | ext φ => obtain ⟨_, ⟨_, e⟩, _⟩ := x; exact Heap.lt_size e
theorem Paired.mapP {α β : Type} {F G : α → β → Prop} : ∀ {l₁ : List α} {l₂ : List β}, Paired F l₁ l₂ → (∀ a b, F a b → G a b) → Paired G l₁ l₂
  | _, _, .nil, _ => .nil
  | _, _, .cons r t, f => .cons (f _ _ r) (Paired.mapP t f)
theorem Paired.imp' {α β : Type} {F G : α → β → Prop} (f : ∀ a b, F a b → G a b) {l₁ : List α} {l₂ : List β} (r : Paired F l₁ l₂) : Paired G l₁ l₂ := Paired.mapP r f
/-- what an object's description leans on: its own object, its own dict, the tuples -/
theorem ObjOk.stay (x : ObjOk P w H h a o) (k : ∀ b u, (b = a ∨ H b = some (.own a)) → h.get? b = some u → h'.get? b = some u)
    (ho : ∀ b, H b = some (.own a) → H' b = some (.own a)) (ht : ∀ b xs, H b = some (.tup xs) → H' b = some (.tup xs)) : ObjOk P w H' h' a o := by
  induction o with
  | lst xs => obtain ⟨z, its, n, r, e⟩ := x; exact ⟨z, its, n, r, k _ _ (.inl rfl) e⟩
  | tup xs => obtain ⟨z, its, r, ob, e, c⟩ := x; exact ⟨z, its, r, ob, k _ _ (.inl rfl) e, c⟩
  | dK kvs => obtain ⟨z, y, vs, r, ob, es, ep, e, c⟩ := x; exact ⟨z, y, vs, r, ob, es, ep, k _ _ (.inl rfl) e, c⟩
  | dT kvs =>
    obtain ⟨z, y, xs, r, ob, es, ep, e, c⟩ := x
    exact ⟨z, y, xs, Paired.mapP r fun p q z => ⟨z.1, ht _ _ z.2.1, z.2.2⟩, ob, es, ep, k _ _ (.inl rfl) e, c⟩
  | set S n => obtain ⟨ob, es, ep, t, e, c⟩ := x; exact ⟨ob, es, ep, t, k _ _ (.inl rfl) e, c⟩
  | ins C dx fs =>
    obtain ⟨d, z, ne, e, mA, ⟨od, es, ep, e2, c⟩, r⟩ := x
    exact ⟨ho _ d, z, ne, k _ _ (.inl rfl) e, mA, ⟨od, es, ep, k _ _ (.inr d) e2, c⟩, r⟩
  | own y => obtain ⟨ob, e⟩ := x; exact ⟨ob, k _ _ (.inl rfl) e⟩
  | xd fs => obtain ⟨mA, ⟨od, es, ep, e, c⟩, r⟩ := x; exact ⟨mA, ⟨od, es, ep, k _ _ (.inl rfl) e, c⟩, r⟩
  | rng lo hi => obtain ⟨t, u, v, e⟩ := x; exact ⟨t, u, v, k _ _ (.inl rfl) e⟩
  | frz ob u ih => obtain ⟨e, q⟩ := x; exact ⟨k _ _ (.inl rfl) e, ih q⟩
  | tbl ps =>
    have e : h.get? a = some { cls := .none, data := .fields ps } := x
    show h'.get? a = some { cls := .none, data := .fields ps }
    exact k a _ (.inl rfl) e
  | met f y =>
    have e : h.get? a = some (PySem.W.methodObj (.ref f) (.ref y)) := x
    show h'.get? a = some (PySem.W.methodObj (.ref f) (.ref y))
    exact k a _ (.inl rfl) e
  | ext φ => obtain ⟨p, ⟨o, e⟩, st⟩ := x; exact ⟨st _ _ p fun o q => k _ _ (.inl rfl) q, ⟨o, k _ _ (.inl rfl) e⟩, st⟩
theorem HOk.lt (x : HOk P w H h) (e : H a = some o) : a < h.objs.size := (x a o e).lt
theorem HOk.fresh (x : HOk P w H h) (e : h.objs.size ≤ a) : H a = none := by
  cases q : H a with
  | none => rfl
  | some u => exact absurd (Nat.lt_of_lt_of_le (x.lt q) e) (Nat.lt_irrefl _)
/-- every object of the heap is kept -/
theorem HOk.kept (x : HOk P w H h) (k : ∀ b u, h.get? b = some u → h'.get? b = some u) : HOk P w H h' := fun a o e =>
  (x a o e).stay (fun b u _ q => k b u q) (fun _ q => q) fun _ _ q => q
/-- a new object is laid and tracked -/
theorem HOk.laid (x : HOk P w H h) (k : ∀ b u, h.get? b = some u → h'.get? b = some u) (hp : h.objs.size ≤ a) (new : ObjOk P w (upd H a o) h' a o) : HOk P w (upd H a o) h' := fun b u e => by
  have hn := x.fresh hp
  by_cases hb : b = a
  · subst hb; rw [upd_same] at e; cases e; exact new
  · rw [upd_ne hb] at e
    exact (x b u e).stay (fun c v _ q => k c v q) (fun c q => by rw [upd_ne (ne_of_none q hn)]; exact q) fun c xs q => by rw [upd_ne (ne_of_none q hn)]; exact q
end

/-- what may be read as u: it is u, or a known u -/
def Rd (H : Hp) (a : Addr) (u : HO) : Prop := H a = some u ∨ ∃ o, H a = some (.frz o u)
theorem Rd.of {H : Hp} {a : Addr} {u : HO} (h : H a = some u) : Rd H a u := .inl h
theorem Rd.ok {P : Program} {w : World} {H : Hp} {h : Heap} {a : Addr} {u : HO} (r : Rd H a u) (x : HOk P w H h) : ObjOk P w H h a u := by
  rcases r with r | ⟨o, r⟩
  · exact x a u r
  · obtain ⟨_, q⟩ := x a _ r
    exact q
/-- what may be written -/
def Mut : Option HO → Prop
  | some (.lst _) => True
  | some (.dK _) => True
  | some (.dT _) => True
  | some (.set _ _) => True
  | some (.ins _ _ _) => True
  | some (.ext _) => True
  | _ => False
section
variable {P : Program} {w : World} {H : Hp} {h h' : Heap} {x e : Addr} {o' : HO}
/-- the object at e is changed: x itself, or the dict of the instance x -/
theorem HOk.write (ok : HOk P w H h) (mu : Mut (H x)) (he : e = x ∨ H e = some (.own x)) (k : ∀ b u, b ≠ e → h.get? b = some u → h'.get? b = some u) (heo : ∃ u, h'.get? e = some u)
    (new : ObjOk P w (upd H x o') h' x o') : HOk P w (upd H x o') h' := fun b u q => by
  have nown : ∀ c y, H c = some (.own y) → c ≠ x := fun c y r z => by subst z; rw [r] at mu; exact mu
  have ntup : ∀ c xs, H c = some (.tup xs) → c ≠ x := fun c xs r z => by subst z; rw [r] at mu; exact mu
  by_cases hb : b = x
  · subst hb; rw [upd_same] at q; cases q; exact new
  · rw [upd_ne hb] at q
    by_cases hbe : b = e
    · have q' : H b = some (.own x) := by
        rcases he with z | z
        · exact absurd (hbe.trans z) hb
        · rw [hbe]; exact z
      rw [q] at q'; cases q'
      obtain ⟨v, hv⟩ := heo
      exact ⟨v, by rw [hbe]; exact hv⟩
    · refine (ok b u q).stay (fun c v hc r => k c v ?_ r) (fun c r => by rw [upd_ne (nown c b r)]; exact r) fun c xs r => by rw [upd_ne (ntup c xs r)]; exact r
      rcases hc with rfl | hc
      · exact hbe
      · rintro rfl
        rcases he with z | z
        · exact nown c b hc z
        · rw [hc] at z; cases z; exact hb rfl
end

/-! ### kept unless tracked; of the frames at fs (the callers') the slots may change (an exception that passes writes there); of the records at ex (iterators) nothing is said -/
structure Un (fs ex : List Addr) (H H' : Hp) (h h' : Heap) : Prop where
  keep : ∀ b o, h.get? b = some o → H b = none → b ∉ fs → b ∉ ex → h'.get? b = some o
  slot : ∀ b o, h.get? b = some o → H b = none → b ∈ fs → b ∉ ex → ∃ sl, h'.get? b = some { o with slots := sl }
  free : ∀ b o, h.get? b = some o → H b = none → b ∉ ex → H' b = none
  there : ∀ b o, h.get? b = some o → b ∉ ex → ∃ o', h'.get? b = some o'
  tups : ∀ b xs, H b = some (.tup xs) → H' b = some (.tup xs)
  frzs : ∀ b o u, H b = some (.frz o u) → H' b = some (.frz o u)
  tbls : ∀ b ps, H b = some (.tbl ps) → ∃ more, H' b = some (.tbl (ps ++ more))
section
variable {fs fs' ex ex' : List Addr} {H H1 H2 : Hp} {h h1 h2 h' : Heap} {a x e : Addr} {o : HO}
theorem Un.any (u : Un fs ex H H1 h h1) {b : Addr} {ob : Obj} (q : h.get? b = some ob) (n : H b = none) (hx : b ∉ ex) : ∃ sl, h1.get? b = some { ob with slots := sl } := by
  by_cases hb : b ∈ fs
  · exact u.slot b ob q n hb hx
  · exact ⟨ob.slots, u.keep b ob q n hb hx⟩
theorem Un.trans (a : Un fs ex H H1 h h1) (b : Un fs ex H1 H2 h1 h2) : Un fs ex H H2 h h2 where
  keep := fun c ob q n hc hx => b.keep c ob (a.keep c ob q n hc hx) (a.free c ob q n hx) hc hx
  slot := fun c ob q n hc hx => by
    obtain ⟨sl, e1⟩ := a.slot c ob q n hc hx
    obtain ⟨sl', e2⟩ := b.slot c _ e1 (a.free c ob q n hx) hc hx
    exact ⟨sl', e2⟩
  free := fun c ob q n hx => by
    obtain ⟨o', e1⟩ := a.there c ob q hx
    exact b.free c o' e1 (a.free c ob q n hx) hx
  there := fun c ob q hx => by
    obtain ⟨o', e1⟩ := a.there c ob q hx
    exact b.there c o' e1 hx
  tups := fun c xs q => b.tups c xs (a.tups c xs q)
  frzs := fun c ob xs q => b.frzs c ob xs (a.frzs c ob xs q)
  tbls := fun c ps q => by
    obtain ⟨m1, e1⟩ := a.tbls c ps q
    obtain ⟨m2, e2⟩ := b.tbls c _ e1
    exact ⟨m1 ++ m2, by rw [e2, Array.append_assoc]⟩
theorem Un.kept (k : ∀ b u, h.get? b = some u → h'.get? b = some u) : Un fs ex H H h h' :=
  ⟨fun b ob q _ _ _ => k b ob q, fun b ob q _ _ _ => ⟨ob.slots, k b ob q⟩, fun _ _ _ n _ => n, fun b ob q _ => ⟨ob, k b ob q⟩, fun _ _ q => q, fun _ _ _ q => q, fun _ ps q => ⟨#[], by rw [q]; simp⟩⟩
theorem Un.refl : Un fs ex H H h h := Un.kept fun _ _ q => q
theorem Un.laid (k : ∀ b u, h.get? b = some u → h'.get? b = some u) (hp : h.objs.size ≤ a) (hn : H a = none) : Un fs ex H (upd H a o) h h' where
  keep := fun b u q _ _ _ => k b u q
  slot := fun b u q _ _ _ => ⟨u.slots, k b u q⟩
  free := fun b u q n _ => by rw [upd_ne (Nat.ne_of_lt (Nat.lt_of_lt_of_le (Heap.lt_size q) hp))]; exact n
  there := fun b u q _ => ⟨u, k b u q⟩
  tups := fun b xs q => by rw [upd_ne (ne_of_none q hn)]; exact q
  frzs := fun b u xs q => by rw [upd_ne (ne_of_none q hn)]; exact q
  tbls := fun b ps q => ⟨#[], by rw [upd_ne (ne_of_none q hn), q]; simp⟩
theorem Un.write (mu : Mut (H x)) (he : e = x ∨ H e = some (.own x)) (k : ∀ b u, b ≠ e → h.get? b = some u → h'.get? b = some u) (heo : ∃ u, h'.get? e = some u) : Un fs ex H (upd H x o) h h' := by
  have hx : ∀ b, H b = none → b ≠ x := fun b n z => by subst z; rw [n] at mu; exact mu
  have hb : ∀ b, H b = none → b ≠ e := fun b n z => by
    subst z
    rcases he with r | r
    · exact hx b n r
    · rw [n] at r; cases r
  have hm : ∀ b u, H b = some u → ¬ Mut (some u) → b ≠ x := fun b u q nm z => by subst z; rw [q] at mu; exact nm mu
  refine ⟨fun b u q n _ _ => k b u (hb b n) q, fun b u q n _ _ => ⟨u.slots, k b u (hb b n) q⟩, fun b u q n _ => by rw [upd_ne (hx b n)]; exact n, fun b u q _ => ?_,
    fun b xs q => by rw [upd_ne (hm b _ q fun z => z)]; exact q, fun b u xs q => by rw [upd_ne (hm b _ q fun z => z)]; exact q, fun b ps q => ⟨#[], by rw [upd_ne (hm b _ q fun z => z), q]; simp⟩⟩
  by_cases hbe : b = e
  · subst hbe; exact heo
  · exact ⟨u, k b u hbe q⟩
theorem Un.mono (u : Un fs ex H H1 h h1) (hs : ∀ b ∈ fs, b ∈ fs') (hx : ∀ b ∈ ex, b ∈ ex') : Un fs' ex' H H1 h h1 :=
  ⟨fun b ob q n hb he => u.keep b ob q n (fun z => hb (hs b z)) fun z => he (hx b z), fun _ _ q n _ he => u.any q n fun z => he (hx _ z), fun b ob q n he => u.free b ob q n fun z => he (hx b z), fun b ob q he => u.there b ob q fun z => he (hx b z), u.tups, u.frzs, u.tbls⟩
end

/-! ### the heap without what is tracked -/
def trk (h : Heap) (H : Hp) : List Addr := (List.range h.objs.size).filter fun a => (H a).isSome
def hidT (h : Heap) (H : Hp) : Heap := PySem.W.hideAll h (trk h H)
theorem hidT_size (h : Heap) (H : Hp) : (hidT h H).objs.size = h.objs.size := PySem.W.hideAll_size _ _
theorem hidT_get {h : Heap} {H : Hp} {b : Addr} {o : Obj} (e : h.get? b = some o) (n : H b = none) : (hidT h H).get? b = some o :=
  PySem.W.hideAll_get _ e fun hm => by
    have q : (H b).isSome = true := (List.mem_filter.mp hm).2
    rw [n] at q; simp at q
theorem of_hidT {h : Heap} {H : Hp} {b : Addr} {o : Obj} (e : (hidT h H).get? b = some o) : h.get? b = some o ∧ H b = none := by
  have e' : h.get? b = some o := PySem.W.of_hideAll (trk h H) e
  refine ⟨e', ?_⟩
  cases q : H b with
  | none => rfl
  | some x =>
    have hm : b ∈ trk h H := List.mem_filter.mpr ⟨List.mem_range.mpr (Heap.lt_size e'), by simp [q]⟩
    have z : (hidT h H).get? b = none := PySem.W.hideAll_none (trk h H) hm
    rw [z] at e; cases e

/-! ### OpenK's ledger, filled with every new object but one -/
def allNews (g h : Heap) (L : Addr) : List (Addr × Obj) := (List.range h.objs.size).filterMap fun a => if a = L ∨ (g.get? a).isSome = true then none else (h.get? a).map fun o => (a, o)
theorem mem_allNews {g h : Heap} {L a : Addr} {o : Obj} (h1 : a ≠ L) (h2 : g.get? a = none) (h3 : h.get? a = some o) : (a, o) ∈ allNews g h L :=
  List.mem_filterMap.mpr ⟨a, List.mem_range.mpr (Heap.lt_size h3), by simp [h1, h2, h3]⟩
theorem of_mem_allNews {g h : Heap} {L : Addr} {p : Addr × Obj} (hp : p ∈ allNews g h L) : p.1 ≠ L ∧ g.get? p.1 = none ∧ h.get? p.1 = some p.2 := by
  obtain ⟨b, _, e⟩ := List.mem_filterMap.mp hp
  split at e
  · cases e
  · rename_i hn
    cases q : h.get? b with
    | none => rw [q] at e; simp at e
    | some u =>
      rw [q] at e
      simp only [Option.map_some, Option.some.injEq] at e
      subst e
      refine ⟨fun z => hn (.inl z), ?_, q⟩
      show g.get? b = none
      cases r : g.get? b with
      | none => rfl
      | some v => exact (hn (.inr (by simp [r]))).elim
def rest (g h : Heap) (L d : Addr) : List (Addr × Obj) := (allNews g h L).filter fun p => decide (p.1 ≠ d)
theorem rest_ne {g h : Heap} {L d : Addr} : ∀ p ∈ rest g h L d, p.1 ≠ d := fun p hp => of_decide_eq_true (List.mem_filter.mp hp).2
theorem mem_rest {g h : Heap} {L d a : Addr} {o : Obj} (h1 : a ≠ L) (h2 : g.get? a = none) (h3 : h.get? a = some o) (h4 : a ≠ d) : (a, o) ∈ rest g h L d :=
  List.mem_filter.mpr ⟨mem_allNews h1 h2 h3, decide_eq_true h4⟩
theorem news_all {g h : Heap} {L : Addr} : News g L h (allNews g h L) := fun p hp => let ⟨a, b, c⟩ := of_mem_allNews hp; ⟨c, a, b⟩
theorem news_at {g h : Heap} {L d : Addr} {o : Obj} (h1 : d ≠ L) (h2 : g.get? d = none) (h3 : h.get? d = some o) : News g L h ((d, o) :: rest g h L d) := fun p hp => by
  rcases List.mem_cons.mp hp with rfl | hp
  · exact ⟨h3, h1, h2⟩
  · exact news_all p (List.mem_filter.mp hp).1
/-- behind a rule that changed d alone: all else but the frame is kept -/
theorem kept_of_news {g h h' : Heap} {L d : Addr} {m : Str → Option Value} (k : ∀ b o, g.get? b = some o → h.get? b = some o) (F : Fr g L h' m) (N : News g L h' (rest g h L d)) :
    ∀ b o, b ≠ L → b ≠ d → h.get? b = some o → h'.get? b = some o := fun b o h1 h2 e => by
  cases q : g.get? b with
  | some u =>
    have := k b u q
    rw [e] at this; cases this
    exact F.keep b _ q
  | none => exact (N (b, o) (mem_rest h1 q e h2)).1
end L2

namespace L2
open PySem PySem.Spec PyProof.Rows

/-- the module's facts, over the base: the heap at the law's entry without what is tracked there -/
structure Mod (K : PySem.W.Frag) (mg : Str → Option Value) (base : Heap) : Prop where
  kin : K.In base
  glob : base.Ns mainGlobals mg
  blt : ∃ mb, base.Ns builtinsNs mb ∧ ∀ x : Str, x ≠ "__name__" → mb x = bootBuiltins x
  nolimit : base.NoLimit

/-- the context: a def's body (or a comprehension's block) running. base: fixed through the whole law; s₀, H₀: the entry; outer: the frames whose slots others may change (a def's callers); stack: all frames that run;
   ex: iterators that were made ahead of the entry and are walked here (a comprehension's); fn: the names whose cells were made at the entry (a def: all; a comprehension's block: its own); calm: not within an except suite; pn: pins that every state bears; xe: what is wanted of an exception that leaves the code -/
structure Cx where
  prog : Program
  w : World
  K : PySem.W.Frag
  mg : Str → Option Value
  base : Heap
  A : Around
  N : List Str
  s₀ : Shared
  H₀ : Hp
  env : Env
  outer : List Env
  stack : List Env
  ex : List Addr
  fn : Str → Bool
  calm : Bool
  pn : List (Addr × Obj)
  xe : Value → Shared → Prop
/-- the callers' frames -/
def frs (l : List Env) : List Addr := l.filterMap (·.frame)
abbrev Cx.fs (X : Cx) : List Addr := frs X.outer

def Vis (sc : Scope) (x : Str) : Prop := sc.names.lookup x = some .local ∨ sc.names.lookup x = some .cell ∨ sc.names.lookup x = some .free
def Loc (sc : Scope) (x : Str) : Prop := sc.names.lookup x = some .local ∨ sc.names.lookup x = some .cell
def Look (env : Env) (h : Heap) (m : Str → Option Value) (x : Str) (u : Value) : Prop :=
  (env.kindOf x = some .local ∧ m x = some u) ∨ ((env.kindOf x = some .cell ∨ env.kindOf x = some .free) ∧ ∃ c, env.cells.lookup x = some c ∧ h.IsCell c (some u))

structure Cx.Ok (X : Cx) : Prop where
  mod : Mod X.K X.mg X.base
  kind : X.env.scope.kind = .function
  glob : X.env.globals = mainGlobals
  blt : X.env.builtins = builtinsNs
  above : X.s₀.heap.objs.size ≤ X.env.locals
  inj : ∀ x y c, X.env.cells.lookup x = some c → X.env.cells.lookup y = some c → x = y
  has : ∀ x, (X.env.kindOf x = some .cell ∨ X.env.kindOf x = some .free) → ∃ c, X.env.cells.lookup x = some c
  cab : ∀ x c, X.fn x = true → X.env.cells.lookup x = some c → X.s₀.heap.objs.size ≤ c
  hd : X.calm = true → X.A.handled = none
  frames : X.A.frames = some X.stack
  stk : X.stack = X.outer ∨ (X.stack = X.env :: X.outer ∧ X.env.frame = some X.env.locals)
  exf : ∀ b ∈ X.ex, b ≠ X.env.locals ∧ ∀ x c, X.env.cells.lookup x = some c → c ≠ b
  bs : ∀ b o, X.base.get? b = some o → X.s₀.heap.get? b = some o ∧ X.H₀ b = none
  bsz : X.base.objs.size ≤ X.s₀.heap.objs.size
  noex : ∀ b o, X.base.get? b = some o → b ∉ X.ex
  exfs : ∀ b ∈ X.ex, b ∉ X.fs
  funs : X.s₀.heap.FunFrames X.base X.outer
  frf : ∀ b ∈ X.fs, X.H₀ b = none

structure Inv (X : Cx) (pins : List (Addr × Obj)) (σ : List (Option V)) (H : Hp) (s : Shared) : Prop where
  ok : X.Ok
  os : s.os = X.s₀.os
  bare : AllBare s.gens
  base : Un X.fs X.ex X.H₀ H X.s₀.heap s.heap
  loc : ∃ m, s.heap.Ns X.env.locals m ∧ ∀ (i : Nat) (x : Str) (v : V), X.N[i]? = some x → σ[i]? = some (some v) → Vis X.env.scope x → ∃ u, RelV v u ∧ Look X.env s.heap m x u
  cell : ∀ x c, X.env.cells.lookup x = some c → ∃ v, s.heap.IsCell c v
  free : H X.env.locals = none
  freeC : ∀ x c, X.env.cells.lookup x = some c → H c = none
  pin : ∀ p ∈ X.pn ++ pins, s.heap.get? p.1 = some p.2 ∧ H p.1 = none ∧ p.1 ≠ X.env.locals ∧ p.1 ∉ X.fs ∧ ∀ v, p.2.data ≠ .cell v
  hok : HOk X.prog X.w H s.heap
  len : σ.length = X.N.length

section
variable {X : Cx} {pins : List (Addr × Obj)} {σ : List (Option V)} {H H' : Hp} {s : Shared} {h' : Heap}

theorem Cx.Ok.nofr (ok : X.Ok) {b : Addr} {o : Obj} (e : X.base.get? b = some o) : b ∉ X.fs := fun hb => by
  have := (ok.funs.mem hb).1
  rw [e] at this; cases this
theorem Inv.bs (I : Inv X pins σ H s) : ∀ b o, X.base.get? b = some o → s.heap.get? b = some o ∧ H b = none := fun b o e =>
  ⟨I.base.keep b o (I.ok.bs b o e).1 (I.ok.bs b o e).2 (I.ok.nofr e) (I.ok.noex b o e), I.base.free b o (I.ok.bs b o e).1 (I.ok.bs b o e).2 (I.ok.noex b o e)⟩
theorem Inv.bk (I : Inv X pins σ H s) : ∀ b o, X.base.get? b = some o → s.heap.get? b = some o := fun b o e => (I.bs b o e).1
theorem Inv.mod (I : Inv X pins σ H s) : Mod X.K X.mg X.base := I.ok.mod
theorem Inv.kIn (I : Inv X pins σ H s) : X.K.In s.heap := I.ok.mod.kin.keeps I.bk
theorem Inv.nolimit (I : Inv X pins σ H s) : s.heap.NoLimit := I.ok.mod.nolimit.keeps I.bk
/-- the frame over the base: for OpenK's rules (K.In X.base is I.mod.kin) -/
theorem Inv.fr (I : Inv X pins σ H s) : ∃ m, Fr X.base X.env.locals s.heap m :=
  let ⟨m, hn, _⟩ := I.loc
  ⟨m, hn, I.bk, Nat.le_trans I.ok.bsz I.ok.above⟩
theorem Inv.lt (I : Inv X pins σ H s) : X.env.locals < s.heap.objs.size := let ⟨_, hn, _⟩ := I.loc; hn.lt
theorem Inv.sz (I : Inv X pins σ H s) : X.s₀.heap.objs.size ≤ s.heap.objs.size := Nat.le_trans I.ok.above (Nat.le_of_lt I.lt)
theorem Inv.nofs (I : Inv X pins σ H s) {a : Addr} (h : s.heap.objs.size ≤ a) : a ∉ X.fs := fun hb => by
  obtain ⟨_, o, ho, _⟩ := I.ok.funs.mem hb
  exact absurd (Nat.lt_of_lt_of_le (Heap.lt_size ho) (Nat.le_trans I.sz h)) (Nat.lt_irrefl _)
theorem Inv.cne (I : Inv X pins σ H s) : ∀ x c, X.env.cells.lookup x = some c → c ≠ X.env.locals := fun x c e z => by
  obtain ⟨v, o, ho, hd⟩ := I.cell x c e
  obtain ⟨m, ⟨o', es, ep, ho', hd', _⟩, _⟩ := I.loc
  rw [z, ho'] at ho; cases ho; rw [hd'] at hd; cases hd
theorem Inv.funs (I : Inv X pins σ H s) : s.heap.FunFrames X.base X.outer := by
  have all : ∀ (l : List Env), (∀ b ∈ frs l, b ∈ X.fs) → X.s₀.heap.FunFrames X.base l → s.heap.FunFrames X.base l := by
    intro l
    induction l with
    | nil => intro _ _; trivial
    | cons env r ih =>
      intro hs hl
      obtain ⟨hk, ⟨L, o, hf, hn, ho, hd⟩, hr⟩ := hl
      have hL : L ∈ X.fs := hs L (by unfold frs; rw [List.filterMap_cons, hf]; exact List.mem_cons_self)
      obtain ⟨sl, e⟩ := I.base.slot L o ho (I.ok.frf L hL) hL fun z => I.ok.exfs L z hL
      exact ⟨hk, ⟨L, _, hf, hn, e, hd⟩, ih (fun b hb => hs b (by unfold frs; rw [List.filterMap_cons, hf]; exact List.mem_cons_of_mem _ hb)) hr⟩
  exact all X.outer (fun _ hb => hb) I.ok.funs

/-- the frames that run, for a call -/
theorem Inv.stack (I : Inv X pins σ H s) : s.heap.FunFrames X.base X.stack := by
  rcases I.ok.stk with e | ⟨e, hf⟩
  · rw [e]; exact I.funs
  · rw [e]
    obtain ⟨m, hn, _⟩ := I.loc
    refine .cons (by rw [I.ok.kind]; decide) hf hn ?_ I.funs
    exact Heap.get?_none_of_le (Nat.le_trans I.ok.bsz I.ok.above)
theorem Inv.stkSub (I : Inv X pins σ H s) : ∀ b ∈ frs X.stack, b ∈ X.env.locals :: X.fs := fun b hb => by
  rcases I.ok.stk with e | ⟨e, hf⟩
  · rw [e] at hb; exact List.mem_cons_of_mem _ hb
  · rw [e] at hb
    unfold frs at hb
    rw [List.filterMap_cons, hf] at hb
    exact hb
theorem Inv.stkFree (I : Inv X pins σ H s) : ∀ b ∈ frs X.stack, H b = none := fun b hb => by
  rcases List.mem_cons.mp (I.stkSub b hb) with e | hb
  · rw [e]; exact I.free
  · obtain ⟨_, o, ho, _⟩ := I.ok.funs.mem hb
    exact I.base.free b o ho (I.ok.frf b hb) fun z => I.ok.exfs b z hb

/-- THE STEP: the untracked objects but the frame and the records at ch are kept (the callers' frames up to slots), the frame's map is kept, the new abstract heap is held -/
theorem Inv.step {g' : Array GenState} {t' : Nat} {d' : Drawn} {ch : List Addr} (I : Inv X pins σ H s)
    (hch : ∀ b ∈ ch, (b ∈ X.ex ∨ X.s₀.heap.objs.size ≤ b) ∧ b ≠ X.env.locals ∧ (∀ x c, X.env.cells.lookup x = some c → c ≠ b) ∧ ∀ p ∈ X.pn ++ pins, p.1 ≠ b)
    (keep : ∀ b o, b ≠ X.env.locals → b ∉ X.fs → b ∉ ch → s.heap.get? b = some o → H b = none → h'.get? b = some o)
    (slot : ∀ b o, b ≠ X.env.locals → b ∈ X.fs → b ∉ ch → s.heap.get? b = some o → H b = none → ∃ sl, h'.get? b = some { o with slots := sl }) (free : ∀ b o, b ∉ ch → s.heap.get? b = some o → H b = none → H' b = none)
    (there : ∀ b o, b ∉ ch → s.heap.get? b = some o → ∃ o', h'.get? b = some o')
    (tups : ∀ b xs, H b = some (.tup xs) → H' b = some (.tup xs)) (frzs : ∀ b o u, H b = some (.frz o u) → H' b = some (.frz o u)) (tbls : ∀ b ps, H b = some (.tbl ps) → ∃ more, H' b = some (.tbl (ps ++ more)))
    (ns : ∀ m, s.heap.Ns X.env.locals m → h'.Ns X.env.locals m) (hok : HOk X.prog X.w H' h') (hg : AllBare g') :
    Inv X pins σ H' { s with heap := h', gens := g', drawn := d', toks := t' } := by
  have neL : ∀ b o, X.s₀.heap.get? b = some o → b ≠ X.env.locals := fun b o e => Nat.ne_of_lt (Nat.lt_of_lt_of_le (Heap.lt_size e) I.ok.above)
  have neC : ∀ b o, X.s₀.heap.get? b = some o → b ∉ X.ex → b ∉ ch := fun b o e hx hb => by
    rcases (hch b hb).1 with z | z
    · exact hx z
    · exact absurd (Nat.lt_of_lt_of_le (Heap.lt_size e) z) (Nat.lt_irrefl _)
  have cellK : ∀ x c, X.env.cells.lookup x = some c → ∀ v, s.heap.IsCell c v → h'.IsCell c v := fun x c e v ⟨o, ho, hd⟩ => by
    have nch : c ∉ ch := fun z => (hch c z).2.2.1 x c e rfl
    by_cases hc : c ∈ X.fs
    · obtain ⟨sl, q⟩ := slot c o (I.cne x c e) hc nch ho (I.freeC x c e)
      exact ⟨_, q, hd⟩
    · exact ⟨o, keep c o (I.cne x c e) hc nch ho (I.freeC x c e), hd⟩
  refine ⟨I.ok, I.os, hg, ⟨fun b o e n hb hx => ?_, fun b o e n hb hx => ?_, fun b o e n hx => ?_, fun b o e hx => ?_, fun b xs e => tups b xs (I.base.tups b xs e), fun b o xs e => frzs b o xs (I.base.frzs b o xs e), fun b ps e => ?_⟩, ?_, fun x c e => ?_, ?_, fun x c e => ?_, fun p hp => ?_, hok, I.len⟩
  · exact keep b o (neL b o e) hb (neC b o e hx) (I.base.keep b o e n hb hx) (I.base.free b o e n hx)
  · obtain ⟨sl, e1⟩ := I.base.slot b o e n hb hx
    obtain ⟨sl', e2⟩ := slot b _ (neL b o e) hb (neC b o e hx) e1 (I.base.free b o e n hx)
    exact ⟨sl', e2⟩
  · obtain ⟨o', e1⟩ := I.base.there b o e hx
    exact free b o' (neC b o e hx) e1 (I.base.free b o e n hx)
  · obtain ⟨o', e1⟩ := I.base.there b o e hx
    exact there b o' (neC b o e hx) e1
  · obtain ⟨m1, e1⟩ := I.base.tbls b ps e
    obtain ⟨m2, e2⟩ := tbls b _ e1
    exact ⟨m1 ++ m2, by rw [e2, Array.append_assoc]⟩
  · obtain ⟨m, hn, hl⟩ := I.loc
    refine ⟨m, ns m hn, fun i x v e1 e2 e3 => ?_⟩
    obtain ⟨u, r, l⟩ := hl i x v e1 e2 e3
    refine ⟨u, r, ?_⟩
    rcases l with l | ⟨k, c, e, z⟩
    · exact .inl l
    · exact .inr ⟨k, c, e, cellK x c e _ z⟩
  · obtain ⟨v, z⟩ := I.cell x c e
    exact ⟨v, cellK x c e v z⟩
  · obtain ⟨m, ⟨o, _, _, ho, _⟩, _⟩ := I.loc
    exact free _ o (fun z => (hch _ z).2.1 rfl) ho I.free
  · obtain ⟨v, o, ho, hd⟩ := I.cell x c e
    exact free c o (fun z => (hch c z).2.2.1 x c e rfl) ho (I.freeC x c e)
  · obtain ⟨e, n, ne, nf, d⟩ := I.pin p hp
    have nch : p.1 ∉ ch := fun z => (hch p.1 z).2.2.2 p hp rfl
    exact ⟨keep p.1 p.2 ne nf nch e n, free p.1 p.2 nch e n, ne, nf, d⟩
/-- .. where the frame's own object is kept too -/
theorem Inv.un {t' : Nat} (I : Inv X pins σ H s) (u : Un X.fs [] H H' s.heap h') (hok : HOk X.prog X.w H' h') : Inv X pins σ H' { s with heap := h', toks := t' } := by
  obtain ⟨m, ⟨o, es, ep, ho, r⟩, _⟩ := id I.loc
  obtain ⟨sl, hL⟩ := u.any ho I.free (by simp)
  exact I.step (g' := s.gens) (d' := s.drawn) (ch := []) (fun _ z => nomatch z) (fun b o _ hb _ e n => u.keep b o e n hb (by simp)) (fun b o _ hb _ e n => u.slot b o e n hb (by simp)) (fun b o _ e n => u.free b o e n (by simp)) (fun b o _ e => u.there b o e (by simp)) u.tups u.frzs u.tbls (fun m' hm => by
    obtain ⟨o', es', ep', ho', r'⟩ := hm
    rw [ho] at ho'; cases ho'
    exact ⟨_, es', ep', hL, r'⟩) hok I.bare
/-- behind a call (or a comprehension's block): the slots of this frame may have changed too, the records at ch may have turned -/
theorem Inv.call {g' : Array GenState} {t' : Nat} {d' : Drawn} {ch : List Addr} (I : Inv X pins σ H s) (u : Un (frs X.stack) ch H H' s.heap h') (hok : HOk X.prog X.w H' h') (hg : AllBare g')
    (hch : ∀ b ∈ ch, (b ∈ X.ex ∨ X.s₀.heap.objs.size ≤ b) ∧ b ≠ X.env.locals ∧ (∀ x c, X.env.cells.lookup x = some c → c ≠ b) ∧ ∀ p ∈ X.pn ++ pins, p.1 ≠ b) :
    Inv X pins σ H' { s with heap := h', gens := g', drawn := d', toks := t' } := by
  obtain ⟨m, ⟨o, es, ep, ho, r⟩, _⟩ := id I.loc
  obtain ⟨sl, hL⟩ := u.any ho I.free fun z => (hch _ z).2.1 rfl
  exact I.step (ch := ch) hch (fun b o hL hb hc e n => u.keep b o e n (fun z => (List.mem_cons.mp (I.stkSub b z)).elim hL hb) hc) (fun b o _ _ hc e n => u.any e n hc) (fun b o hc e n => u.free b o e n hc) (fun b o hc e => u.there b o e hc) u.tups u.frzs u.tbls (fun m' hm => by
    obtain ⟨o', es', ep', ho', r'⟩ := hm
    rw [ho] at ho'; cases ho'
    exact ⟨_, es', ep', hL, r'⟩) hok hg
/-- an untracked record of ours (an iterator) has turned -/
theorem Inv.turned {t' : Nat} {it : Addr} (I : Inv X pins σ H s) (k : ∀ b o, b ≠ it → s.heap.get? b = some o → h'.get? b = some o) (hn : H it = none) (hL : it ≠ X.env.locals)
    (h1 : it ∈ X.ex ∨ X.s₀.heap.objs.size ≤ it) (h2 : ∀ x c, X.env.cells.lookup x = some c → c ≠ it) (h3 : ∀ p ∈ X.pn ++ pins, p.1 ≠ it) : Inv X pins σ H { s with heap := h', toks := t' } := by
  have nit : ∀ b u, H b = some u → b ≠ it := fun b u e z => by rw [z, hn] at e; cases e
  refine I.step (g' := s.gens) (d' := s.drawn) (ch := [it]) (fun b hb => ?_) (fun b o _ _ hc e _ => k b o (fun z => hc (by simp [z])) e) (fun b o _ _ hc e _ => ⟨o.slots, k b o (fun z => hc (by simp [z])) e⟩) (fun _ _ _ _ n => n)
    (fun b o hc e => ⟨o, k b o (fun z => hc (by simp [z])) e⟩) (fun _ _ e => e) (fun _ _ _ e => e) (fun b ps e => ⟨#[], by rw [e]; simp⟩) (fun m hm => ?_) (fun b u e => ?_) I.bare
  · have e : b = it := by simpa using hb
    subst e
    exact ⟨h1, hL, h2, h3⟩
  · obtain ⟨o, es, ep, ho, r⟩ := hm
    exact ⟨o, es, ep, k _ o (Ne.symm hL) ho, r⟩
  · refine (I.hok b u e).stay (fun c v hc q => k c v ?_ q) (fun _ q => q) fun _ _ q => q
    rcases hc with z | z
    · rw [z]; exact nit b u e
    · exact nit c _ z
theorem Inv.tok (I : Inv X pins σ H s) (t : Nat) : Inv X pins σ H { s with toks := t } := I.un (h' := s.heap) (t' := t) Un.refl I.hok
/-- all objects kept -/
theorem Inv.kept {t' : Nat} (I : Inv X pins σ H s) (k : ∀ b u, s.heap.get? b = some u → h'.get? b = some u) : Inv X pins σ H { s with heap := h', toks := t' } := I.un (Un.kept k) (I.hok.kept k)
/-- a new object laid and tracked -/
theorem Inv.laid {a : Addr} {o : HO} {t' : Nat} (I : Inv X pins σ H s) (k : ∀ b u, s.heap.get? b = some u → h'.get? b = some u) (hp : s.heap.objs.size ≤ a) (new : ObjOk X.prog X.w (upd H a o) h' a o) :
    Inv X pins σ (upd H a o) { s with heap := h', toks := t' } := I.un (Un.laid k hp (I.hok.fresh hp)) (I.hok.laid k hp new)
/-- an object written -/
theorem Inv.write {x e : Addr} {o : HO} {t' : Nat} (I : Inv X pins σ H s) (mu : Mut (H x)) (he : e = x ∨ H e = some (.own x)) (k : ∀ b u, b ≠ e → s.heap.get? b = some u → h'.get? b = some u) (heo : ∃ u, h'.get? e = some u)
    (new : ObjOk X.prog X.w (upd H x o) h' x o) : Inv X pins σ (upd H x o) { s with heap := h', toks := t' } := I.un (Un.write mu he k heo) (I.hok.write mu he k heo new)
/-- forgetting slots, pins -/
theorem Inv.weak {σ' : List (Option V)} (I : Inv X pins σ H s) (hl : σ'.length = σ.length) (w : ∀ (i : Nat) v, σ'[i]? = some (some v) → σ[i]? = some (some v)) : Inv X pins σ' H s :=
  ⟨I.ok, I.os, I.bare, I.base, let ⟨m, hn, hl'⟩ := I.loc; ⟨m, hn, fun i x v e1 e2 e3 => hl' i x v e1 (w i v e2) e3⟩, I.cell, I.free, I.freeC, I.pin, I.hok, hl.trans I.len⟩
theorem Inv.pins_of {pins' : List (Addr × Obj)} (I : Inv X pins σ H s) (h : ∀ p ∈ pins', s.heap.get? p.1 = some p.2 ∧ H p.1 = none ∧ p.1 ≠ X.env.locals ∧ p.1 ∉ X.fs ∧ ∀ v, p.2.data ≠ .cell v) : Inv X pins' σ H s :=
  ⟨I.ok, I.os, I.bare, I.base, I.loc, I.cell, I.free, I.freeC, fun p hp => (List.mem_append.mp hp).elim (fun z => I.pin p (List.mem_append_left _ z)) (h p), I.hok, I.len⟩

theorem nodup_ix {N : List Str} (hN : N.Nodup) {i j : Nat} {x : Str} (a : N[i]? = some x) (b : N[j]? = some x) : i = j := by
  obtain ⟨h1, e1⟩ := List.getElem?_eq_some_iff.mp a
  obtain ⟨h2, e2⟩ := List.getElem?_eq_some_iff.mp b
  exact (List.getElem_inj hN).mp (e1.trans e2.symm)

/-- a name is stored; what changed -/
theorem store_ok2 {M : Model} {A : Around} {E : Value → Shared → Prop} {i : Nat} {x : Str} {v : V} {u : Value} {Q : Unit → Shared → Prop} (I : Inv X pins σ H s) (hN : X.N.Nodup) (hi : X.N[i]? = some x) (hx : Loc X.env.scope x) (r : RelV v u)
    (h : ∀ s', Inv X pins (σ.set i (some v)) H s' → (∃ a, Heap.SameBut a s.heap s'.heap ∧ (a = X.env.locals ∨ X.env.cells.lookup x = some a)) → Q () s') (hf : X.fn x = true ∨ X.env.scope.names.lookup x = some .local := by first | exact .inl rfl | exact .inr rfl | assumption) : wpAny M A (storeName X.env x u) Q E s := by
  obtain ⟨m, hn, hl⟩ := id I.loc
  have hcls : (X.env.scope.kind == .class || (X.env.scope.kind == .module && X.env.locals != X.env.globals)) = false := by rw [I.ok.kind]; rfl
  have hiσ : i < σ.length := by rw [I.len]; exact (List.getElem?_eq_some_iff.mp hi).1
  have cne := I.cne
  have tracked : ∀ {a : Addr} {h' : Heap}, (∃ o, s.heap.get? a = some o ∧ H a = none) → Heap.SameBut a s.heap h' → HOk X.prog X.w H h' := fun {a h'} ha hs b ob e => by
    obtain ⟨_, _, hfree⟩ := ha
    refine (I.hok b ob e).stay (fun c w' hc q => (hs.2 c ?_).trans q) (fun _ q => q) fun _ _ q => q
    rintro rfl
    rcases hc with rfl | hc
    · rw [hfree] at e; cases e
    · rw [hfree] at hc; cases hc
  rcases hx with hk | hk
  · refine wpAny_storeName_local hk hn (fun h' hn' hs => ?_) hcls
    obtain ⟨oL, _, _, hoL, _⟩ := id hn
    refine h _ ⟨I.ok, I.os, I.bare, ⟨fun b o e n hb hx => ?_, fun b o e n hb hx => ?_, I.base.free, fun b o e hx => ?_, I.base.tups, I.base.frzs, I.base.tbls⟩, ⟨_, hn', fun j y v' e1 e2 e3 => ?_⟩, fun y c e => ?_, I.free, I.freeC, fun p hp => ?_, tracked ⟨oL, hoL, I.free⟩ hs, by simpa using I.len⟩ ⟨_, hs, .inl rfl⟩
    · exact (hs.2 b (Nat.ne_of_lt (Nat.lt_of_lt_of_le (Heap.lt_size e) I.ok.above))).trans (I.base.keep b o e n hb hx)
    · obtain ⟨sl, e1⟩ := I.base.slot b o e n hb hx
      exact ⟨sl, (hs.2 b (Nat.ne_of_lt (Nat.lt_of_lt_of_le (Heap.lt_size e) I.ok.above))).trans e1⟩
    · obtain ⟨o', e1⟩ := I.base.there b o e hx
      exact ⟨o', (hs.2 b (Nat.ne_of_lt (Nat.lt_of_lt_of_le (Heap.lt_size e) I.ok.above))).trans e1⟩
    · by_cases hj : j = i
      · subst hj
        rw [hi] at e1; cases e1
        rw [List.getElem?_set_self hiσ] at e2
        cases e2
        exact ⟨u, r, .inl ⟨hk, by simp⟩⟩
      · rw [List.getElem?_set_ne (Ne.symm hj)] at e2
        obtain ⟨u', r', q⟩ := hl j y v' e1 e2 e3
        refine ⟨u', r', ?_⟩
        rcases q with ⟨k, e⟩ | ⟨k, c, e, z⟩
        · refine .inl ⟨k, ?_⟩
          have : y ≠ x := fun e => hj (nodup_ix hN e1 (e ▸ hi))
          simp [this, e]
        · exact .inr ⟨k, c, e, z.sameBut hs (cne y c e)⟩
    · obtain ⟨w', z⟩ := I.cell y c e
      exact ⟨w', z.sameBut hs (cne y c e)⟩
    · obtain ⟨e, n, ne, nf, d⟩ := I.pin p hp
      exact ⟨(hs.2 p.1 ne).trans e, n, ne, nf, d⟩
  · have hfn : X.fn x = true := by
      rcases hf with z | z
      · exact z
      · rw [z] at hk; cases hk
    obtain ⟨c, hc⟩ := I.ok.has x (.inl hk)
    obtain ⟨w', z⟩ := I.cell x c hc
    refine wpAny_storeName_cell I.ok.kind hk hc z (fun h' hc' hs => ?_)
    obtain ⟨oc, hoc, hocd⟩ := id z
    refine h { s with heap := h' } ⟨I.ok, I.os, I.bare, ⟨fun b o e n hb hx => ?_, fun b o e n hb hx => ?_, I.base.free, fun b o e hx => ?_, I.base.tups, I.base.frzs, I.base.tbls⟩, ⟨m, hn.sameBut hs (Ne.symm (cne x c hc)), fun j y v' e1 e2 e3 => ?_⟩, fun y c' e => ?_, I.free, I.freeC, fun p hp => ?_, tracked ⟨oc, hoc, I.freeC x c hc⟩ hs, by simpa using I.len⟩ ⟨c, hs, .inr hc⟩
    · exact (hs.2 b (Nat.ne_of_lt (Nat.lt_of_lt_of_le (Heap.lt_size e) (I.ok.cab x c hfn hc)))).trans (I.base.keep b o e n hb hx)
    · obtain ⟨sl, e1⟩ := I.base.slot b o e n hb hx
      exact ⟨sl, (hs.2 b (Nat.ne_of_lt (Nat.lt_of_lt_of_le (Heap.lt_size e) (I.ok.cab x c hfn hc)))).trans e1⟩
    · obtain ⟨o', e1⟩ := I.base.there b o e hx
      exact ⟨o', (hs.2 b (Nat.ne_of_lt (Nat.lt_of_lt_of_le (Heap.lt_size e) (I.ok.cab x c hfn hc)))).trans e1⟩
    · by_cases hj : j = i
      · subst hj
        rw [hi] at e1; cases e1
        rw [List.getElem?_set_self hiσ] at e2
        cases e2
        exact ⟨u, r, .inr ⟨.inl hk, c, hc, hc'⟩⟩
      · rw [List.getElem?_set_ne (Ne.symm hj)] at e2
        obtain ⟨u', r', q⟩ := hl j y v' e1 e2 e3
        refine ⟨u', r', ?_⟩
        rcases q with q | ⟨k, c', e, z'⟩
        · exact .inl q
        · refine .inr ⟨k, c', e, z'.sameBut hs ?_⟩
          rintro rfl
          exact hj (nodup_ix hN e1 (I.ok.inj _ _ _ e hc ▸ hi))
    · by_cases hcc : c' = c
      · subst hcc; exact ⟨_, hc'⟩
      · obtain ⟨w2, z2⟩ := I.cell y c' e
        exact ⟨w2, z2.sameBut hs hcc⟩
    · obtain ⟨e, n, ne, nf, d⟩ := I.pin p hp
      refine ⟨(hs.2 p.1 ?_).trans e, n, ne, nf, d⟩
      intro q
      rw [q, hoc] at e
      have q' : oc = p.2 := Option.some.inj e
      exact d w' (by rw [← q']; exact hocd)
theorem store_ok {M : Model} {A : Around} {E : Value → Shared → Prop} {i : Nat} {x : Str} {v : V} {u : Value} {Q : Unit → Shared → Prop} (I : Inv X pins σ H s) (hN : X.N.Nodup) (hi : X.N[i]? = some x) (hx : Loc X.env.scope x) (r : RelV v u)
    (h : ∀ s', Inv X pins (σ.set i (some v)) H s' → Q () s') (hf : X.fn x = true ∨ X.env.scope.names.lookup x = some .local := by first | exact .inl rfl | exact .inr rfl | assumption) : wpAny M A (storeName X.env x u) Q E s :=
  store_ok2 I hN hi hx r (fun s' I' _ => h s' I') hf
/-- behind a call or a block, the state as it is -/
theorem Inv.call' {s' : Shared} {ch : List Addr} (I : Inv X pins σ H s) (ho : s'.os = s.os) (u : Un (frs X.stack) ch H H' s.heap s'.heap) (hok : HOk X.prog X.w H' s'.heap) (hg : AllBare s'.gens)
    (hch : ∀ b ∈ ch, (b ∈ X.ex ∨ X.s₀.heap.objs.size ≤ b) ∧ b ≠ X.env.locals ∧ (∀ x c, X.env.cells.lookup x = some c → c ≠ b) ∧ ∀ p ∈ X.pn ++ pins, p.1 ≠ b) : Inv X pins σ H' s' := by
  obtain ⟨h', g', d', t', o'⟩ := s'
  have e : o' = s.os := ho
  subst e
  exact I.call (g' := g') (t' := t') (d' := d') u hok hg hch
end

/-! ### the judgements -/
/-- an exception: its class, its own dict's address (where it has one), the abstract heap behind it -/
abbrev XK := Value → Option Addr → Hp → Prop
abbrev St := List (Option V)
abbrev VK := V → Hp → Prop
/-- an expression's reading; a test's; an argument list's -/
abbrev TE := St → Hp → VK → Prop
abbrev TT := St → Hp → (Bool → Hp → Prop) → Prop
abbrev TA := St → Hp → (List V → Hp → Prop) → Prop
/-- what is wanted behind a statement -/
structure Ends where
  nx : St → Hp → Prop
  rt : VK
  bk : St → Hp → Prop := fun _ _ => False
  ct : St → Hp → Prop := fun _ _ => False
abbrev TS := Ends → St → Hp → Prop

def EP (X : Cx) (pins : List (Addr × Obj)) (σ : St) (Q : VK) (u : Value) (s' : Shared) : Prop := ∃ v H', Inv X pins σ H' s' ∧ RelV v u ∧ Q v H'
def TP (X : Cx) (pins : List (Addr × Obj)) (σ : St) (Q : Bool → Hp → Prop) (b : Bool) (s' : Shared) : Prop := ∃ H', Inv X pins σ H' s' ∧ Q b H'
def AP (X : Cx) (pins : List (Addr × Obj)) (σ : St) (Q : List V → Hp → Prop) (us : List Value) (s' : Shared) : Prop := ∃ vs H', Inv X pins σ H' s' ∧ Vals vs us ∧ Q vs H'
def SP (X : Cx) (pins : List (Addr × Obj)) (D : Ends) (f : Flow) (s' : Shared) : Prop :=
  match f with
  | .next => ∃ σ' H', Inv X pins σ' H' s' ∧ D.nx σ' H'
  | .brk => ∃ σ' H', Inv X pins σ' H' s' ∧ D.bk σ' H'
  | .cont => ∃ σ' H', Inv X pins σ' H' s' ∧ D.ct σ' H'
  | .ret u => ∃ v σ' H', Inv X pins σ' H' s' ∧ RelV v u ∧ D.rt v H'

def PE (X : Cx) (e : Expr) (t : TE) : Prop :=
  ∀ (pins : List (Addr × Obj)) (s : Shared) (σ : St) (H : Hp) (Q : VK), Inv X pins σ H s → t σ H Q → wpAny (model X.prog X.w) X.A (eval e X.env) (EP X pins σ Q) X.xe s
def PT (X : Cx) (e : Expr) (t : TT) : Prop :=
  ∀ (pins : List (Addr × Obj)) (s : Shared) (σ : St) (H : Hp) (Q : Bool → Hp → Prop), Inv X pins σ H s → t σ H Q → wpAny (model X.prog X.w) X.A (isTrue e X.env (eval e X.env)) (TP X pins σ Q) X.xe s
/-- a test whatever its 'whole' is (and, or) -/
def PW (X : Cx) (e : Expr) (t : TT) : Prop :=
  ∀ (whole : Sem Value) (pins : List (Addr × Obj)) (s : Shared) (σ : St) (H : Hp) (Q : Bool → Hp → Prop), Inv X pins σ H s → t σ H Q → wpAny (model X.prog X.w) X.A (isTrue e X.env whole) (TP X pins σ Q) X.xe s
theorem PW.pt {X : Cx} {e : Expr} {t : TT} (h : PW X e t) : PT X e t := h _
/-- an argument list (no star), from the left -/
def PA (X : Cx) (es : List Expr) (t : TA) : Prop :=
  ∀ (pos : Pos) (pins : List (Addr × Obj)) (s : Shared) (σ : St) (H : Hp) (Q : List V → Hp → Prop), Inv X pins σ H s → t σ H Q → wpAny (model X.prog X.w) X.A (spliced (backTo pos (starEach es X.env))) (AP X pins σ Q) X.xe s
def PS (X : Cx) (st : Stmt) (t : TS) : Prop :=
  ∀ (pins : List (Addr × Obj)) (s : Shared) (σ : St) (H : Hp) (D : Ends), Inv X pins σ H s → t D σ H → wpAny (model X.prog X.w) X.A (exec st X.env) (SP X pins D) X.xe s
def PSs (X : Cx) (st : List Stmt) (t : TS) : Prop :=
  ∀ (pins : List (Addr × Obj)) (s : Shared) (σ : St) (H : Hp) (D : Ends), Inv X pins σ H s → t D σ H → wpAny (model X.prog X.w) X.A (execs st X.env) (SP X pins D) X.xe s
/-- weaken the end -/
theorem thn {α : Type} {t : Sem α} {Q Q' : α → Shared → Prop} {M : Model} {A : Around} {E : Value → Shared → Prop} {s : Shared} (h : wpAny M A t Q E s) (hQ : ∀ a s, Q a s → Q' a s) : wpAny M A t Q' E s := wpAny_mono h hQ fun _ _ x => x
end L2

namespace L2
open PySem PySem.Spec PyProof.Rows
section
variable {X : Cx}

/-- two expressions in a row -/
theorem bin {a b : Expr} {ta tb : TE} (ha : PE X a ta) (hb : PE X b tb) {pins : List (Addr × Obj)} {s : Shared} {σ : St} {H : Hp} {R : V → V → Hp → Prop} (I : Inv X pins σ H s) (h : ta σ H fun x H1 => tb σ H1 fun y H2 => R x y H2)
    {α : Type} {Q : α → Shared → Prop} {f : Value → Value → Sem α}
    (hf : ∀ v u s2 x y H2, Inv X pins σ H2 s2 → RelV x v → RelV y u → R x y H2 → wpAny (model X.prog X.w) X.A (f v u) Q X.xe s2) :
    wpAny (model X.prog X.w) X.A (eval a X.env) (fun v s₁ => wpAny (model X.prog X.w) X.A (eval b X.env) (fun u s₂ => wpAny (model X.prog X.w) X.A (f v u) Q X.xe s₂) X.xe s₁) X.xe s := by
  refine thn (ha pins s σ H _ I h) fun v s1 ⟨x, H1, I1, r1, q1⟩ => ?_
  refine thn (hb pins s1 σ H1 _ I1 q1) fun u s2 ⟨y, H2, I2, r2, q2⟩ => ?_
  exact hf v u s2 x y H2 I2 r1 r2 q2

/-! ### names and constants -/
def tVar (i : Nat) : TE := fun σ H Q => ∃ v, σ[i]? = some (some v) ∧ Q v H
def tC (v : V) : TE := fun _ H Q => Q v H
theorem pe_var {i : Nat} {x : Str} {pos : Pos} (hN : X.N[i]? = some x) (hv : Vis X.env.scope x) (hd : (x == ("__debug__" : Str)) = false := by decide) (hcd : (x == ("__classdict__" : Str)) = false := by decide) : PE X (.Name x pos) (tVar i) := by
  intro pins s σ H Q I h
  obtain ⟨v, e, h⟩ := h
  obtain ⟨m, hn, hl⟩ := I.loc
  obtain ⟨u, r, l⟩ := hl i x v hN e hv
  have fin : EP X pins σ Q u s := ⟨v, H, I, r, h⟩
  rcases l with ⟨hk, hm⟩ | ⟨hk, c, hc, hcell⟩
  · exact wpAny_Name (wpAny_loadName_local I.ok.kind hk hn hm fin) hd
  · rcases hk with hk | hk
    · exact wpAny_Name (wpAny_loadName_cell I.ok.kind hk hc hcell fin) hd
    · exact wpAny_Name (wpAny_loadName_free I.ok.kind hk hc hcell fin hcd) hd
theorem pe_int {i j pos} : PE X (.Constant (.int i) j pos) (tC (.int i)) := fun _ _ _ H _ I h => wpAny_Constant_int ⟨.int i, H, I.tok _, ⟨_, rfl⟩, h⟩
theorem pe_bl {b j pos} : PE X (.Constant (.bool b) j pos) (tC (.bl b)) := fun _ _ _ H _ I h => Constant_bool ⟨.bl b, H, I, rfl, h⟩
theorem pe_non {j pos} : PE X (.Constant .none j pos) (tC .non) := fun _ _ _ H _ I h => Constant_none ⟨.non, H, I, rfl, h⟩
theorem pe_str {x j pos} : PE X (.Constant (.str x) j pos) (tC (.str x)) := fun _ _ _ H _ I h => Calls.Constant_str ⟨.str x, H, I.tok _, ⟨_, rfl⟩, h⟩

/-- a global name of the def -/
def Gl (X : Cx) (x : Str) : Prop := X.env.kindOf x = some .globalImplicit
theorem ld_glob {E : Value → Shared → Prop} {pins : List (Addr × Obj)} {s : Shared} {σ : St} {H : Hp} {x : Str} {u : Value} {pos : Pos} {Q : Value → Shared → Prop} (I : Inv X pins σ H s) (hg : Gl X x) (hm : X.mg x = some u) (h : Q u s)
    (hd : (x == ("__debug__" : Str)) = false := by decide) : wpAny (model X.prog X.w) X.A (eval (.Name x pos) X.env) Q E s :=
  Calls.Name_function_global I.ok.kind hg (Calls.loadGlobal_global (by rw [I.ok.glob]; exact I.mod.glob.keeps I.bk) hm h) hd
theorem ld_blt {E : Value → Shared → Prop} {pins : List (Addr × Obj)} {s : Shared} {σ : St} {H : Hp} {x : Str} {u : Value} {pos : Pos} {Q : Value → Shared → Prop} (I : Inv X pins σ H s) (hg : Gl X x) (hm : X.mg x = none) (hv : bootBuiltins x = some u) (h : Q u s)
    (hn : x ≠ "__name__" := by decide) (hd : (x == ("__debug__" : Str)) = false := by decide) : wpAny (model X.prog X.w) X.A (eval (.Name x pos) X.env) Q E s := by
  obtain ⟨mb, h1, h2⟩ := I.mod.blt
  exact Calls.Name_function_global I.ok.kind hg (Calls.loadGlobal_builtin (by rw [I.ok.glob]; exact I.mod.glob.keeps I.bk) hm (by rw [I.ok.blt]; exact h1.keeps I.bk) ((h2 x hn).trans hv) h) hd
/-- a module's constant, a class, a function, as a value -/
theorem pe_glob {x : Str} {v : V} {u : Value} {pos : Pos} (hg : Gl X x) (hm : X.mg x = some u) (r : RelV v u) (hd : (x == ("__debug__" : Str)) = false := by decide) : PE X (.Name x pos) (tC v) :=
  fun _ _ _ H _ I h => ld_glob I hg hm ⟨v, H, I, r, h⟩ hd
theorem pe_bltn {x : Str} {v : V} {u : Value} {pos : Pos} (hg : Gl X x) (hm : X.mg x = none) (hv : bootBuiltins x = some u) (r : RelV v u) (hn : x ≠ "__name__" := by decide) (hd : (x == ("__debug__" : Str)) = false := by decide) : PE X (.Name x pos) (tC v) :=
  fun _ _ _ H _ I h => ld_blt I hg hm hv ⟨v, H, I, r, h⟩ hn hd

/-! ### arithmetic -/
/-- two ints -/
def t2I (ta tb : TE) (k : Int → Int → Hp → Prop) : St → Hp → Prop := fun σ H => ta σ H fun x H1 => tb σ H1 fun y H2 => ∃ i j, x = .int i ∧ y = .int j ∧ k i j H2
def tAdd (ta tb : TE) : TE := fun σ H Q => t2I ta tb (fun i j H2 => Q (.int (i + j)) H2) σ H
def tSub (ta tb : TE) : TE := fun σ H Q => t2I ta tb (fun i j H2 => Q (.int (i - j)) H2) σ H
/-- the left factor below 2^64 -/
def tMul (ta tb : TE) : TE := fun σ H Q => t2I ta tb (fun i j H2 => (-(2 ^ 64) < i ∧ i < 2 ^ 64) ∧ Q (.int (i * j)) H2) σ H
variable {a b : Expr} {ta tb : TE} {pos : Pos}
theorem pe_add (ha : PE X a ta) (hb : PE X b tb) : PE X (.BinOp a .Add b pos) (tAdd ta tb) := by
  intro pins s σ H Q I h
  refine wpAny_BinOp (bin ha hb I h fun v u s2 x y H2 I2 rx ry q => ?_)
  obtain ⟨i, j, rfl, rfl, q⟩ := q
  obtain ⟨t, rfl⟩ := rx
  obtain ⟨t', rfl⟩ := ry
  exact add_int ⟨.int _, H2, I2.tok _, ⟨_, rfl⟩, q⟩
theorem pe_sub (ha : PE X a ta) (hb : PE X b tb) : PE X (.BinOp a .Sub b pos) (tSub ta tb) := by
  intro pins s σ H Q I h
  refine wpAny_BinOp (bin ha hb I h fun v u s2 x y H2 I2 rx ry q => ?_)
  obtain ⟨i, j, rfl, rfl, q⟩ := q
  obtain ⟨t, rfl⟩ := rx
  obtain ⟨t', rfl⟩ := ry
  exact sub_int ⟨.int _, H2, I2.tok _, ⟨_, rfl⟩, q⟩
theorem pe_mul (ha : PE X a ta) (hb : PE X b tb) : PE X (.BinOp a .Mult b pos) (tMul ta tb) := by
  intro pins s σ H Q I h
  refine wpAny_BinOp (bin ha hb I h fun v u s2 x y H2 I2 rx ry q => ?_)
  obtain ⟨i, j, rfl, rfl, ⟨q1, q2⟩, q⟩ := q
  obtain ⟨t, rfl⟩ := rx
  obtain ⟨t', rfl⟩ := ry
  exact mul_int ⟨.int _, H2, I2.tok _, ⟨_, rfl⟩, q⟩ (.of_left (intBits_le_64 q1 q2))

/-! ### comparisons -/
def PC (X : Cx) (op : CmpOp) (a b : Expr) (t : TE) : Prop :=
  ∀ (pins : List (Addr × Obj)) (s : Shared) (σ : St) (H : Hp) (Q : VK), Inv X pins σ H s → t σ H Q →
    wpAny (model X.prog X.w) X.A (eval a X.env) (fun v s₁ => wpAny (model X.prog X.w) X.A (eval b X.env) (fun u s₂ => wpAny (model X.prog X.w) X.A (compareOp op v u) (EP X pins σ Q) X.xe s₂) X.xe s₁) X.xe s
theorem nobehind (b : Expr) {op : CmpOp} (h : op ≠ .In) (h2 : op ≠ .NotIn) : behindInMarks op b = false := by
  have e1 : (op == CmpOp.In) = false := by cases op <;> first | rfl | exact absurd rfl h
  have e2 : (op == CmpOp.NotIn) = false := by cases op <;> first | rfl | exact absurd rfl h2
  cases b <;> simp [behindInMarks, e1, e2]
def tCmp (p : Int → Int → Bool) (ta tb : TE) : TE := fun σ H Q => t2I ta tb (fun i j H2 => Q (.bl (p i j)) H2) σ H
abbrev tLt : TE → TE → TE := tCmp fun i j => decide (i < j)
abbrev tLe : TE → TE → TE := tCmp fun i j => decide (i ≤ j)
abbrev tGt : TE → TE → TE := tCmp fun i j => decide (j < i)
abbrev tGe : TE → TE → TE := tCmp fun i j => decide (j ≤ i)
abbrev tEqI : TE → TE → TE := tCmp fun i j => decide (i = j)
abbrev tNeI : TE → TE → TE := tCmp fun i j => !decide (i = j)
/-- a comparison of two ints, by its rule -/
theorem pc_int {op : CmpOp} {p : Int → Int → Bool} (ha : PE X a ta) (hb : PE X b tb)
    (rule : ∀ (i j : Int) (t u : Tok) (Q : Value → Shared → Prop) (s : Shared), Q (.bool (p i j)) s → wpAny (model X.prog X.w) X.A (compareOp op (.int i t) (.int j u)) Q X.xe s) : PC X op a b (tCmp p ta tb) := by
  intro pins s σ H Q I h
  refine bin ha hb I h fun v u s2 x y H2 I2 rx ry q => ?_
  obtain ⟨i, j, rfl, rfl, q⟩ := q
  obtain ⟨t, rfl⟩ := rx
  obtain ⟨t', rfl⟩ := ry
  exact rule i j t t' _ s2 ⟨.bl _, H2, I2, rfl, q⟩
theorem pc_lt (ha : PE X a ta) (hb : PE X b tb) : PC X .Lt a b (tLt ta tb) := pc_int ha hb fun _ _ _ _ _ _ h => lt_int h
theorem pc_le (ha : PE X a ta) (hb : PE X b tb) : PC X .LtE a b (tLe ta tb) := pc_int ha hb fun _ _ _ _ _ _ h => le_int h
theorem pc_gt (ha : PE X a ta) (hb : PE X b tb) : PC X .Gt a b (tGt ta tb) := pc_int ha hb fun _ _ _ _ _ _ h => gt_int h
theorem pc_ge (ha : PE X a ta) (hb : PE X b tb) : PC X .GtE a b (tGe ta tb) := pc_int ha hb fun _ _ _ _ _ _ h => ge_int h
theorem pc_eqI (ha : PE X a ta) (hb : PE X b tb) : PC X .Eq a b (tEqI ta tb) := pc_int ha hb fun _ _ _ _ _ _ h => eq_int (by rw [Bool.beq_eq_decide_eq]; exact h)
theorem pc_neI (ha : PE X a ta) (hb : PE X b tb) : PC X .NotEq a b (tNeI ta tb) := pc_int ha hb fun _ _ _ _ _ _ h => ne_int (by rw [bne, Bool.beq_eq_decide_eq]; exact h)
/-- is None -/
def tIsN (ta : TE) : TE := fun σ H Q => ta σ H fun x H1 => Q (.bl (decide (x = .non))) H1
def tNotN (ta : TE) : TE := fun σ H Q => ta σ H fun x H1 => Q (.bl (!decide (x = .non))) H1
theorem RelV.none_iff {x : V} {v : Value} (r : RelV x v) : (v == Value.none) = decide (x = .non) := by
  cases x with
  | non => cases r; rfl
  | bl _ => cases r; rfl
  | int _ => obtain ⟨t, rfl⟩ := r; rfl
  | str _ => obtain ⟨t, rfl⟩ := r; rfl
  | byt _ => obtain ⟨t, rfl⟩ := r; rfl
  | flt _ => obtain ⟨t, rfl⟩ := r; rfl
  | ref _ => cases r; rfl
  | ty _ => cases r; rfl
theorem pc_isN {j pos'} (ha : PE X a ta) : PC X .Is a (.Constant .none j pos') (tIsN ta) := by
  intro pins s σ H Q I h
  refine thn (ha pins s σ H _ I h) fun v s1 ⟨x, H1, I1, r1, q1⟩ => ?_
  exact Constant_none (is_none_gen ⟨.bl _, H1, I1, by rw [r1.none_iff]; rfl, q1⟩)
theorem pc_notN {j pos'} (ha : PE X a ta) : PC X .IsNot a (.Constant .none j pos') (tNotN ta) := by
  intro pins s σ H Q I h
  refine thn (ha pins s σ H _ I h) fun v s1 ⟨x, H1, I1, r1, q1⟩ => ?_
  exact Constant_none (isnot_none_gen ⟨.bl _, H1, I1, by rw [r1.none_iff]; rfl, q1⟩)
/-- a comparison as a value, as a test -/
def tB (t : TE) : TT := fun σ H Q => t σ H fun x H1 => ∃ c, x = .bl c ∧ Q c H1
theorem pe_cmp {op : CmpOp} {t : TE} (h : PC X op a b t) (h1 : behindInMarks op b = false := by first | exact nobehind _ (by decide) (by decide) | rfl) : PE X (.Compare a [op] [b] pos) t := fun pins s σ H Q I hw => wpAny_Compare1 (h pins s σ H Q I hw) h1
theorem pt_cmp {op : CmpOp} {t : TE} (h : PC X op a b t) (h1 : behindInMarks op b = false := by first | exact nobehind _ (by decide) (by decide) | rfl) : PT X (.Compare a [op] [b] pos) (tB t) := by
  intro pins s σ H Q I hw
  refine wpAny_isTrue_Compare1 (thn (h pins s σ H _ I hw) fun v s1 h1 => thn h1 fun u s2 h2 => thn h2 fun c s3 ⟨x, H1, I1, r1, q1⟩ => ?_) h1
  obtain ⟨d, rfl, q⟩ := q1
  cases r1
  exact wpAny_truthy_bool ⟨H1, I1, q⟩
/-- an expression whose value is a bool, as a test -/
theorem pt_val {e : Expr} {t : TE} (h : PE X e t) (he : ∀ whole, isTrue e X.env whole = (do let v ← whole; standAt e.pos; holding [v] (truthy v)) := by intro _; rfl) : PT X e (tB t) := by
  intro pins s σ H Q I hw
  refine isTrue_plain (thn (h pins s σ H _ I hw) fun v s1 ⟨x, H1, I1, r1, q1⟩ => ?_) (he _)
  obtain ⟨d, rfl, q⟩ := q1
  cases r1
  exact wpAny_truthy_bool ⟨H1, I1, q⟩

/-! ### and, or, not -/
variable {tA tB' : TT} {rest : List Expr}
def tAnd (t u : TT) : TT := fun σ H Q => t σ H fun c H1 => if c = true then u σ H1 Q else Q false H1
def tOr (t u : TT) : TT := fun σ H Q => t σ H fun c H1 => if c = true then Q true H1 else u σ H1 Q
def tNot (t : TT) : TT := fun σ H Q => t σ H fun c H1 => Q (!c) H1
theorem pw_and1 (ha : PT X a tA) : PW X (.BoolOp .And [a] pos) tA := by
  intro wh pins s σ H Q I h
  refine isTrue_and (thn (ha pins s σ H Q I h) fun c s1 e => ?_)
  cases c with
  | true => exact isTrue_and_nil e
  | false => exact e
theorem pw_or1 (ha : PT X a tA) : PW X (.BoolOp .Or [a] pos) tA := by
  intro wh pins s σ H Q I h
  refine isTrue_or (thn (ha pins s σ H Q I h) fun c s1 e => ?_)
  cases c with
  | false => exact isTrue_or_nil e
  | true => exact e
theorem pw_and (ha : PT X a tA) (hb : PW X (.BoolOp .And (b :: rest) pos) tB') : PW X (.BoolOp .And (a :: b :: rest) pos) (tAnd tA tB') := by
  intro wh pins s σ H Q I h
  refine isTrue_and (thn (ha pins s σ H _ I h) fun c s1 ⟨H1, I1, q1⟩ => ?_)
  cases c with
  | true => exact hb wh pins s1 σ H1 Q I1 q1
  | false => exact ⟨H1, I1, q1⟩
theorem pw_or (ha : PT X a tA) (hb : PW X (.BoolOp .Or (b :: rest) pos) tB') : PW X (.BoolOp .Or (a :: b :: rest) pos) (tOr tA tB') := by
  intro wh pins s σ H Q I h
  refine isTrue_or (thn (ha pins s σ H _ I h) fun c s1 ⟨H1, I1, q1⟩ => ?_)
  cases c with
  | true => exact ⟨H1, I1, q1⟩
  | false => exact hb wh pins s1 σ H1 Q I1 q1
theorem pt_not (ha : PT X a tA) : PT X (.UnaryOp .Not a pos) (tNot tA) := by
  intro pins s σ H Q I h
  exact isTrue_not (ha pins s σ H (fun c H1 => Q (!c) H1) I h)
/-- .. as values (bools) -/
def tAndV (ta tb : TE) : TE := fun σ H Q => ta σ H fun x H1 => ∃ c, x = .bl c ∧ if c = true then tb σ H1 Q else Q (.bl false) H1
def tOrV (ta tb : TE) : TE := fun σ H Q => ta σ H fun x H1 => ∃ c, x = .bl c ∧ if c = true then Q (.bl true) H1 else tb σ H1 Q
def tNotV (ta : TE) : TE := fun σ H Q => ta σ H fun x H1 => ∃ c, x = .bl c ∧ Q (.bl (!c)) H1
theorem pe_one {op} {t : TE} (h : PE X a t) : PE X (.BoolOp op [a] pos) t := fun pins s σ H Q I hw => BoolOp_one (h pins s σ H Q I hw)
theorem pe_and (ha : PE X a ta) (hb : PE X (.BoolOp .And (b :: rest) pos) tb) : PE X (.BoolOp .And (a :: b :: rest) pos) (tAndV ta tb) := by
  intro pins s σ H Q I h
  refine BoolOp_and (thn (ha pins s σ H _ I h) fun v s1 ⟨x, H1, I1, r1, q1⟩ => ?_)
  obtain ⟨c, rfl, q1⟩ := q1
  cases r1
  refine wpAny_truthy_bool ?_
  cases c with
  | true => exact hb pins s1 σ H1 Q I1 q1
  | false => exact ⟨.bl false, H1, I1, rfl, q1⟩
theorem pe_or (ha : PE X a ta) (hb : PE X (.BoolOp .Or (b :: rest) pos) tb) : PE X (.BoolOp .Or (a :: b :: rest) pos) (tOrV ta tb) := by
  intro pins s σ H Q I h
  refine BoolOp_or (thn (ha pins s σ H _ I h) fun v s1 ⟨x, H1, I1, r1, q1⟩ => ?_)
  obtain ⟨c, rfl, q1⟩ := q1
  cases r1
  refine wpAny_truthy_bool ?_
  cases c with
  | false => exact hb pins s1 σ H1 Q I1 q1
  | true => exact ⟨.bl true, H1, I1, rfl, q1⟩
theorem pe_not (ha : PE X a ta) : PE X (.UnaryOp .Not a pos) (tNotV ta) := by
  intro pins s σ H Q I h
  refine UnaryOp_ (thn (ha pins s σ H _ I h) fun v s1 ⟨x, H1, I1, r1, q1⟩ => ?_)
  obtain ⟨c, rfl, q1⟩ := q1
  cases r1
  exact not_of (wpAny_truthy_bool ⟨.bl (!c), H1, I1, rfl, q1⟩)
/-- a if t else b -/
def tIf (t : TT) (ta tb : TE) : TE := fun σ H Q => t σ H fun c H1 => if c = true then ta σ H1 Q else tb σ H1 Q
theorem pe_ifExp {c : Expr} (hc : PT X c tA) (ha : PE X a ta) (hb : PE X b tb) : PE X (.IfExp c a b pos) (tIf tA ta tb) := by
  intro pins s σ H Q I h
  refine wpAny_IfExp (thn (hc pins s σ H _ I h) fun d s1 ⟨H1, I1, q1⟩ => ?_)
  cases d with
  | true => exact ha pins s1 σ H1 Q I1 q1
  | false => exact hb pins s1 σ H1 Q I1 q1
end
end L2

namespace L2
open PySem PySem.Spec PyProof.Rows

/-! ### a list, a tuple that is read: tracked, frozen, or an object of the module -/
def SqL (K : PySem.W.Frag) (H : Hp) (a : Addr) (xs : List V) : Prop :=
  Rd H a (.lst xs) ∨
    ∃ (o : Obj) (its : Array Value) (n : Nat), K.lookup a = some o ∧ o.cls = .type "list" ∧ o.dict = none ∧ o.data = .seq its n ∧ its.size ≤ sizeLine ∧ Vals xs its.toList
def SqT (K : PySem.W.Frag) (H : Hp) (a : Addr) (xs : List V) : Prop :=
  Rd H a (.tup xs) ∨
    ∃ (o : Obj) (its : Array Value) (n : Nat), K.lookup a = some o ∧ o.cls = .type "tuple" ∧ o.data = .seq its n ∧ its.size ≤ sizeLine ∧ Vals xs its.toList
def absV : Value → Option V
  | .none => some .non
  | .bool b => some (.bl b)
  | .int i _ => some (.int i)
  | .str x _ => some (.str x)
  | .bytes b _ => some (.byt b)
  | .float b _ => some (.flt b)
  | .ref a => some (.ref a)
  | .type n => some (.ty n)
  | _ => none
theorem RelV.abs {x : V} {u : Value} (r : RelV x u) : absV u = some x := by
  cases x with
  | non => cases r; rfl
  | bl _ => cases r; rfl
  | int _ => obtain ⟨t, rfl⟩ := r; rfl
  | str _ => obtain ⟨t, rfl⟩ := r; rfl
  | byt _ => obtain ⟨t, rfl⟩ := r; rfl
  | flt _ => obtain ⟨t, rfl⟩ := r; rfl
  | ref _ => cases r; rfl
  | ty _ => cases r; rfl
theorem RelV.inj {x y : V} {u : Value} (r : RelV x u) (q : RelV y u) : x = y := Option.some.inj (r.abs.symm.trans q.abs)
theorem Vals.inj : ∀ {xs ys : List V} {us : List Value}, Vals xs us → Vals ys us → xs = ys
  | _, _, _, .nil, .nil => rfl
  | _, _, _, .cons r t, .cons r' t' => by rw [r.inj r', Vals.inj t t']
section
variable {X : Cx} {pins : List (Addr × Obj)} {σ : St} {H : Hp} {s : Shared} {a : Addr} {xs ys : List V}
theorem SqL.of {K : PySem.W.Frag} (h : H a = some (.lst xs)) : SqL K H a xs := .inl (.inl h)
theorem SqT.of {K : PySem.W.Frag} (h : H a = some (.tup xs)) : SqT K H a xs := .inl (.inl h)
theorem Inv.list (I : Inv X pins σ H s) (h : SqL X.K H a xs) : ∃ its : List Value, Vals xs its ∧ PlainL s.heap a its.toArray ∧ xs.length ≤ sizeLine := by
  rcases h with h | ⟨o, its, n, hk, hc, hd, hs, hz, r⟩
  · obtain ⟨z, its, n, r, e⟩ := h.ok I.hok
    exact ⟨its, r, ⟨_, n, e, rfl, rfl, rfl⟩, z⟩
  · refine ⟨its.toList, r, ⟨o, n, I.kIn a o hk, hc, hd, by simpa using hs⟩, ?_⟩
    have e := r.length
    simp only [Array.length_toList] at e
    omega
theorem Inv.tuple (I : Inv X pins σ H s) (h : SqT X.K H a xs) : ∃ its : List Value, Vals xs its ∧ IsTup s.heap a its.toArray ∧ xs.length ≤ sizeLine := by
  rcases h with h | ⟨o, its, n, hk, hc, hs, hz, r⟩
  · obtain ⟨z, its, r, p⟩ := h.ok I.hok
    exact ⟨its, r, p, z⟩
  · refine ⟨its.toList, r, ⟨o, I.kIn a o hk, hc, n, by simpa using hs⟩, ?_⟩
    have e := r.length
    simp only [Array.length_toList] at e
    omega
theorem Inv.list_inj (I : Inv X pins σ H s) (h : SqL X.K H a xs) (h' : SqL X.K H a ys) : xs = ys := by
  obtain ⟨its, r, ⟨o, n, e, _, _, d⟩, _⟩ := I.list h
  obtain ⟨its', r', ⟨o', n', e', _, _, d'⟩, _⟩ := I.list h'
  rw [e] at e'; cases e'
  rw [d] at d'
  injection d' with d1 _
  have : its = its' := by simpa using congrArg Array.toList d1
  subst this
  exact r.inj r'
theorem Inv.tuple_inj (I : Inv X pins σ H s) (h : SqT X.K H a xs) (h' : SqT X.K H a ys) : xs = ys := by
  obtain ⟨its, r, ⟨o, e, _, n, d⟩, _⟩ := I.tuple h
  obtain ⟨its', r', ⟨o', e', _, n', d'⟩, _⟩ := I.tuple h'
  rw [e] at e'; cases e'
  rw [d] at d'
  injection d' with d1 _
  have : its = its' := by simpa using congrArg Array.toList d1
  subst this
  exact r.inj r'
end

/-! ### another wish about exceptions -/
abbrev Cx.wish (X : Cx) (E : Value → Shared → Prop) : Cx := { X with xe := E }
/-- no exception leaves -/
abbrev Cx.nox (X : Cx) : Cx := X.wish fun _ _ => False
theorem Cx.Ok.wish {X : Cx} (ok : X.Ok) (E : Value → Shared → Prop) : (X.wish E).Ok :=
  ⟨ok.mod, ok.kind, ok.glob, ok.blt, ok.above, ok.inj, ok.has, ok.cab, ok.hd, ok.frames, ok.stk, ok.exf, ok.bs, ok.bsz, ok.noex, ok.exfs, ok.funs, ok.frf⟩
theorem Cx.Ok.unwish {X : Cx} {E : Value → Shared → Prop} (ok : (X.wish E).Ok) : X.Ok :=
  ⟨ok.mod, ok.kind, ok.glob, ok.blt, ok.above, ok.inj, ok.has, ok.cab, ok.hd, ok.frames, ok.stk, ok.exf, ok.bs, ok.bsz, ok.noex, ok.exfs, ok.funs, ok.frf⟩
section
variable {X : Cx} {pins : List (Addr × Obj)} {σ : St} {H : Hp} {s : Shared} {E : Value → Shared → Prop}
theorem Inv.wish (I : Inv X pins σ H s) (E : Value → Shared → Prop) : Inv (X.wish E) pins σ H s := ⟨I.ok.wish E, I.os, I.bare, I.base, I.loc, I.cell, I.free, I.freeC, I.pin, I.hok, I.len⟩
theorem Inv.unwish (I : Inv (X.wish E) pins σ H s) : Inv X pins σ H s := ⟨I.ok.unwish, I.os, I.bare, I.base, I.loc, I.cell, I.free, I.freeC, I.pin, I.hok, I.len⟩
theorem SP.unwish {D : Ends} {f : Flow} {s' : Shared} (h : SP (X.wish E) pins D f s') : SP X pins D f s' := by
  cases f with
  | next => obtain ⟨σ', H', I, q⟩ := h; exact ⟨σ', H', I.unwish, q⟩
  | brk => obtain ⟨σ', H', I, q⟩ := h; exact ⟨σ', H', I.unwish, q⟩
  | cont => obtain ⟨σ', H', I, q⟩ := h; exact ⟨σ', H', I.unwish, q⟩
  | ret u => obtain ⟨v, σ', H', I, r, q⟩ := h; exact ⟨v, σ', H', I.unwish, r, q⟩
theorem PE.nox {e : Expr} {t : TE} (h : PE X.nox e t) : PE X e t := fun pins s σ H Q I hw =>
  wpAny_mono (h pins s σ H Q (I.wish _) hw) (fun _ _ ⟨v, H', I', r, q⟩ => ⟨v, H', I'.unwish, r, q⟩) fun _ _ z => False.elim z
theorem PT.nox {e : Expr} {t : TT} (h : PT X.nox e t) : PT X e t := fun pins s σ H Q I hw =>
  wpAny_mono (h pins s σ H Q (I.wish _) hw) (fun _ _ ⟨H', I', q⟩ => ⟨H', I'.unwish, q⟩) fun _ _ z => False.elim z
theorem PSs.nox {st : List Stmt} {t : TS} (h : PSs X.nox st t) : PSs X st t := fun pins s σ H D I hw =>
  wpAny_mono (h pins s σ H D (I.wish _) hw) (fun _ _ q => q.unwish) fun _ _ z => False.elim z
end

/-! ### blocks and small statements -/
section
variable {X : Cx} {st : Stmt} {rest : List Stmt} {t u : TS} {e : Expr} {te : TE} {pos : Pos}
def tNext : TS := fun D σ H => D.nx σ H
def tSeq (t u : TS) : TS := fun D σ H => t { D with nx := u D } σ H
theorem pss_nil : PSs X [] tNext := fun _ _ σ H _ I h => wpAny_execs_nil ⟨σ, H, I, h⟩
theorem pss_cons (h1 : PS X st t) (h2 : PSs X rest u) : PSs X (st :: rest) (tSeq t u) := by
  intro pins s σ H D I h
  refine wpAny_execs_cons (thn (h1 pins s σ H { D with nx := u D } I h) fun f s1 q => ?_)
  cases f with
  | next =>
    obtain ⟨σ', H', I', q⟩ := q
    exact h2 pins s1 σ' H' D I' q
  | ret v => exact q
  | brk => exact q
  | cont => exact q
theorem pss_one (h1 : PS X st t) : PSs X [st] t := by
  intro pins s σ H D I h
  refine wpAny_execs_cons (thn (h1 pins s σ H D I h) fun f s1 q => ?_)
  cases f with
  | next => exact wpAny_execs_nil q
  | ret v => exact q
  | brk => exact q
  | cont => exact q
def tBreak : TS := fun D σ H => D.bk σ H
def tCont : TS := fun D σ H => D.ct σ H
theorem ps_pass : PS X (.Pass pos) tNext := fun _ _ σ H _ I h => wpAny_Pass ⟨σ, H, I, h⟩
theorem ps_break : PS X (.Break pos) tBreak := fun _ _ σ H _ I h => wpAny_Break ⟨σ, H, I, h⟩
theorem ps_continue : PS X (.Continue pos) tCont := fun _ _ σ H _ I h => wpAny_Continue ⟨σ, H, I, h⟩
/-- in a def's body nothing is shown -/
theorem Inv.quiet {pins : List (Addr × Obj)} {σ : St} {H : Hp} {s : Shared} (I : Inv X pins σ H s) : interactive X.env = false := by simp [interactive, I.ok.kind]
/-- a docstring -/
theorem ps_doc {x j pos pos'} : PS X (.Expr (.Constant (.str x) j pos) pos') tNext := fun _ s σ H _ I h => wpAny_Expr (Calls.Constant_str (show SP X _ _ .next { s with toks := s.toks + 1 } from ⟨σ, H, I.tok _, h⟩)) I.quiet
/-- an expression whose value is dropped -/
def tDrop (te : TE) : TS := fun D σ H => te σ H fun _ H1 => D.nx σ H1
theorem ps_expr (he : PE X e te) (hs : swapsWith e none pos.line X.env = pure false := by rfl) : PS X (.Expr e pos) (tDrop te) := by
  intro pins s σ H D I h
  exact wpAny_Expr_any (thn (he pins s σ H _ I h) fun v s1 ⟨x, H1, I1, r1, q1⟩ => ⟨σ, H1, I1, q1⟩) I.quiet hs
def tRet (te : TE) : TS := fun D σ H => te σ H D.rt
theorem ps_ret (he : PE X e te) : PS X (.Return (some e) pos) (tRet te) := by
  intro pins s σ H D I h
  exact wpAny_Return_some (thn (he pins s σ H _ I h) fun v s1 ⟨x, H1, I1, r1, q1⟩ => ⟨x, σ, H1, I1, r1, q1⟩)
def tRetN : TS := fun D _ H => D.rt .non H
theorem ps_retN : PS X (.Return none pos) tRetN := fun _ _ σ H _ I h => wpAny_Return_none ⟨.non, σ, H, I, rfl, h⟩
def tIfS (c : TT) (t u : TS) : TS := fun D σ H => c σ H fun b H1 => if b = true then t D σ H1 else u D σ H1
theorem ps_if {c : Expr} {a b : List Stmt} {tc : TT} (hc : PT X c tc) (ha : PSs X a t) (hb : PSs X b u) : PS X (.If c a b pos) (tIfS tc t u) := by
  intro pins s σ H D I h
  refine wpAny_If (thn (hc pins s σ H _ I h) fun d s1 ⟨H1, I1, q1⟩ => ?_)
  cases d with
  | true => exact ha pins s1 σ H1 D I1 q1
  | false => exact hb pins s1 σ H1 D I1 q1
/-- code that the proof never comes to -/
def tNever : TS := fun _ _ _ => False
theorem ps_never : PS X st tNever := fun _ _ _ _ _ _ h => h.elim
theorem pss_never {sts : List Stmt} : PSs X sts tNever := fun _ _ _ _ _ _ h => h.elim
end

/-! ### targets -/
abbrev TG := V → St → Hp → (St → Hp → Prop) → Prop
abbrev TGs := List V → St → Hp → (St → Hp → Prop) → Prop
def PG (X : Cx) (target : Expr) (t : TG) : Prop :=
  ∀ (pins : List (Addr × Obj)) (s : Shared) (σ : St) (H : Hp) (v : V) (u : Value) (Q : St → Hp → Prop), Inv X pins σ H s → RelV v u → t v σ H Q →
    wpAny (model X.prog X.w) X.A (assign target X.env u) (fun _ s' => ∃ σ' H', Inv X pins σ' H' s' ∧ Q σ' H') X.xe s
/-- several targets, one after another -/
def PGs (X : Cx) (ts : List Expr) (t : TGs) : Prop :=
  ∀ (pins : List (Addr × Obj)) (s : Shared) (σ : St) (H : Hp) (vs : List V) (us : List Value) (Q : St → Hp → Prop), Inv X pins σ H s → Vals vs us → t vs σ H Q →
    wpAny (model X.prog X.w) X.A (assignInOrder ((assignEach ts X.env).map (·.2)) us) (fun _ s' => ∃ σ' H', Inv X pins σ' H' s' ∧ Q σ' H') X.xe s
/-- o[i] = v, by values -/
abbrev TSet := V → V → V → Hp → (Hp → Prop) → Prop
def PSet (X : Cx) (t : TSet) : Prop :=
  ∀ (pins : List (Addr × Obj)) (s : Shared) (σ : St) (H : Hp) (o i v : V) (ov iv u : Value) (Q : Hp → Prop), Inv X pins σ H s → RelV o ov → RelV i iv → RelV v u → t o i v H Q →
    wpAny (model X.prog X.w) X.A (setItem ov iv u) (fun _ s' => ∃ H', Inv X pins σ H' s' ∧ Q H') X.xe s
/-- a op= b, by values -/
abbrev TIp := V → V → Hp → VK → Prop
def PIp (X : Cx) (op : Operator) (t : TIp) : Prop :=
  ∀ (pins : List (Addr × Obj)) (s : Shared) (σ : St) (H : Hp) (x y : V) (v u : Value) (Q : VK), Inv X pins σ H s → RelV x v → RelV y u → t x y H Q →
    wpAny (model X.prog X.w) X.A (inplaceOp op v u) (EP X pins σ Q) X.xe s
section
variable {X : Cx} {pos : Pos}
def gName (i : Nat) : TG := fun v σ H Q => Q (σ.set i (some v)) H
theorem pg_name {i : Nat} {x : Str} (hN : X.N.Nodup) (hi : X.N[i]? = some x) (hx : Loc X.env.scope x) (hf : X.fn x = true ∨ X.env.scope.names.lookup x = some .local := by first | exact .inl rfl | exact .inr rfl | assumption) : PG X (.Name x pos) (gName i) := by
  intro pins s σ H v u Q I r h
  exact wpAny_assign_Name (store_ok I hN hi hx r (fun s' I' => ⟨_, H, I', h⟩) hf)
def gNil : TGs := fun vs σ H Q => vs = [] ∧ Q σ H
def gCons (t : TG) (u : TGs) : TGs := fun vs σ H Q => ∃ v r, vs = v :: r ∧ t v σ H fun σ' H' => u r σ' H' Q
theorem pgs_nil : PGs X [] gNil := by
  intro pins s σ H vs us Q I r h
  obtain ⟨e, h⟩ := h
  subst e
  cases r
  exact assignInOrder_nil ⟨σ, H, I, h⟩
theorem pgs_cons {e : Expr} {es : List Expr} {t : TG} {u : TGs} (h1 : PG X e t) (h2 : PGs X es u)
    (hs : (assignEach (e :: es) X.env).map (·.2) = assign e X.env :: (assignEach es X.env).map (·.2) := by rfl) : PGs X (e :: es) (gCons t u) := by
  intro pins s σ H vs us Q I r h
  obtain ⟨v, vr, e1, h⟩ := h
  subst e1
  cases r with
  | cons r rr =>
    rw [hs]
    refine assignInOrder_cons (thn (h1 pins s σ H _ _ _ I r h) fun _ s1 ⟨σ1, H1, I1, q1⟩ => ?_)
    exact h2 pins s1 σ1 H1 _ _ Q I1 rr q1
/-- (a, b, ..) = a tuple of that length -/
def gTup (K : PySem.W.Frag) (n : Nat) (t : TGs) : TG := fun v σ H Q => ∃ a xs, v = .ref a ∧ SqT K H a xs ∧ xs.length = n ∧ t xs σ H Q
theorem pg_tup {es : List Expr} {k : Nat} {t : TGs} {n : Nat} (hc : X.calm = true) (h : PGs X es t)
    (hn : (assignEach es X.env).length = n := by rfl) (hst : (assignEach es X.env).findIdx? (·.1) = none := by rfl) : PG X (.Tuple es k pos) (gTup X.K n t) := by
  intro pins s σ H v u Q I r hw
  obtain ⟨a, xs, e1, hq, hl, hw⟩ := hw
  subst e1
  cases r
  obtain ⟨its, rv, ht, hz⟩ := I.tuple hq
  refine assign_Tuple_tuple (I.ok.hd hc) ht (by simp [hn, ← hl, rv.length]) hst fun h' hx => ?_
  have I1 : Inv X pins σ H { s with heap := h' } := I.kept (t' := s.toks) fun b o e => hx b o (Nat.ne_of_lt (Heap.lt_size e)) e
  exact h pins _ σ H xs _ Q I1 (by simpa using rv) hw
/-- o[i] = .. -/
def gSub (to ti : TE) (t : TSet) : TG := fun v σ H Q => to σ H fun o H1 => ti σ H1 fun i H2 => t o i v H2 fun H3 => Q σ H3
theorem pg_sub {o i : Expr} {to ti : TE} {t : TSet} (ho : PE X o to) (hi : PE X i ti) (hs : PSet X t)
    (ha : ∀ v, assign (.Subscript o i pos) X.env v = (do
      let ov ← holding [v] (eval o X.env)
      let iv ← holding [v, ov] (eval i X.env)
      standAt pos
      holding [v, ov, iv] (setItem ov iv v)
      release [v, ov, iv] []) := by intro _; rfl) : PG X (.Subscript o i pos) (gSub to ti t) := by
  intro pins s σ H v u Q I r h
  rw [ha]
  refine wpAny_bind (wpAny_holding (thn (ho pins s σ H _ I h) fun ov s1 ⟨x, H1, I1, r1, q1⟩ => ?_))
  refine wpAny_bind (wpAny_holding (thn (hi pins s1 σ H1 _ I1 q1) fun iv s2 ⟨y, H2, I2, r2, q2⟩ => ?_))
  refine wpAny_bind (wpAny_standAt (wpAny_bind (wpAny_holding (thn (hs pins s2 σ H2 x y v ov iv u _ I2 r1 r2 r q2) fun _ s3 ⟨H3, I3, q3⟩ => ?_))))
  exact wpAny_release ⟨σ, H3, I3, q3⟩
/-- target = value -/
def tAsg (te : TE) (g : TG) : TS := fun D σ H => te σ H fun x H1 => g x σ H1 D.nx
theorem ps_asg {tg e : Expr} {te : TE} {g : TG} (he : PE X e te) (hg : PG X tg g) (hs : swapsWithSole [tg] e pos.line X.env = pure false := by rfl) (hw : swappedStores [tg] e X.env = pure none := by rfl)
    (h1 : (assignEach [tg] X.env).map (·.2) = [assign tg X.env] := by rfl) : PS X (.Assign [tg] e pos) (tAsg te g) := by
  intro pins s σ H D I h
  refine wpAny_Assign_stores (thn (he pins s σ H _ I h) fun v s1 ⟨x, H1, I1, r1, q1⟩ => ?_) hs hw
  rw [h1]
  exact thn (hg pins s1 σ H1 x v _ I1 r1 q1) fun _ s2 q => q
/-- name = value -/
theorem ps_set {i : Nat} {x : Str} {e : Expr} {te : TE} {pos' : Pos} (hN : X.N.Nodup) (hi : X.N[i]? = some x) (hx : Loc X.env.scope x) (he : PE X e te) (hs : swapsWith e (some (.Name x pos')) pos.line X.env = pure false := by rfl) (hf : X.fn x = true ∨ X.env.scope.names.lookup x = some .local := by first | exact .inl rfl | exact .inr rfl | assumption) :
    PS X (.Assign [.Name x pos'] e pos) (tAsg te (gName i)) := by
  intro pins s σ H D I h
  refine wpAny_Assign_Name (thn (he pins s σ H _ I h) fun v s1 ⟨y, H1, I1, r1, q1⟩ => ?_) hs
  exact store_ok I1 hN hi hx r1 (fun s2 I2 => ⟨_, H1, I2, q1⟩) hf
/-- a, b = x, y with plain local names: stored from the right; the pair itself is not tracked (the opening rows as in PyProof/Rows/TupAssign.lean:23) -/
def tPar (i j : Nat) (ta : TA) : TS := fun D σ H => ta σ H fun vs H1 => ∃ v w, vs = [v, w] ∧ D.nx ((σ.set i (some v)).set j (some w)) H1
theorem ps_par {i j : Nat} {x y : Str} {a b : Expr} {ta : TA} {px py pt : Pos} {kt k2 pt2} (hc : X.calm = true) (hN : X.N.Nodup) (hi : X.N[i]? = some x) (hj : X.N[j]? = some y) (hij : i ≠ j)
    (hx : X.env.scope.names.lookup x = some .local) (hy : X.env.scope.names.lookup y = some .local) (ha : PA X [a, b] ta)
    (hw : swappedStores [.Tuple [.Name x px, .Name y py] kt pt] (.Tuple [a, b] k2 pt2) X.env = pure (some [x, y]))
    (hs : swapsWithSole [.Tuple [.Name x px, .Name y py] kt pt] (.Tuple [a, b] k2 pt2) pos.line X.env = pure false := by rfl) :
    PS X (.Assign [.Tuple [.Name x px, .Name y py] kt pt] (.Tuple [a, b] k2 pt2) pos) (tPar i j ta) := by
  intro pins s σ H D I h
  rw [exec_Assign_arm]
  refine wpAny_bind (wpAny_standAt ?_)
  rw [hs]
  refine wpAny_bind (wpAny_pure ?_)
  rw [if_neg (by decide)]
  refine wpAny_bind (Tuple_ (thn (ha _ pins s σ H _ I h) fun us s1 ⟨vs, H1, I1, r1, q1⟩ => ?_))
  obtain ⟨v, w, e1, q1⟩ := q1
  subst e1
  obtain ⟨u1, u2, rfl, rv, rw'⟩ : ∃ u1 u2, us = [u1, u2] ∧ RelV v u1 ∧ RelV w u2 := by
    cases r1 with
    | cons p q =>
      cases q with
      | cons p' q' =>
        cases q'
        exact ⟨_, _, rfl, p, p'⟩
  refine wpAny_newObj_type ?_ (by show 2 ≤ sizeLine; decide)
  have I2 : Inv X pins σ H1 { s1 with heap := s1.heap.push { cls := .type "tuple", data := .seq [u1, u2].toArray } } := I1.kept (t' := s1.toks) fun b o e => Heap.get?_push_of_some _ e
  rw [hw]
  refine wpAny_bind (wpAny_pure ?_)
  show wpAny (model X.prog X.w) X.A (do rule "assign.swapped-stores"; let items ← unpackItems (.ref s1.heap.objs.size) 2 none; assignInOrder [fun v => bindName X.env y v, fun v => bindName X.env x v] items.reverse; pure Flow.next) _ _ _
  refine wpAny_bind (wpAny_rule (wpAny_bind (unpackItems_tuple (items := #[u1, u2]) (I.ok.hd hc) (IsTup.new s1.heap _) fun h' hx' => ?_)))
  have I3 := I2.kept (h' := h') (t' := s1.toks) fun b o e => hx' b o (Nat.ne_of_lt (Heap.lt_size e)) e
  show wpAny _ _ (assignInOrder [fun v => bindName X.env y v, fun v => bindName X.env x v] [u2, u1] >>= fun _ => pure Flow.next) _ _ _
  refine wpAny_bind (assignInOrder_cons (wpAny_bindName (store_ok I3 hN hj (.inl hy) rw' (fun s2 I4 => ?_) (.inr hy))))
  refine assignInOrder_cons (wpAny_bindName (store_ok I4 hN hi (.inl hx) rv (fun s3 I5 => assignInOrder_nil (wpAny_pure ?_)) (.inr hx)))
  rw [List.set_comm _ _ (Ne.symm hij)] at I5
  exact ⟨_, H1, I5, q1⟩
/-- name op= e -/
def tAug (i : Nat) (te : TE) (ti : TIp) : TS := fun D σ H => ∃ x, σ[i]? = some (some x) ∧ te σ H fun y H1 => ti x y H1 fun z H2 => D.nx (σ.set i (some z)) H2
theorem ps_aug {i : Nat} {x : Str} {e : Expr} {te : TE} {op : Operator} {ti : TIp} {pos' : Pos} (hN : X.N.Nodup) (hi : X.N[i]? = some x) (hx : Loc X.env.scope x) (he : PE X e te) (ho : PIp X op ti) (hf : X.fn x = true ∨ X.env.scope.names.lookup x = some .local := by first | exact .inl rfl | exact .inr rfl | assumption) :
    PS X (.AugAssign (.Name x pos') op e pos) (tAug i te ti) := by
  intro pins s σ H D I h
  obtain ⟨v, e1, h⟩ := h
  obtain ⟨m, hn, hl⟩ := I.loc
  have vis : Vis X.env.scope x := by rcases hx with k | k; exact .inl k; exact .inr (.inl k)
  obtain ⟨u, r, l⟩ := hl i x v hi e1 vis
  refine wpAny_AugAssign_Name ?_
  have go : wpAny (model X.prog X.w) X.A (eval e X.env) (fun w s₂ => wpAny (model X.prog X.w) X.A (inplaceOp op u w) (fun r s₃ => wpAny (model X.prog X.w) X.A (storeName X.env x r) (fun _ => SP X pins D .next) X.xe s₃) X.xe s₂) X.xe s := by
    refine thn (he pins s σ H _ I h) fun w s1 ⟨y, H1, I1, r1, q1⟩ => ?_
    refine thn (ho pins s1 σ H1 v y u w _ I1 r r1 q1) fun z s2 ⟨zv, H2, I2, r2, q2⟩ => ?_
    exact store_ok I2 hN hi hx r2 (fun s3 I3 => ⟨_, H2, I3, q2⟩) hf
  rcases l with ⟨hk, hm⟩ | ⟨hk, c, hc, hcell⟩
  · exact wpAny_loadName_local I.ok.kind hk hn hm go
  · rcases hk with hk | hk
    · exact wpAny_loadName_cell I.ok.kind hk hc hcell go
    · rcases hx with k | k
      · have : X.env.scope.names.lookup x = some .free := hk
        rw [k] at this; cases this
      · have : X.env.scope.names.lookup x = some .free := hk
        rw [k] at this; cases this
/-- o[i] op= e -/
def tAugS (to ti te : TE) (tget : V → V → Hp → VK → Prop) (tip : TIp) (tset : TSet) : TS := fun D σ H => to σ H fun o H1 => ti σ H1 fun i H2 => tget o i H2 fun x H3 => te σ H3 fun y H4 => tip x y H4 fun z H5 => tset o i z H5 fun H6 => D.nx σ H6
/-- o[i], by values -/
def PGet (X : Cx) (t : V → V → Hp → VK → Prop) : Prop :=
  ∀ (pins : List (Addr × Obj)) (s : Shared) (σ : St) (H : Hp) (o i : V) (ov iv : Value) (Q : VK), Inv X pins σ H s → RelV o ov → RelV i iv → t o i H Q →
    wpAny (model X.prog X.w) X.A (getItem ov iv) (EP X pins σ Q) X.xe s
theorem ps_augS {o i e : Expr} {to ti te : TE} {tget : V → V → Hp → VK → Prop} {tip : TIp} {tset : TSet} {op : Operator} {tpos : Pos} (ho : PE X o to) (hi : PE X i ti) (hg : PGet X tget) (he : PE X e te) (hp : PIp X op tip) (hs : PSet X tset)
    (ha : ∀ ov iv new, augStore i ov iv new = (do holding [new, ov, iv] (setItem ov iv new); release [new, ov, iv] []; pure .next) := by intros; rfl) : PS X (.AugAssign (.Subscript o i tpos) op e pos) (tAugS to ti te tget tip tset) := by
  intro pins s σ H D I h
  refine wpAny_AugAssign_SubscriptAny (thn (ho pins s σ H _ I h) fun ov s1 ⟨x1, H1, I1, r1, q1⟩ => ?_) ha
  refine thn (hi pins s1 σ H1 _ I1 q1) fun iv s2 ⟨x2, H2, I2, r2, q2⟩ => ?_
  refine thn (hg pins s2 σ H2 x1 x2 ov iv _ I2 r1 r2 q2) fun old s3 ⟨x3, H3, I3, r3, q3⟩ => ?_
  refine thn (he pins s3 σ H3 _ I3 q3) fun v s4 ⟨x4, H4, I4, r4, q4⟩ => ?_
  refine thn (hp pins s4 σ H4 x3 x4 old v _ I4 r3 r4 q4) fun new s5 ⟨x5, H5, I5, r5, q5⟩ => ?_
  exact thn (hs pins s5 σ H5 x1 x2 x5 ov iv new _ I5 r1 r2 r5 q5) fun _ s6 ⟨H6, I6, q6⟩ => ⟨σ, H6, I6, q6⟩
/-- ints -/
def ipI (f : Int → Int → Int) : TIp := fun x y H Q => ∃ i j, x = .int i ∧ y = .int j ∧ Q (.int (f i j)) H
theorem ip_add : PIp X .Add (ipI fun i j => i + j) := by
  intro pins s σ H x y v u Q I r1 r2 h
  obtain ⟨i, j, e1, e2, q⟩ := h
  subst e1; subst e2
  obtain ⟨t, rfl⟩ := r1
  obtain ⟨t', rfl⟩ := r2
  exact iadd_int ⟨.int _, H, I.tok _, ⟨_, rfl⟩, q⟩
theorem ip_sub : PIp X .Sub (ipI fun i j => i - j) := by
  intro pins s σ H x y v u Q I r1 r2 h
  obtain ⟨i, j, e1, e2, q⟩ := h
  subst e1; subst e2
  obtain ⟨t, rfl⟩ := r1
  obtain ⟨t', rfl⟩ := r2
  exact isub_int ⟨.int _, H, I.tok _, ⟨_, rfl⟩, q⟩
end

/-! ### while -/
section
variable {X : Cx} {pos : Pos}
/-- the invariant W with its measure -/
def tWhile (c : TT) (tb : TS) : TS := fun D σ H => ∃ W : Nat → St → Hp → Prop, (∃ m, W m σ H) ∧ ∀ m σ H, W m σ H →
  c σ H fun b H1 => if b = true then ∃ N : St → Hp → Prop, (∀ σ' H', N σ' H' → ∃ m', m' < m ∧ W m' σ' H') ∧ tb { D with nx := N, ct := N, bk := D.nx } σ H1 else D.nx σ H1
theorem ps_while {c : Expr} {body : List Stmt} {tc : TT} {tb : TS} (hp : PassesOwn (model X.prog X.w) X.A X.env X.xe) (hc : PT X c tc) (hb : PSs X body tb) : PS X (.While c body [] pos) (tWhile tc tb) := by
  intro pins s σ H D I h
  obtain ⟨W, ⟨m0, w0⟩, turn⟩ := h
  refine wpAny_While (codeAny_whileLoop (fun n s' => ∃ σ' H', Inv X pins σ' H' s' ∧ W n σ' H') ?_ m0 ⟨σ, H, I, w0⟩)
  rintro n s1 ⟨σ1, H1, I1, w1⟩
  refine wpAny_passesOwn hp (thn (hc pins s1 σ1 H1 _ I1 (turn n σ1 H1 w1)) fun b s2 ⟨H2, I2, q2⟩ => ?_)
  cases b with
  | true =>
    obtain ⟨N, hN, q2⟩ := q2
    rw [if_pos rfl]
    refine wpAny_passesOwn hp (thn (hb pins s2 σ1 H2 _ I2 q2) fun f s3 q3 => ?_)
    cases f with
    | next =>
      obtain ⟨σ3, H3, I3, n3⟩ := q3
      obtain ⟨m', hm, w3⟩ := hN σ3 H3 n3
      exact ⟨m', hm, σ3, H3, I3, w3⟩
    | cont =>
      obtain ⟨σ3, H3, I3, n3⟩ := q3
      obtain ⟨m', hm, w3⟩ := hN σ3 H3 n3
      exact ⟨m', hm, σ3, H3, I3, w3⟩
    | brk => exact q3
    | ret v => exact q3
  | false =>
    rw [if_neg Bool.false_ne_true]
    exact wpAny_execs_nil ⟨σ1, H2, I2, q2⟩
end

/-! ### what a loop or a comprehension walks -/
/-- at turn i: it yields x (the heap may grow), or it stops -/
structure It where
  go : Nat → Hp → Prop
  yld : Nat → Hp → V → Hp → Prop
  stop : Nat → Hp → Prop
/-- the iterator's own objects may turn: they are not the frame's, not pinned, younger than the entry (or a comprehension's own) -/
def FpOk (X : Cx) (pins : List (Addr × Obj)) (H : Hp) (b : Addr) : Prop :=
  H b = none ∧ b ≠ X.env.locals ∧ b ∉ X.fs ∧ (b ∈ X.ex ∨ X.s₀.heap.objs.size ≤ b) ∧ (∀ x c, X.env.cells.lookup x = some c → c ≠ b) ∧ ∀ p ∈ X.pn ++ pins, p.1 ≠ b
theorem Inv.fpOk {X : Cx} {pins : List (Addr × Obj)} {σ : St} {H H' : Hp} {s : Shared} {b : Addr} (I : Inv X pins σ H s) (hb : s.heap.objs.size ≤ b) (hn : H' b = none) : FpOk X pins H' b := by
  refine ⟨hn, Nat.ne_of_gt (Nat.lt_of_lt_of_le I.lt hb), I.nofs hb, .inr (Nat.le_trans I.sz hb), fun x c e z => ?_, fun p hp z => ?_⟩
  · obtain ⟨v, q⟩ := I.cell x c e
    exact absurd (Nat.lt_of_lt_of_le q.lt (by rw [z]; exact hb)) (Nat.lt_irrefl _)
  · exact absurd (Nat.lt_of_lt_of_le (Heap.lt_size (I.pin p hp).1) (by rw [z]; exact hb)) (Nat.lt_irrefl _)
structure Turn (P : Program) (w : World) (K : PySem.W.Frag) (tg : Expr) (J : It) (fp : List Addr) (it : Addr) (tn : Nat → Heap → Prop) : Prop where
  mem : it ∈ fp
  obj : ∀ i h, tn i h → ∀ b ∈ fp, ∃ o, h.get? b = some o ∧ ∀ v, o.data ≠ .cell v
  keep : ∀ i h h', tn i h → (∀ b ∈ fp, ∀ o, h.get? b = some o → h'.get? b = some o) → tn i h'
  item : ∀ (X : Cx), X.prog = P → X.w = w → X.K = K → X.calm = true → ∀ (i : Nat) (pins : List (Addr × Obj)) (s : Shared) (σ : St) (H : Hp) (E : Value → Shared → Prop), Inv X pins σ H s → (∀ b ∈ fp, FpOk X pins H b) → tn i s.heap → J.go i H →
    wpAny (model P w) X.A (pyNext (.ref it)) (fun r s1 => ∃ u, r = some u ∧
      wpAny (model P w) X.A (letOwnedTupleGo tg (.ref it) u) (fun _ s2 => ∃ x H', Inv X pins σ H' s2 ∧ RelV x u ∧ J.yld i H x H' ∧ tn (i + 1) s2.heap ∧ ∀ b ∈ fp, H' b = none) E s1) E s
  done : ∀ (X : Cx), X.prog = P → X.w = w → X.K = K → X.calm = true → ∀ (i : Nat) (pins : List (Addr × Obj)) (s : Shared) (σ : St) (H : Hp) (E : Value → Shared → Prop), Inv X pins σ H s → (∀ b ∈ fp, FpOk X pins H b) → tn i s.heap → J.stop i H →
    wpAny (model P w) X.A (pyNext (.ref it)) (fun r s1 => r = none ∧ Inv X pins σ H s1) E s
  self : ∀ (A : Around) (i : Nat) (s : Shared) (Q : Value → Shared → Prop) (E : Value → Shared → Prop), tn i s.heap → Q (.ref it) s → wpAny (model P w) A (pyIter (.ref it)) Q E s
abbrev TI := St → Hp → (It → Hp → Prop) → Prop
/-- an iterator has come -/
def PIE (X : Cx) (pins : List (Addr × Obj)) (σ : St) (tg : Expr) (R : It → Hp → Prop) (itv : Value) (s2 : Shared) : Prop :=
  ∃ (it : Addr) (fp : List Addr) (tn : Nat → Heap → Prop) (J : It) (H' : Hp), itv = .ref it ∧ Inv X pins σ H' s2 ∧ Turn X.prog X.w X.K tg J fp it tn ∧ tn 0 s2.heap ∧ (∀ b ∈ fp, FpOk X pins H' b) ∧ R J H'
def PI (X : Cx) (tg iter : Expr) (wi : TI) : Prop :=
  ∀ (pins : List (Addr × Obj)) (s : Shared) (σ : St) (H : Hp) (R : It → Hp → Prop), Inv X pins σ H s → wi σ H R →
    wpAny (model X.prog X.w) X.A (eval iter X.env) (fun v s1 => wpAny (model X.prog X.w) X.A (pyIter v) (PIE X pins σ tg R) X.xe s1) X.xe s

/-- the step ahead of the store is nothing for an iterator that keeps no tuple -/
theorem go_of {M : Model} {A : Around} {E : Value → Shared → Prop} {s : Shared} {tg : Expr} {it : Addr} {u : Value} {o : Obj} {n : String} {vs : Array Value} {Q : Unit → Shared → Prop} (ho : s.heap.get? it = some o) (hc : o.cls = .type n) (hd : o.data = .fields vs)
    (hn : ["enumerate", "zip", "dict_itemiterator", "dict_reverseitemiterator", "odict_iterator", "itertools.zip_longest", "itertools.pairwise"].contains n = false) (hQ : Q () s) : wpAny M A (letOwnedTupleGo tg (.ref it) u) Q E s := by
  unfold letOwnedTupleGo
  cases tg <;> first
    | exact wpAny_pure hQ
    | (cases u <;> first
        | exact wpAny_pure hQ
        | (refine wpAny_bind (wpAny_load ho ?_)
           rw [hc, hd]
           show wpAny M A (if (["enumerate", "zip", "dict_itemiterator", "dict_reverseitemiterator", "odict_iterator", "itertools.zip_longest", "itertools.pairwise"].contains n && vs[0]? == some (rawInt _)) = true then _ else _) Q E s
           rw [if_neg (by intro h; rw [hn, Bool.false_and] at h; cases h)]
           exact wpAny_pure hQ))

/-- the list at a, as it stands at each turn (a loop may append to it) -/
def Itl (K : PySem.W.Frag) (a : Addr) : It :=
  ⟨fun i H => ∃ xs x, SqL K H a xs ∧ xs[i]? = some x, fun i H x H' => H' = H ∧ ∀ xs, SqL K H a xs → xs[i]? = some x, fun i H => ∃ xs, SqL K H a xs ∧ xs.length ≤ i⟩
def Itt (K : PySem.W.Frag) (a : Addr) : It :=
  ⟨fun i H => ∃ xs x, SqT K H a xs ∧ xs[i]? = some x, fun i H x H' => H' = H ∧ ∀ xs, SqT K H a xs → xs[i]? = some x, fun i H => ∃ xs, SqT K H a xs ∧ xs.length ≤ i⟩
/-- lo, lo + 1, .. (n of them) -/
def Itr (lo : Int) (n : Nat) : It := ⟨fun i _ => i < n, fun i H x H' => H' = H ∧ x = .int (lo + i), fun i _ => n ≤ i⟩
theorem turn_list {P : Program} {w : World} {K : PySem.W.Frag} {tg : Expr} (a it : Addr) : Turn P w K tg (Itl K a) [it] it (fun i h => h.IsListIter it a i) where
  mem := by simp
  obj := fun i h st b hb => by
    have e : b = it := by simpa using hb
    subst e
    obtain ⟨o, e, c, d⟩ := st
    exact ⟨o, e, fun v z => by rw [d] at z; cases z⟩
  keep := fun i h h' st k => st.at fun o e => k it (by simp) o e
  item := by
    intro X hP hw hK hc i pins s σ H E I hf st hg
    subst hP hw hK
    obtain ⟨xs, x, hq, hx⟩ := hg
    obtain ⟨its, rv, p, hz⟩ := I.list hq
    obtain ⟨u, hu, ru⟩ := rv.get hx
    obtain ⟨f0, f1, f2, f3, f4, f5⟩ := hf it (by simp)
    refine wpAny_pyNext_list_item st p.isList (x := u) (by simpa using hu) fun h' st' sb => ?_
    have I1 : Inv X pins σ H { s with heap := h' } := I.turned (t' := s.toks) (fun b o hb e => (sb.2 b hb).trans e) f0 f1 f3 f4 f5
    obtain ⟨o, e, c, d⟩ := id st'
    exact ⟨u, rfl, go_of (s := { s with heap := h' }) e c d (by decide) ⟨x, H, I1, ru, ⟨rfl, fun ys hy => by rw [I.list_inj hy hq]; exact hx⟩, st', fun b hb => (hf b hb).1⟩⟩
  done := by
    intro X hP hw hK hc i pins s σ H E I hf st hg
    subst hP hw hK
    obtain ⟨xs, hq, hx⟩ := hg
    obtain ⟨its, rv, p, hz⟩ := I.list hq
    obtain ⟨f0, f1, f2, f3, f4, f5⟩ := hf it (by simp)
    have hl := rv.length
    exact wpAny_pyNext_list_end (I.ok.hd hc) st p.isList (by simp; omega) fun h' eb => ⟨rfl, I.turned (t' := s.toks) (fun b o hb e => eb b o hb e) f0 f1 f3 f4 f5⟩
  self := fun _ _ _ _ _ st h => wpAny_pyIter_listiter st h
theorem turn_tuple {P : Program} {w : World} {K : PySem.W.Frag} {tg : Expr} (a it : Addr) : Turn P w K tg (Itt K a) [it] it (fun i h => h.IsTupleIter it a i) where
  mem := by simp
  obj := fun i h st b hb => by
    have e : b = it := by simpa using hb
    subst e
    obtain ⟨o, e, c, d⟩ := st
    exact ⟨o, e, fun v z => by rw [d] at z; cases z⟩
  keep := fun i h h' st k => st.at fun o e => k it (by simp) o e
  item := by
    intro X hP hw hK hc i pins s σ H E I hf st hg
    subst hP hw hK
    obtain ⟨xs, x, hq, hx⟩ := hg
    obtain ⟨its, rv, p, hz⟩ := I.tuple hq
    obtain ⟨u, hu, ru⟩ := rv.get hx
    obtain ⟨f0, f1, f2, f3, f4, f5⟩ := hf it (by simp)
    refine wpAny_pyNext_tuple_item st (show s.heap.IsTuple a its.toArray from p) (x := u) (by simpa using hu) fun h' st' sb => ?_
    have I1 : Inv X pins σ H { s with heap := h' } := I.turned (t' := s.toks) (fun b o hb e => (sb.2 b hb).trans e) f0 f1 f3 f4 f5
    obtain ⟨o, e, c, d⟩ := id st'
    exact ⟨u, rfl, go_of (s := { s with heap := h' }) e c d (by decide) ⟨x, H, I1, ru, ⟨rfl, fun ys hy => by rw [I.tuple_inj hy hq]; exact hx⟩, st', fun b hb => (hf b hb).1⟩⟩
  done := by
    intro X hP hw hK hc i pins s σ H E I hf st hg
    subst hP hw hK
    obtain ⟨xs, hq, hx⟩ := hg
    obtain ⟨its, rv, p, hz⟩ := I.tuple hq
    obtain ⟨f0, f1, f2, f3, f4, f5⟩ := hf it (by simp)
    have hl := rv.length
    exact wpAny_pyNext_tuple_end (I.ok.hd hc) st (show s.heap.IsTuple a its.toArray from p) (by simp; omega) fun h' eb => ⟨rfl, I.turned (t' := s.toks) (fun b o hb e => eb b o hb e) f0 f1 f3 f4 f5⟩
  self := fun _ _ _ _ _ st h => wpAny_pyIter_tupleiter st h
theorem turn_range {P : Program} {w : World} {K : PySem.W.Frag} {tg : Expr} (it : Addr) (lo : Int) (n : Nat) : Turn P w K tg (Itr lo n) [it] it (fun i h => IsRangeIter h it (lo + (i : Nat) * 1) ((n : Int) - (i : Nat)) 1) where
  mem := by simp
  obj := fun i h st b hb => by
    have e : b = it := by simpa using hb
    subst e
    exact ⟨_, st, fun v z => by
      have z' : Data.fields _ = Data.cell v := z
      cases z'⟩
  keep := fun i h h' st k => k it (by simp) _ st
  item := by
    intro X hP hw hK hc i pins s σ H E I hf st hg
    subst hP hw hK
    obtain ⟨f0, f1, f2, f3, f4, f5⟩ := hf it (by simp)
    have W := Walks.range (prog := X.prog) (w := X.w) (I.ok.hd hc) it lo 1 n
    refine W.item i s _ _ hg st fun v h' tk hv st' kk => ?_
    obtain ⟨t, rfl⟩ := hv
    have I1 : Inv X pins σ H { s with heap := h', toks := tk } := I.turned (fun b o hb e => kk b o (by simpa using hb) e) f0 f1 f3 f4 f5
    refine ⟨_, rfl, go_of (s := { s with heap := h', toks := tk }) (n := "range_iterator") st' rfl rfl (by decide) ⟨.int (lo + i), H, I1, ⟨t, ?_⟩, ⟨rfl, rfl⟩, st', fun b hb => (hf b hb).1⟩⟩
    rw [Int.mul_one]
  done := by
    intro X hP hw hK hc i pins s σ H E I hf st hg
    subst hP hw hK
    obtain ⟨f0, f1, f2, f3, f4, f5⟩ := hf it (by simp)
    exact wpAny_pyNext_range_end (I.ok.hd hc) st (by have : n ≤ i := hg; omega) fun h' eb => ⟨rfl, I.turned (t' := s.toks) (fun b o hb e => eb b o hb e) f0 f1 f3 f4 f5⟩
  self := fun _ _ _ _ _ st h => wpAny_pyIter_rangeiter st h
end L2

namespace L2
open PySem PySem.Spec PyProof.Rows
section
variable {X : Cx} {tg : Expr}
def iList (K : PySem.W.Frag) (tl : TE) : TI := fun σ H R => tl σ H fun x H1 => ∃ a, x = .ref a ∧ (∃ xs, SqL K H1 a xs) ∧ R (Itl K a) H1
def iTup (K : PySem.W.Frag) (tl : TE) : TI := fun σ H R => tl σ H fun x H1 => ∃ a, x = .ref a ∧ (∃ xs, SqT K H1 a xs) ∧ R (Itt K a) H1
theorem pi_list {l : Expr} {tl : TE} (hl : PE X l tl) : PI X tg l (iList X.K tl) := by
  intro pins s σ H R I h
  refine thn (hl pins s σ H _ I h) fun v s1 ⟨x, H1, I1, r1, q1⟩ => ?_
  obtain ⟨a, e, ⟨xs, hq⟩, q⟩ := q1
  subst e
  cases r1
  obtain ⟨its, rv, p, hz⟩ := I1.list hq
  refine wpAny_pyIter_list p.isList ?_
  refine ⟨s1.heap.objs.size, [s1.heap.objs.size], _, _, H1, rfl, I1.kept (t' := s1.toks) fun b o e => Heap.get?_push_of_some _ e, turn_list a _, ⟨_, Heap.get?_push_size _ rfl, rfl, rfl⟩, fun b hb => ?_, q⟩
  have e : b = s1.heap.objs.size := by simpa using hb
  subst e
  exact I1.fpOk (Nat.le_refl _) (I1.hok.fresh (Nat.le_refl _))
theorem pi_tup {l : Expr} {tl : TE} (hl : PE X l tl) : PI X tg l (iTup X.K tl) := by
  intro pins s σ H R I h
  refine thn (hl pins s σ H _ I h) fun v s1 ⟨x, H1, I1, r1, q1⟩ => ?_
  obtain ⟨a, e, ⟨xs, hq⟩, q⟩ := q1
  subst e
  cases r1
  obtain ⟨its, rv, p, hz⟩ := I1.tuple hq
  refine wpAny_pyIter_tuple (show s1.heap.IsTuple a its.toArray from p) ?_
  refine ⟨s1.heap.objs.size, [s1.heap.objs.size], _, _, H1, rfl, I1.kept (t' := s1.toks) fun b o e => Heap.get?_push_of_some _ e, turn_tuple a _, ⟨_, Heap.get?_push_size _ rfl, rfl, rfl⟩, fun b hb => ?_, q⟩
  have e : b = s1.heap.objs.size := by simpa using hb
  subst e
  exact I1.fpOk (Nat.le_refl _) (I1.hok.fresh (Nat.le_refl _))
/-- a range object just made, walked -/
theorem range_it {pins : List (Addr × Obj)} {σ : St} {H : Hp} {s : Shared} {R : It → Hp → Prop} {E : Value → Shared → Prop} {lo hi : Int} {t u v : Tok} {tk : Nat} (I : Inv X pins σ H s) (h1 : -(2 ^ 62) ≤ lo) (h2 : lo < 2 ^ 62) (h3 : -(2 ^ 62) ≤ hi) (h4 : hi < 2 ^ 62)
    (q : R (Itr lo (hi - lo).toNat) H) : wpAny (model X.prog X.w) X.A (pyIter (.ref s.heap.objs.size)) (PIE X pins σ tg R) E { s with heap := s.heap.push { cls := .type "range", data := .fields #[.int lo t, .int hi u, .int 1 v] }, toks := tk } := by
  refine wpAny_pyIter_range (IsRange.new ..) (small_one h1 h2 h3 h4) ?_
  have I1 : Inv X pins σ H { s with heap := s.heap.push { cls := .type "range", data := .fields #[.int lo t, .int hi u, .int 1 v] }, toks := tk } := I.kept fun b o e => Heap.get?_push_of_some _ e
  refine ⟨(s.heap.push { cls := .type "range", data := .fields #[.int lo t, .int hi u, .int 1 v] }).objs.size, [(s.heap.push { cls := .type "range", data := .fields #[.int lo t, .int hi u, .int 1 v] }).objs.size], _, _, H, rfl,
    I1.kept (t' := tk) fun b o e => Heap.get?_push_of_some _ e, turn_range _ lo (hi - lo).toNat, ?_, fun b hb => ?_, q⟩
  · have e1 : lo + ((0 : Nat) : Int) * 1 = lo := by simp
    have e2 : (((hi - lo).toNat : Nat) : Int) - ((0 : Nat) : Int) = Builtin.Range.rangeSize lo hi 1 := by rw [rangeSize_one]; split <;> omega
    show IsRangeIter _ _ (lo + ((0 : Nat) : Int) * 1) ((((hi - lo).toNat : Nat) : Int) - ((0 : Nat) : Int)) 1
    rw [e1, e2]
    exact Heap.get?_push_size _ rfl
  · have e : b = (s.heap.push { cls := .type "range", data := .fields #[.int lo t, .int hi u, .int 1 v] }).objs.size := by simpa using hb
    subst e
    exact I1.fpOk (Nat.le_refl _) (I1.hok.fresh (Nat.le_refl _))
def iRng1 (ta : TA) : TI := fun σ H R => ta σ H fun vs H1 => ∃ j : Int, vs = [.int j] ∧ -(2 ^ 62) ≤ j ∧ j < 2 ^ 62 ∧ R (Itr 0 j.toNat) H1
def iRng2 (ta : TA) : TI := fun σ H R => ta σ H fun vs H1 => ∃ i j : Int, vs = [.int i, .int j] ∧ (-(2 ^ 62) ≤ i ∧ i < 2 ^ 62 ∧ -(2 ^ 62) ≤ j ∧ j < 2 ^ 62) ∧ R (Itr i (j - i).toNat) H1
theorem pi_range1 {a : Expr} {ta : TA} {p pos : Pos} (hg : Gl X "range") (hm : X.mg "range" = none) (ha : PA X [a] ta) (hs : starEach [a] X.env = [(false, eval a X.env)] := by rfl) : PI X tg (.Call (.Name "range" p) [a] [] pos) (iRng1 ta) := by
  intro pins s σ H R I h
  refine Call_ (ld_blt I hg hm boot_range (PyProof.Rows.callWith_type1 (thn (ha pos pins s σ H _ I h) fun us s1 ⟨vs, H1, I1, r1, q1⟩ => ?_) hs rfl))
  obtain ⟨j, e, q1, q2, q⟩ := q1
  subst e
  cases r1 with
  | cons r rr =>
    cases rr
    obtain ⟨t, rfl⟩ := r
    exact call_range_1 (range_it I1 (by omega) (by omega) q1 q2 (by simpa using q))
theorem pi_range2 {a b : Expr} {ta : TA} {p pos : Pos} (hg : Gl X "range") (hm : X.mg "range" = none) (ha : PA X [a, b] ta) (hs : starEach [a, b] X.env = [(false, eval a X.env), (false, eval b X.env)] := by rfl) (hs2 : starEach [b] X.env = [(false, eval b X.env)] := by rfl) :
    PI X tg (.Call (.Name "range" p) [a, b] [] pos) (iRng2 ta) := by
  intro pins s σ H R I h
  refine Call_ (ld_blt I hg hm boot_range (PyProof.Rows.callWith_type1 (thn (ha pos pins s σ H _ I h) fun us s1 ⟨vs, H1, I1, r1, q1⟩ => ?_) (by rw [hs, hs2]) (by rw [hs2]; rfl)))
  obtain ⟨i, j, e, ⟨q1, q2, q3, q4⟩, q⟩ := q1
  subst e
  cases r1 with
  | cons r rr =>
    cases rr with
    | cons r' rr =>
      cases rr
      obtain ⟨t, rfl⟩ := r
      obtain ⟨t', rfl⟩ := r'
      exact call_range_2 (range_it I1 q1 q2 q3 q4 q)

/-! ### for -/
/-- W: the invariant by the turn and a measure; N: what the body is to reach -/
def tFor (wi : TI) (g : TG) (tb : TS) : TS := fun D σ H => wi σ H fun J H1 => ∃ W : Nat → Nat → St → Hp → Prop, (∃ m, W 0 m σ H1) ∧ ∀ i m σ H, W i m σ H →
  (J.stop i H ∧ D.nx σ H) ∨ (J.go i H ∧ ∃ N : St → Hp → Prop, (∀ σ' H', N σ' H' → ∃ m', m' < m ∧ W (i + 1) m' σ' H') ∧ ∀ x H', J.yld i H x H' → g x σ H' fun σ2 H2 => tb { D with nx := N, ct := N, bk := D.nx } σ2 H2)
/-- the records at fp as they stand -/
def pinsAt (fp : List Addr) (h : Heap) : List (Addr × Obj) := fp.filterMap fun b => (h.get? b).map fun o => (b, o)
theorem mem_pinsAt {fp : List Addr} {h : Heap} {b : Addr} {o : Obj} (hb : b ∈ fp) (e : h.get? b = some o) : (b, o) ∈ pinsAt fp h := List.mem_filterMap.mpr ⟨b, hb, by rw [e]; rfl⟩
theorem of_pinsAt {fp : List Addr} {h : Heap} {p : Addr × Obj} (hp : p ∈ pinsAt fp h) : p.1 ∈ fp ∧ h.get? p.1 = some p.2 := by
  obtain ⟨b, hb, e⟩ := List.mem_filterMap.mp hp
  cases q : h.get? b with
  | none => rw [q] at e; cases e
  | some o =>
    rw [q] at e
    have e' : (b, o) = p := Option.some.inj e
    subst e'
    exact ⟨hb, q⟩
theorem Inv.pinned {pins : List (Addr × Obj)} {σ : St} {H : Hp} {s : Shared} {fp : List Addr} (I : Inv X pins σ H s) (hf : ∀ b ∈ fp, FpOk X pins H b) (ho : ∀ b ∈ fp, ∃ o, s.heap.get? b = some o ∧ ∀ v, o.data ≠ .cell v) : Inv X (pins ++ pinsAt fp s.heap) σ H s :=
  I.pins_of fun p hp => (List.mem_append.mp hp).elim (fun z => I.pin p (List.mem_append_right _ z)) fun z => by
    obtain ⟨hb, e⟩ := of_pinsAt z
    obtain ⟨f0, f1, f2, _⟩ := hf p.1 hb
    obtain ⟨o, e', d⟩ := ho p.1 hb
    rw [e] at e'; cases e'
    exact ⟨e, f0, f1, f2, d⟩
theorem Inv.unpinned {pins pl : List (Addr × Obj)} {σ : St} {H : Hp} {s : Shared} (I : Inv X (pins ++ pl) σ H s) : Inv X pins σ H s := I.pins_of fun p hp => I.pin p (List.mem_append_right _ (List.mem_append_left _ hp))
theorem ps_for {iter : Expr} {body : List Stmt} {wi : TI} {g : TG} {tb : TS} {pos : Pos} (hp : PassesOwn (model X.prog X.w) X.A X.env X.xe) (hc : X.calm = true) (hi : PI X tg iter wi) (hg : PG X tg g) (hb : PSs X body tb)
    (hs : ∀ x, foldedSetIterable iter X.env x = pure x := by intro _; rfl) : PS X (.For tg iter body [] pos) (tFor wi g tb) := by
  intro pins s σ H D I h
  refine wpAny_For (thn (hi pins s σ H _ I h) fun v s1 h1 => thn h1 fun itv s2 h2 => ?_) hs
  obtain ⟨it, fp, tn, J, H2, e, I2, T, st2, f2, W, ⟨m0, w0⟩, turn⟩ := h2
  subst e
  -- what stays true of the iterator's objects through the loop
  have stat : ∀ {H' : Hp}, (∀ b ∈ fp, H' b = none) → ∀ b ∈ fp, FpOk X pins H' b := fun hn b hb => ⟨hn b hb, (f2 b hb).2⟩
  refine codeAny_forLoop_any (fun n s' => ∃ i σ' H', Inv X pins σ' H' s' ∧ tn i s'.heap ∧ (∀ b ∈ fp, H' b = none) ∧ W i n σ' H') ?_ m0 ⟨0, σ, H2, I2, st2, fun b hb => (f2 b hb).1, w0⟩
  rintro n s3 ⟨i, σ3, H3, I3, st3, fr3, w3⟩
  rcases turn i n σ3 H3 w3 with ⟨stop, qn⟩ | ⟨go, N, hN, step⟩
  · refine wpAny_passesOwn hp (thn (T.done X rfl rfl rfl hc i pins s3 σ3 H3 X.xe I3 (stat fr3) st3 stop) fun r s4 ⟨hr, I4⟩ => ?_)
    subst hr
    exact wpAny_execs_nil ⟨σ3, H3, I4, qn⟩
  · refine wpAny_passesOwn hp (thn (T.item X rfl rfl rfl hc i pins s3 σ3 H3 X.xe I3 (stat fr3) st3 go) fun r s4 ⟨u, hr, h4⟩ => ?_)
    subst hr
    refine wpAny_passesOwn hp (thn h4 fun _ s5 ⟨x, H5, I5, r5, y5, st5, fr5⟩ => ?_)
    have I5' := I5.pinned (stat fr5) (T.obj _ _ st5)
    refine wpAny_passesOwn hp (thn (hg _ s5 σ3 H5 x u _ I5' r5 (step x H5 y5)) fun _ s6 ⟨σ6, H6, I6, q6⟩ => ?_)
    refine wpAny_passesOwn hp (thn (hb _ s6 σ6 H6 _ I6 q6) fun f s7 q7 => ?_)
    have again : ∀ {σ7 : St} {H7 : Hp}, Inv X (pins ++ pinsAt fp s5.heap) σ7 H7 s7 → N σ7 H7 → ∃ m, m < n ∧ ∃ i σ' H', Inv X pins σ' H' s7 ∧ tn i s7.heap ∧ (∀ b ∈ fp, H' b = none) ∧ W i m σ' H' := fun {σ7 H7} I7 n7 => by
      obtain ⟨m', hm, w7⟩ := hN σ7 H7 n7
      refine ⟨m', hm, i + 1, σ7, H7, I7.unpinned, T.keep _ _ _ st5 fun b hb o e => (I7.pin (b, o) (List.mem_append_right _ (List.mem_append_right _ (mem_pinsAt hb e)))).1, fun b hb => ?_, w7⟩
      obtain ⟨o, e, d⟩ := T.obj _ _ st5 b hb
      exact (I7.pin (b, o) (List.mem_append_right _ (List.mem_append_right _ (mem_pinsAt hb e)))).2.1
    cases f with
    | next => obtain ⟨σ7, H7, I7, n7⟩ := q7; exact again I7 n7
    | cont => obtain ⟨σ7, H7, I7, n7⟩ := q7; exact again I7 n7
    | brk => obtain ⟨σ7, H7, I7, q7⟩ := q7; exact ⟨σ7, H7, I7.unpinned, q7⟩
    | ret v => obtain ⟨x7, σ7, H7, I7, r7, q7⟩ := q7; exact ⟨x7, σ7, H7, I7.unpinned, r7, q7⟩
end

/-! ### the forms one uses -/
/-- over a list that the body leaves as it is -/
theorem for_list {K : PySem.W.Frag} {a : Addr} {xs : List V} {g : TG} {tb : TS} {D : Ends} {σ : St} {H : Hp} (Pv : Nat → St → Hp → Prop) (h0 : Pv 0 σ H) (hl : ∀ i σ H, i ≤ xs.length → Pv i σ H → SqL K H a xs)
    (hs : ∀ i x σ H, xs[i]? = some x → Pv i σ H → g x σ H fun σ2 H2 => tb { D with nx := Pv (i + 1), ct := Pv (i + 1), bk := D.nx } σ2 H2) (hd : ∀ σ H, Pv xs.length σ H → D.nx σ H) :
    ∃ W : Nat → Nat → St → Hp → Prop, (∃ m, W 0 m σ H) ∧ ∀ i m σ H, W i m σ H →
      ((Itl K a).stop i H ∧ D.nx σ H) ∨ ((Itl K a).go i H ∧ ∃ N : St → Hp → Prop, (∀ σ' H', N σ' H' → ∃ m', m' < m ∧ W (i + 1) m' σ' H') ∧ ∀ x H', (Itl K a).yld i H x H' → g x σ H' fun σ2 H2 => tb { D with nx := N, ct := N, bk := D.nx } σ2 H2) := by
  refine ⟨fun i m σ H => m = xs.length - i ∧ i ≤ xs.length ∧ Pv i σ H, ⟨xs.length, by simp, Nat.zero_le _, h0⟩, ?_⟩
  rintro i m σ H ⟨rfl, hi, p⟩
  have q := hl i σ H hi p
  by_cases hlt : i < xs.length
  · refine .inr ⟨⟨xs, xs[i], q, by simp [hlt]⟩, Pv (i + 1), fun σ' H' p' => ⟨xs.length - (i + 1), by omega, rfl, hlt, p'⟩, fun x H' y => ?_⟩
    obtain ⟨e, y⟩ := y
    subst e
    exact hs i x σ _ (y xs q) p
  · have e : i = xs.length := by omega
    subst e
    exact .inl ⟨⟨xs, q, Nat.le_refl _⟩, hd σ H p⟩
theorem for_tup {K : PySem.W.Frag} {a : Addr} {xs : List V} {g : TG} {tb : TS} {D : Ends} {σ : St} {H : Hp} (Pv : Nat → St → Hp → Prop) (h0 : Pv 0 σ H) (hl : ∀ i σ H, i ≤ xs.length → Pv i σ H → SqT K H a xs)
    (hs : ∀ i x σ H, xs[i]? = some x → Pv i σ H → g x σ H fun σ2 H2 => tb { D with nx := Pv (i + 1), ct := Pv (i + 1), bk := D.nx } σ2 H2) (hd : ∀ σ H, Pv xs.length σ H → D.nx σ H) :
    ∃ W : Nat → Nat → St → Hp → Prop, (∃ m, W 0 m σ H) ∧ ∀ i m σ H, W i m σ H →
      ((Itt K a).stop i H ∧ D.nx σ H) ∨ ((Itt K a).go i H ∧ ∃ N : St → Hp → Prop, (∀ σ' H', N σ' H' → ∃ m', m' < m ∧ W (i + 1) m' σ' H') ∧ ∀ x H', (Itt K a).yld i H x H' → g x σ H' fun σ2 H2 => tb { D with nx := N, ct := N, bk := D.nx } σ2 H2) := by
  refine ⟨fun i m σ H => m = xs.length - i ∧ i ≤ xs.length ∧ Pv i σ H, ⟨xs.length, by simp, Nat.zero_le _, h0⟩, ?_⟩
  rintro i m σ H ⟨rfl, hi, p⟩
  have q := hl i σ H hi p
  by_cases hlt : i < xs.length
  · refine .inr ⟨⟨xs, xs[i], q, by simp [hlt]⟩, Pv (i + 1), fun σ' H' p' => ⟨xs.length - (i + 1), by omega, rfl, hlt, p'⟩, fun x H' y => ?_⟩
    obtain ⟨e, y⟩ := y
    subst e
    exact hs i x σ _ (y xs q) p
  · have e : i = xs.length := by omega
    subst e
    exact .inl ⟨⟨xs, q, Nat.le_refl _⟩, hd σ H p⟩
theorem for_range {lo : Int} {n : Nat} {g : TG} {tb : TS} {D : Ends} {σ : St} {H : Hp} (Pv : Nat → St → Hp → Prop) (h0 : Pv 0 σ H)
    (hs : ∀ i σ H, i < n → Pv i σ H → g (.int (lo + i)) σ H fun σ2 H2 => tb { D with nx := Pv (i + 1), ct := Pv (i + 1), bk := D.nx } σ2 H2) (hd : ∀ σ H, Pv n σ H → D.nx σ H) :
    ∃ W : Nat → Nat → St → Hp → Prop, (∃ m, W 0 m σ H) ∧ ∀ i m σ H, W i m σ H →
      ((Itr lo n).stop i H ∧ D.nx σ H) ∨ ((Itr lo n).go i H ∧ ∃ N : St → Hp → Prop, (∀ σ' H', N σ' H' → ∃ m', m' < m ∧ W (i + 1) m' σ' H') ∧ ∀ x H', (Itr lo n).yld i H x H' → g x σ H' fun σ2 H2 => tb { D with nx := N, ct := N, bk := D.nx } σ2 H2) := by
  refine ⟨fun i m σ H => m = n - i ∧ i ≤ n ∧ Pv i σ H, ⟨n, by simp, Nat.zero_le _, h0⟩, ?_⟩
  rintro i m σ H ⟨rfl, hi, p⟩
  by_cases hlt : i < n
  · refine .inr ⟨hlt, Pv (i + 1), fun σ' H' p' => ⟨n - (i + 1), by omega, rfl, hlt, p'⟩, fun x H' y => ?_⟩
    obtain ⟨e, y⟩ := y
    subst e y
    exact hs i σ _ hlt p
  · have e : i = n := by omega
    subst e
    exact .inl ⟨Nat.le_refl _, hd σ H p⟩
/-- while, by a word and a measure of the state -/
theorem while_by {c : TT} {tb : TS} {D : Ends} {σ : St} {H : Hp} (Pv : St → Hp → Prop) (μ : St → Hp → Nat) (h0 : Pv σ H)
    (hs : ∀ σ H, Pv σ H → c σ H fun b H1 => if b = true then tb { D with nx := fun σ' H' => Pv σ' H' ∧ μ σ' H' < μ σ H, ct := fun σ' H' => Pv σ' H' ∧ μ σ' H' < μ σ H, bk := D.nx } σ H1 else D.nx σ H1)
    (mono : ∀ σ H Q Q', (∀ b H1, Q b H1 → Q' b H1) → c σ H Q → c σ H Q') : tWhile c tb D σ H := by
  refine ⟨fun m σ H => m = μ σ H ∧ Pv σ H, ⟨_, rfl, h0⟩, ?_⟩
  rintro m σ H ⟨rfl, p⟩
  refine mono σ H _ _ (fun b H1 q => ?_) (hs σ H p)
  cases b with
  | true => exact ⟨_, fun σ' H' ⟨p', l⟩ => ⟨_, l, rfl, p'⟩, q⟩
  | false => exact q
end L2

namespace L2
open PySem PySem.Spec PyProof.Rows

abbrev R2 := V → V → Hp → VK → Prop
/-- a two-place operation on values: f is binaryOp op, inplaceOp op or compareOp op -/
def OpR (X : Cx) (f : Value → Value → Sem Value) (r : R2) : Prop :=
  ∀ (pins : List (Addr × Obj)) (s : Shared) (σ : St) (H : Hp) (x y : V) (v u : Value) (Q : VK), Inv X pins σ H s → RelV x v → RelV y u → r x y H Q →
    wpAny (model X.prog X.w) X.A (f v u) (EP X pins σ Q) X.xe s
/-- a one-place operation -/
def UnR (X : Cx) (f : Value → Sem Value) (r : V → Hp → VK → Prop) : Prop :=
  ∀ (pins : List (Addr × Obj)) (s : Shared) (σ : St) (H : Hp) (x : V) (v : Value) (Q : VK), Inv X pins σ H s → RelV x v → r x H Q →
    wpAny (model X.prog X.w) X.A (f v) (EP X pins σ Q) X.xe s
/-- a call of a value that is known (a builtin, a type) with values -/
def CallR (X : Cx) (f : Value) (r : List V → Hp → VK → Prop) : Prop :=
  ∀ (pins : List (Addr × Obj)) (s : Shared) (σ : St) (H : Hp) (xs : List V) (us : List Value) (Q : VK), Inv X pins σ H s → Vals xs us → r xs H Q →
    wpAny (model X.prog X.w) X.A (call f us) (EP X pins σ Q) X.xe s
/-- a value's truth -/
def TruR (X : Cx) (r : V → Hp → (Bool → Hp → Prop) → Prop) : Prop :=
  ∀ (pins : List (Addr × Obj)) (s : Shared) (σ : St) (H : Hp) (x : V) (v : Value) (Q : Bool → Hp → Prop), Inv X pins σ H s → RelV x v → r x H Q →
    wpAny (model X.prog X.w) X.A (truthy v) (TP X pins σ Q) X.xe s

def tOp (r : R2) (ta tb : TE) : TE := fun σ H Q => ta σ H fun x H1 => tb σ H1 fun y H2 => r x y H2 Q
def tUn (r : V → Hp → VK → Prop) (ta : TE) : TE := fun σ H Q => ta σ H fun x H1 => r x H1 Q
/-- ints in, under C, and a value out -/
def rI (C : Int → Int → Prop) (g : Int → Int → V) : R2 := fun x y H Q => ∃ i j, x = .int i ∧ y = .int j ∧ C i j ∧ Q (g i j) H
def rI0 (g : Int → Int → V) : R2 := fun x y H Q => ∃ i j, x = .int i ∧ y = .int j ∧ Q (g i j) H
def rU (g : Int → V) : V → Hp → VK → Prop := fun x H Q => ∃ i, x = .int i ∧ Q (g i) H

section
variable {X : Cx} {a b c : Expr} {ta tb tc : TE} {pos : Pos}

theorem binT (ha : PE X a ta) (hb : PE X b tb) {pins : List (Addr × Obj)} {s : Shared} {σ : St} {H : Hp} {R : V → V → Hp → Prop} (I : Inv X pins σ H s)
    (h : ta σ H fun x H1 => tb σ H1 fun y H2 => R x y H2) {Q : Value → Shared → Prop} {f : Value → Value → Sem Value}
    (hf : ∀ v u s2 x y H2, Inv X pins σ H2 s2 → RelV x v → RelV y u → R x y H2 → wpAny (model X.prog X.w) X.A (f v u) Q X.xe s2) :
    wpAny (model X.prog X.w) X.A (eval a X.env) (fun v s₁ => wpAny (model X.prog X.w) X.A (eval b X.env) (fun u s₂ => wpAny (model X.prog X.w) X.A (f v u) Q X.xe s₂) X.xe s₁) X.xe s := by
  refine thn (ha pins s σ H _ I h) fun v s1 ⟨x, H1, I1, r1, q1⟩ => ?_
  refine thn (hb pins s1 σ H1 _ I1 q1) fun u s2 ⟨y, H2, I2, r2, q2⟩ => ?_
  exact hf v u s2 x y H2 I2 r1 r2 q2

theorem pe_op {op : Operator} {r : R2} (ho : OpR X (binaryOp op) r) (ha : PE X a ta) (hb : PE X b tb) : PE X (.BinOp a op b pos) (tOp r ta tb) := by
  intro pins s σ H Q I h
  exact wpAny_BinOp (binT ha hb I h fun v u s2 x y H2 I2 rx ry q => ho pins s2 σ H2 x y v u Q I2 rx ry q)
theorem pe_un {op : UnaryOp} {r : V → Hp → VK → Prop} (ho : UnR X (unaryOp op) r) (ha : PE X a ta) : PE X (.UnaryOp op a pos) (tUn r ta) := by
  intro pins s σ H Q I h
  exact UnaryOp_ (thn (ha pins s σ H _ I h) fun v s1 ⟨x, H1, I1, r1, q1⟩ => ho pins s1 σ H1 x v Q I1 r1 q1)
/-- a op= e at a name: the name's slot i -/
theorem augR {op : Operator} {r : R2} (ho : OpR X (inplaceOp op) r) {pins : List (Addr × Obj)} {s : Shared} {σ : St} {H : Hp} {x y : V} {v u : Value} {Q : VK} (I : Inv X pins σ H s)
    (rx : RelV x v) (ry : RelV y u) (q : r x y H Q) : wpAny (model X.prog X.w) X.A (inplaceOp op v u) (EP X pins σ Q) X.xe s := ho pins s σ H x y v u Q I rx ry q

/-! ### ints -/
theorem opI {f : Value → Value → Sem Value} {C : Int → Int → Prop} {g : Int → Int → Int}
    (rule : ∀ (i j : Int) (t u : Tok) (s : Shared) (Q : Value → Shared → Prop) (E : Value → Shared → Prop), C i j → Q (.int (g i j) s.toks) { s with toks := s.toks + 1 } → wpAny (model X.prog X.w) X.A (f (.int i t) (.int j u)) Q E s) :
    OpR X f (rI C fun i j => .int (g i j)) := by
  intro pins s σ H x y v u Q I rx ry h
  obtain ⟨i, j, rfl, rfl, hc, q⟩ := h
  obtain ⟨t, rfl⟩ := rx
  obtain ⟨t', rfl⟩ := ry
  exact rule i j t t' s _ _ hc ⟨.int (g i j), H, I.tok _, ⟨_, rfl⟩, q⟩
theorem opI0 {f : Value → Value → Sem Value} {g : Int → Int → Int}
    (rule : ∀ (i j : Int) (t u : Tok) (s : Shared) (Q : Value → Shared → Prop) (E : Value → Shared → Prop), Q (.int (g i j) s.toks) { s with toks := s.toks + 1 } → wpAny (model X.prog X.w) X.A (f (.int i t) (.int j u)) Q E s) :
    OpR X f (rI0 fun i j => .int (g i j)) := by
  intro pins s σ H x y v u Q I rx ry h
  obtain ⟨i, j, rfl, rfl, q⟩ := h
  obtain ⟨t, rfl⟩ := rx
  obtain ⟨t', rfl⟩ := ry
  exact rule i j t t' s _ _ ⟨.int (g i j), H, I.tok _, ⟨_, rfl⟩, q⟩
theorem opB0 {f : Value → Value → Sem Value} {g : Int → Int → Bool}
    (rule : ∀ (i j : Int) (t u : Tok) (s : Shared) (Q : Value → Shared → Prop) (E : Value → Shared → Prop), Q (.bool (g i j)) s → wpAny (model X.prog X.w) X.A (f (.int i t) (.int j u)) Q E s) :
    OpR X f (rI0 fun i j => .bl (g i j)) := by
  intro pins s σ H x y v u Q I rx ry h
  obtain ⟨i, j, rfl, rfl, q⟩ := h
  obtain ⟨t, rfl⟩ := rx
  obtain ⟨t', rfl⟩ := ry
  exact rule i j t t' s _ _ ⟨.bl (g i j), H, I, rfl, q⟩

def CDiv (i j : Int) : Prop := 0 < j ∧ j < 1073741824
def CDivN (i j : Int) : Prop := j ≠ 0 ∧ j.natAbs < 1073741824
def CPow (i j : Int) : Prop := 0 ≤ j ∧ j ≤ 1000000 ∧ i.natAbs < 2 ^ 64
def CMul (i j : Int) : Prop := (-(2 ^ 64) < i ∧ i < 2 ^ 64) ∨ (-(2 ^ 64) < j ∧ j < 2 ^ 64)
theorem CMul.ok {i j : Int} (h : CMul i j) : IntMulOk i j := by
  rcases h with ⟨h1, h2⟩ | ⟨h1, h2⟩
  · exact .of_left (intBits_le_64 h1 h2)
  · exact .of_right (intBits_le_64 h1 h2)
theorem two_pow_nn (k : Nat) : (0 : Int) ≤ 2 ^ k := by
  rw [two_pow_cast]
  exact Int.natCast_nonneg _

theorem op_add : OpR X (binaryOp .Add) (rI0 fun i j => .int (i + j)) := opI0 fun _ _ _ _ _ _ _ q => add_int q
theorem op_sub : OpR X (binaryOp .Sub) (rI0 fun i j => .int (i - j)) := opI0 fun _ _ _ _ _ _ _ q => sub_int q
theorem op_mul : OpR X (binaryOp .Mult) (rI CMul fun i j => .int (i * j)) := opI fun _ _ _ _ _ _ _ hc q => mul_int q hc.ok
/-- // by a positive divisor -/
theorem op_fdiv : OpR X (binaryOp .FloorDiv) (rI CDiv fun i j => .int (i / j)) := opI fun i j _ _ _ _ _ hc q => by
  have h1 : (0 : Int) < j := hc.1
  have h2 : j < 1073741824 := hc.2
  exact floordiv_int (by omega) (by rw [Int.fdiv_eq_ediv_of_nonneg i (by omega)]; exact q) (.inl (PyProof.noPylong_small (by omega)))
theorem op_fdivN : OpR X (binaryOp .FloorDiv) (rI CDivN fun i j => .int (i.fdiv j)) := opI fun _ _ _ _ _ _ _ hc q => floordiv_int hc.1 q (.inl (PyProof.noPylong_small hc.2))
/-- % by a positive divisor of any size -/
theorem op_mod : OpR X (binaryOp .Mod) (rI (fun _ j => 0 < j) fun i j => .int (i % j)) := opI fun i j _ _ _ _ _ hc q => by
  have h1 : (0 : Int) < j := hc
  exact mod_int' (by omega) (by rw [Int.fmod_eq_emod_of_nonneg i (by omega)]; exact q)
theorem op_modN : OpR X (binaryOp .Mod) (rI (fun _ j => j ≠ 0) fun i j => .int (i.fmod j)) := opI fun _ _ _ _ _ _ _ hc q => mod_int' hc q
theorem op_pow : OpR X (binaryOp .Pow) (rI CPow fun i j => .int (i ^ j.toNat)) := opI fun _ _ _ _ _ _ _ hc q => pow_int_small hc.1 hc.2.1 hc.2.2 q
theorem op_shl : OpR X (binaryOp .LShift) (rI CPow fun i j => .int (i * 2 ^ j.toNat)) := opI fun _ _ _ _ _ _ _ hc q => lshift_int_small hc.1 hc.2.1 hc.2.2 q
theorem op_shr : OpR X (binaryOp .RShift) (rI (fun _ j => 0 ≤ j) fun i j => .int (i / 2 ^ j.toNat)) := opI fun i j _ _ _ _ _ hc q =>
  rshift_int hc (by rw [Int.fdiv_eq_ediv_of_nonneg i (two_pow_nn _)]; exact q)
theorem op_and : OpR X (binaryOp .BitAnd) (rI0 fun i j => .int (Builtin.bitAnd i j)) := opI0 fun _ _ _ _ _ _ _ q => and_int q
theorem op_or : OpR X (binaryOp .BitOr) (rI0 fun i j => .int (Builtin.bitOr i j)) := opI0 fun _ _ _ _ _ _ _ q => or_int q
theorem op_xor : OpR X (binaryOp .BitXor) (rI0 fun i j => .int (Builtin.bitXor i j)) := opI0 fun _ _ _ _ _ _ _ q => xor_int q

theorem iop_add : OpR X (inplaceOp .Add) (rI0 fun i j => .int (i + j)) := opI0 fun _ _ _ _ _ _ _ q => iadd_int q
theorem iop_sub : OpR X (inplaceOp .Sub) (rI0 fun i j => .int (i - j)) := opI0 fun _ _ _ _ _ _ _ q => isub_int q
theorem iop_mul : OpR X (inplaceOp .Mult) (rI CMul fun i j => .int (i * j)) := opI fun _ _ _ _ _ _ _ hc q => imul_int q hc.ok
theorem iop_fdiv : OpR X (inplaceOp .FloorDiv) (rI CDiv fun i j => .int (i / j)) := opI fun i j _ _ _ _ _ hc q => by
  have h1 : (0 : Int) < j := hc.1
  have h2 : j < 1073741824 := hc.2
  exact ifloordiv_int (by omega) (by rw [Int.fdiv_eq_ediv_of_nonneg i (by omega)]; exact q) (.inl (PyProof.noPylong_small (by omega)))
theorem iop_mod : OpR X (inplaceOp .Mod) (rI (fun _ j => 0 < j) fun i j => .int (i % j)) := opI fun i j _ _ _ _ _ hc q => by
  have h1 : (0 : Int) < j := hc
  exact imod_int (by omega) (by rw [Int.fmod_eq_emod_of_nonneg i (by omega)]; exact q)
theorem iop_shl : OpR X (inplaceOp .LShift) (rI CPow fun i j => .int (i * 2 ^ j.toNat)) := opI fun _ _ _ _ _ _ _ hc q => ilshift_int_small hc.1 hc.2.1 hc.2.2 q
theorem iop_shr : OpR X (inplaceOp .RShift) (rI (fun _ j => 0 ≤ j) fun i j => .int (i / 2 ^ j.toNat)) := opI fun i j _ _ _ _ _ hc q =>
  irshift_int hc (by rw [Int.fdiv_eq_ediv_of_nonneg i (two_pow_nn _)]; exact q)
theorem iop_and : OpR X (inplaceOp .BitAnd) (rI0 fun i j => .int (Builtin.bitAnd i j)) := opI0 fun _ _ _ _ _ _ _ q => iand_int q
theorem iop_or : OpR X (inplaceOp .BitOr) (rI0 fun i j => .int (Builtin.bitOr i j)) := opI0 fun _ _ _ _ _ _ _ q => ior_int q
theorem iop_xor : OpR X (inplaceOp .BitXor) (rI0 fun i j => .int (Builtin.bitXor i j)) := opI0 fun _ _ _ _ _ _ _ q => ixor_int q

theorem unI {f : Value → Sem Value} {g : Int → Int}
    (rule : ∀ (i : Int) (t : Tok) (s : Shared) (Q : Value → Shared → Prop) (E : Value → Shared → Prop), Q (.int (g i) s.toks) { s with toks := s.toks + 1 } → wpAny (model X.prog X.w) X.A (f (.int i t)) Q E s) :
    UnR X f (rU fun i => .int (g i)) := by
  intro pins s σ H x v Q I rx h
  obtain ⟨i, rfl, q⟩ := h
  obtain ⟨t, rfl⟩ := rx
  exact rule i t s _ _ ⟨.int (g i), H, I.tok _, ⟨_, rfl⟩, q⟩
theorem un_neg : UnR X (unaryOp .USub) (rU fun i => .int (-i)) := unI fun _ _ _ _ _ q => neg_int q
theorem un_inv : UnR X (unaryOp .Invert) (rU fun i => .int (Builtin.bitNot i)) := unI fun _ _ _ _ _ q => invert_int q

/-! ### bools among ints: n += (a < b) -/
theorem op_add_ib : OpR X (binaryOp .Add) (fun x y H Q => ∃ i k, x = .int i ∧ y = .bl k ∧ Q (.int (i + b2i k)) H) := by
  intro pins s σ H x y v u Q I rx ry h
  obtain ⟨i, k, rfl, rfl, q⟩ := h
  obtain ⟨t, rfl⟩ := rx
  cases ry
  exact add_int_bool ⟨.int (i + b2i k), H, I.tok _, ⟨_, rfl⟩, q⟩
end

/-! ### comparisons -/
/-- the scalars that == tells apart as data does -/
def scal : V → V → Bool
  | .non, .non => true | .non, .int _ => true | .int _, .non => true | .non, .bl _ => true | .bl _, .non => true | .non, .str _ => true | .str _, .non => true
  | .int _, .int _ => true | .bl _, .bl _ => true | .str _, .str _ => true | .byt _, .byt _ => true
  | .int _, .str _ => true | .str _, .int _ => true | .bl _, .str _ => true | .str _, .bl _ => true
  | _, _ => false
def rEq : R2 := fun x y H Q => scal x y = true ∧ Q (.bl (decide (x = y))) H
def rNe : R2 := fun x y H Q => scal x y = true ∧ Q (.bl (!decide (x = y))) H

theorem dec_int {i j : Int} : decide (V.int i = V.int j) = (i == j) := by
  rw [Bool.eq_iff_iff]
  simp
theorem dec_bl {i j : Bool} : decide (V.bl i = V.bl j) = (i == j) := by
  rw [Bool.eq_iff_iff]
  simp
theorem dec_str {i j : Str} : decide (V.str i = V.str j) = (i == j) := by
  rw [Bool.eq_iff_iff]
  simp
theorem dec_byt {i j : Array UInt8} : decide (V.byt i = V.byt j) = (i.toList == j.toList) := by
  rw [Bool.eq_iff_iff]
  cases i
  cases j
  simp

section
variable {X : Cx} {a b c : Expr} {ta tb tc : TE} {pos : Pos}
theorem fin_bl {pins : List (Addr × Obj)} {σ : St} {H : Hp} {s : Shared} {Q : VK} {k k' : Bool} (I : Inv X pins σ H s) (q : Q (.bl k) H) (e : k = k') : EP X pins σ Q (.bool k') s := by
  subst e
  exact ⟨.bl k, H, I, rfl, q⟩
theorem op_eq : OpR X (compareOp .Eq) rEq := by
  intro pins s σ H x y v u Q I rx ry h
  obtain ⟨hs, q⟩ := h
  cases x with
  | non =>
    cases rx
    cases y with
    | non => cases ry; exact PySem.EqNone.eq_none_none (fin_bl I q (by simp))
    | bl j => cases ry; exact PySem.EqNone.eq_none_bool (fin_bl I q (by simp))
    | int j => obtain ⟨t', rfl⟩ := ry; exact PySem.EqNone.eq_none_int (fin_bl I q (by simp))
    | str j => obtain ⟨t', rfl⟩ := ry; exact PySem.EqNone.eq_none_str (fin_bl I q (by simp))
    | _ => exact absurd (show false = true from hs) Bool.false_ne_true
  | bl i =>
    cases rx
    cases y with
    | non => cases ry; exact PySem.EqNone.eq_bool_none (fin_bl I q (by simp))
    | bl j => cases ry; exact eq_bool (fin_bl I q dec_bl)
    | str j => obtain ⟨t', rfl⟩ := ry; exact PySem.EqMixed.eq_bool_str (fin_bl I q (by simp))
    | _ => exact absurd (show false = true from hs) Bool.false_ne_true
  | int i =>
    obtain ⟨t, rfl⟩ := rx
    cases y with
    | non => cases ry; exact PySem.EqNone.eq_int_none (fin_bl I q (by simp))
    | int j => obtain ⟨t', rfl⟩ := ry; exact eq_int (fin_bl I q dec_int)
    | str j => obtain ⟨t', rfl⟩ := ry; exact PySem.EqMixed.eq_int_str (fin_bl I q (by simp))
    | _ => exact absurd (show false = true from hs) Bool.false_ne_true
  | str i =>
    obtain ⟨t, rfl⟩ := rx
    cases y with
    | non => cases ry; exact PySem.EqNone.eq_str_none (fin_bl I q (by simp))
    | bl j => cases ry; exact PySem.EqMixed.eq_str_bool (fin_bl I q (by simp))
    | int j => obtain ⟨t', rfl⟩ := ry; exact PySem.EqMixed.eq_str_int (fin_bl I q (by simp))
    | str j => obtain ⟨t', rfl⟩ := ry; exact eq_str (fin_bl I q dec_str)
    | _ => exact absurd (show false = true from hs) Bool.false_ne_true
  | byt i =>
    obtain ⟨t, rfl⟩ := rx
    cases y with
    | byt j => obtain ⟨t', rfl⟩ := ry; exact PySem.W.eq_bytes (fin_bl I q dec_byt)
    | _ => exact absurd (show false = true from hs) Bool.false_ne_true
  | _ => cases y <;> exact absurd (show false = true from hs) Bool.false_ne_true
theorem op_ne : OpR X (compareOp .NotEq) rNe := by
  intro pins s σ H x y v u Q I rx ry h
  obtain ⟨hs, q⟩ := h
  cases x with
  | non =>
    cases rx
    cases y with
    | non => cases ry; exact PySem.EqNone.ne_none_none (fin_bl I q (by simp))
    | bl j => cases ry; exact PySem.EqNone.ne_none_bool (fin_bl I q (by simp))
    | int j => obtain ⟨t', rfl⟩ := ry; exact PySem.EqNone.ne_none_int (fin_bl I q (by simp))
    | str j => obtain ⟨t', rfl⟩ := ry; exact PySem.EqNone.ne_none_str (fin_bl I q (by simp))
    | _ => exact absurd (show false = true from hs) Bool.false_ne_true
  | bl i =>
    cases rx
    cases y with
    | non => cases ry; exact PySem.EqNone.ne_bool_none (fin_bl I q (by simp))
    | bl j => cases ry; exact ne_bool (fin_bl I q (congrArg not dec_bl))
    | str j => obtain ⟨t', rfl⟩ := ry; exact PySem.EqMixed.ne_bool_str (fin_bl I q (by simp))
    | _ => exact absurd (show false = true from hs) Bool.false_ne_true
  | int i =>
    obtain ⟨t, rfl⟩ := rx
    cases y with
    | non => cases ry; exact PySem.EqNone.ne_int_none (fin_bl I q (by simp))
    | int j => obtain ⟨t', rfl⟩ := ry; exact ne_int (fin_bl I q (congrArg not dec_int))
    | str j => obtain ⟨t', rfl⟩ := ry; exact PySem.EqMixed.ne_int_str (fin_bl I q (by simp))
    | _ => exact absurd (show false = true from hs) Bool.false_ne_true
  | str i =>
    obtain ⟨t, rfl⟩ := rx
    cases y with
    | non => cases ry; exact PySem.EqNone.ne_str_none (fin_bl I q (by simp))
    | bl j => cases ry; exact PySem.EqMixed.ne_str_bool (fin_bl I q (by simp))
    | int j => obtain ⟨t', rfl⟩ := ry; exact PySem.EqMixed.ne_str_int (fin_bl I q (by simp))
    | str j => obtain ⟨t', rfl⟩ := ry; exact ne_str (fin_bl I q (congrArg not dec_str))
    | _ => exact absurd (show false = true from hs) Bool.false_ne_true
  | byt i =>
    obtain ⟨t, rfl⟩ := rx
    cases y with
    | byt j => obtain ⟨t', rfl⟩ := ry; exact PySem.W.ne_bytes (fin_bl I q (congrArg not dec_byt))
    | _ => exact absurd (show false = true from hs) Bool.false_ne_true
  | _ => cases y <;> exact absurd (show false = true from hs) Bool.false_ne_true

theorem op_lt : OpR X (compareOp .Lt) (rI0 fun i j => .bl (decide (i < j))) := opB0 fun _ _ _ _ _ _ _ q => lt_int q
theorem op_le : OpR X (compareOp .LtE) (rI0 fun i j => .bl (decide (i ≤ j))) := opB0 fun _ _ _ _ _ _ _ q => le_int q
theorem op_gt : OpR X (compareOp .Gt) (rI0 fun i j => .bl (decide (j < i))) := opB0 fun _ _ _ _ _ _ _ q => gt_int q
theorem op_ge : OpR X (compareOp .GtE) (rI0 fun i j => .bl (decide (j ≤ i))) := opB0 fun _ _ _ _ _ _ _ q => ge_int q
theorem op_lt_str : OpR X (compareOp .Lt) (fun x y H Q => ∃ i j, x = .str i ∧ y = .str j ∧ Q (.bl (decide (i.cps.toList < j.cps.toList))) H) := by
  intro pins s σ H x y v u Q I rx ry h
  obtain ⟨i, j, rfl, rfl, q⟩ := h
  obtain ⟨t, rfl⟩ := rx
  obtain ⟨t', rfl⟩ := ry
  exact lt_str (fin_bl I q rfl)
/-- the one string within the other -/
theorem op_in_str : OpR X (compareOp .In) (fun x y H Q => ∃ i j, x = .str i ∧ y = .str j ∧ Q (.bl (!(Builtin.Str.occurrences j i 0 j.length 1).isEmpty)) H) := by
  intro pins s σ H x y v u Q I rx ry h
  obtain ⟨i, j, rfl, rfl, q⟩ := h
  obtain ⟨t, rfl⟩ := rx
  obtain ⟨t', rfl⟩ := ry
  exact in_str (fin_bl I q rfl)

/-- is None, is not None: the right side a value none -/
theorem op_isN : OpR X (compareOp .Is) (fun x y H Q => y = .non ∧ Q (.bl (decide (x = .non))) H) := by
  intro pins s σ H x y v u Q I rx ry h
  obtain ⟨rfl, q⟩ := h
  cases ry
  refine is_none_gen (fin_bl I q ?_)
  cases x <;> first
    | (cases rx; rfl)
    | (obtain ⟨t, rfl⟩ := rx; rfl)
theorem op_notN : OpR X (compareOp .IsNot) (fun x y H Q => y = .non ∧ Q (.bl (!decide (x = .non))) H) := by
  intro pins s σ H x y v u Q I rx ry h
  obtain ⟨rfl, q⟩ := h
  cases ry
  refine isnot_none_gen (fin_bl I q ?_)
  cases x <;> first
    | (cases rx; rfl)
    | (obtain ⟨t, rfl⟩ := rx; rfl)

theorem op_notin_str : OpR X (compareOp .NotIn) (fun x y H Q => ∃ i j, x = .str i ∧ y = .str j ∧ Q (.bl (!(!(Builtin.Str.occurrences j i 0 j.length 1).isEmpty))) H) := by
  intro pins s σ H x y v u Q I rx ry h
  obtain ⟨i, j, rfl, rfl, q⟩ := h
  obtain ⟨t, rfl⟩ := rx
  obtain ⟨t', rfl⟩ := ry
  exact notIn_str (fin_bl I q rfl)
/-- is, is not of two objects that are tracked lists or instances -/
def isObj : HO → Bool
  | .lst _ => true
  | .ins _ _ _ => true
  | _ => false
theorem obj_there {pins : List (Addr × Obj)} {s : Shared} {σ : St} {H : Hp} {a : Addr} {o : HO} (I : Inv X pins σ H s) (h : H a = some o) (p : isObj o = true) : ∃ ob, s.heap.get? a = some ob ∧ ob.cls ≠ .type "tuple" := by
  cases o with
  | lst xs =>
    obtain ⟨_, its, n, _, e⟩ : xs.length ≤ sizeLine ∧ ∃ (its : List Value) (n : Nat), Vals xs its ∧ s.heap.get? a = some { cls := .type "list", data := .seq its.toArray n } := I.hok a _ h
    exact ⟨_, e, (by show Value.type "list" ≠ .type "tuple"; decide +kernel)⟩
  | ins C dx fs =>
    have x := I.hok a _ h
    obtain ⟨_, _, _, e, _⟩ := x
    exact ⟨_, e, (by show Value.ref C ≠ .type "tuple"; exact fun z => by cases z)⟩
  | _ => exact absurd (show false = true from p) Bool.false_ne_true
theorem op_is_ref : OpR X (compareOp .Is) (fun x y H Q => ∃ a b oa ob, x = .ref a ∧ y = .ref b ∧ H a = some oa ∧ isObj oa = true ∧ H b = some ob ∧ isObj ob = true ∧ Q (.bl (decide (a = b))) H) := by
  intro pins s σ H x y v u Q I rx ry h
  obtain ⟨a, b, oa, ob, rfl, rfl, ha, pa, hb, pb, q⟩ := h
  cases rx
  cases ry
  obtain ⟨o1, e1, n1⟩ := obj_there I ha pa
  obtain ⟨o2, e2, _⟩ := obj_there I hb pb
  by_cases z : a = b
  · subst z
    exact wpAny_is_ref_self (fin_bl I q (by simp))
  · exact wpAny_is_ref_other z e1 e2 n1 (fin_bl I q (by simp [z]))
theorem op_isnot_ref : OpR X (compareOp .IsNot) (fun x y H Q => ∃ a b oa ob, x = .ref a ∧ y = .ref b ∧ H a = some oa ∧ isObj oa = true ∧ H b = some ob ∧ isObj ob = true ∧ Q (.bl (!decide (a = b))) H) := by
  intro pins s σ H x y v u Q I rx ry h
  obtain ⟨a, b, oa, ob, rfl, rfl, ha, pa, hb, pb, q⟩ := h
  cases rx
  cases ry
  obtain ⟨o1, e1, n1⟩ := obj_there I ha pa
  obtain ⟨o2, e2, _⟩ := obj_there I hb pb
  by_cases z : a = b
  · subst z
    exact wpAny_isNot_ref_self (fin_bl I q (by simp))
  · exact wpAny_isNot_ref_other z e1 e2 n1 (fin_bl I q (by simp [z]))

/-- two rules for one operation: by cases -/
theorem OpR.or {f : Value → Value → Sem Value} {r r' : R2} (h : OpR X f r) (h' : OpR X f r') : OpR X f (fun x y H Q => r x y H Q ∨ r' x y H Q) := by
  intro pins s σ H x y v u Q I rx ry q
  rcases q with q | q
  · exact h pins s σ H x y v u Q I rx ry q
  · exact h' pins s σ H x y v u Q I rx ry q

theorem nomark (b : Expr) {op : CmpOp} (h : op ≠ .In := by decide) (h2 : op ≠ .NotIn := by decide) : behindInMarks op b = false := by
  have e1 : (op == CmpOp.In) = false := by cases op <;> first | rfl | exact absurd rfl h
  have e2 : (op == CmpOp.NotIn) = false := by cases op <;> first | rfl | exact absurd rfl h2
  cases b <;> simp [behindInMarks, e1, e2]
/-- a comparison as a value; hm: nomark b, or (for in, not in) by with_unfolding_all rfl -/
theorem pe_cmpR {op : CmpOp} {r : R2} (ho : OpR X (compareOp op) r) (ha : PE X a ta) (hb : PE X b tb) (hm : behindInMarks op b = false) : PE X (.Compare a [op] [b] pos) (tOp r ta tb) := by
  intro pins s σ H Q I h
  exact wpAny_Compare1 (binT ha hb I h fun v u s2 x y H2 I2 rx ry q => ho pins s2 σ H2 x y v u Q I2 rx ry q) hm
/-- a reading of a value as a test -/
def tTest (t : TE) : TT := fun σ H Q => t σ H fun x H' => ∃ k, x = .bl k ∧ Q k H'
theorem pt_cmpR {op : CmpOp} {r : R2} (ho : OpR X (compareOp op) r) (ha : PE X a ta) (hb : PE X b tb) (hm : behindInMarks op b = false) : PT X (.Compare a [op] [b] pos) (tTest (tOp r ta tb)) := by
  intro pins s σ H Q I h
  refine wpAny_isTrue_Compare1 (thn (ha pins s σ H _ I h) fun v s1 ⟨x, H1, I1, r1, q1⟩ => thn (hb pins s1 σ H1 _ I1 q1) fun u s2 ⟨y, H2, I2, r2, q2⟩ =>
    thn (ho pins s2 σ H2 x y v u _ I2 r1 r2 q2) fun c s3 ⟨z, H3, I3, r3, k, e, q3⟩ => ?_) hm
  subst e
  cases r3
  exact wpAny_truthy_bool ⟨H3, I3, q3⟩
/-- a op1 b op2 c -/
def tChain (r r' : R2) (ta tb tc : TE) : TE := fun σ H Q => ta σ H fun x H1 => tb σ H1 fun y H2 => r x y H2 fun z H3 => ∃ k, z = .bl k ∧
  (if k = true then tc σ H3 fun w' H4 => r' y w' H4 Q else Q (.bl false) H3)
theorem pe_chain {op op' : CmpOp} {r r' : R2} (ho : OpR X (compareOp op) r) (ho' : OpR X (compareOp op') r') (ha : PE X a ta) (hb : PE X b tb) (hc : PE X c tc)
    (hm : lastMarks [op, op'] [b, c] = false := by with_unfolding_all rfl) : PE X (.Compare a [op, op'] [b, c] pos) (tChain r r' ta tb tc) := by
  intro pins s σ H Q I h
  refine Compare_chain (thn (ha pins s σ H _ I h) fun v s1 ⟨x, H1, I1, r1, q1⟩ => chain_link (thn (hb pins s1 σ H1 _ I1 q1) fun u s2 ⟨y, H2, I2, r2, q2⟩ =>
    thn (ho pins s2 σ H2 x y v u _ I2 r1 r2 q2) fun d s3 ⟨z, H3, I3, r3, k, e, q3⟩ => ?_)) hm
  subst e
  cases r3
  refine wpAny_truthy_bool ?_
  cases k with
  | false => exact ite_ff ⟨.bl false, H3, I3, rfl, q3⟩
  | true => exact ite_tt (chain_last (thn (hc pins s3 σ H3 _ I3 q3) fun w' s4 ⟨z', H4, I4, r4, q4⟩ => ho' pins s4 σ H4 y z' u w' Q I4 r2 r4 q4))
theorem pt_chain {op op' : CmpOp} {r r' : R2} (ho : OpR X (compareOp op) r) (ho' : OpR X (compareOp op') r') (ha : PE X a ta) (hb : PE X b tb) (hc : PE X c tc)
    (hm : lastMarks [op, op'] [b, c] = false := by with_unfolding_all rfl) : PT X (.Compare a [op, op'] [b, c] pos) (tTest (tChain r r' ta tb tc)) := by
  intro pins s σ H Q I h
  refine isTrue_chain (thn (ha pins s σ H _ I h) fun v s1 ⟨x, H1, I1, r1, q1⟩ => test_link (thn (hb pins s1 σ H1 _ I1 q1) fun u s2 ⟨y, H2, I2, r2, q2⟩ =>
    thn (ho pins s2 σ H2 x y v u _ I2 r1 r2 q2) fun d s3 ⟨z, H3, I3, r3, k, e, q3⟩ => ?_)) hm
  subst e
  cases r3
  refine wpAny_truthy_bool ?_
  cases k with
  | false =>
    obtain ⟨k', e', q'⟩ := q3
    cases e'
    exact ite_ff ⟨H3, I3, q'⟩
  | true =>
    refine ite_tt (test_last (thn (hc pins s3 σ H3 _ I3 q3) fun w' s4 ⟨z', H4, I4, r4, q4⟩ => thn (ho' pins s4 σ H4 y z' u w' _ I4 r2 r4 q4) fun d' s5 ⟨z2, H5, I5, r5, k2, e2, q5⟩ => ?_))
    subst e2
    cases r5
    exact wpAny_truthy_bool ⟨H5, I5, q5⟩

/-! ### truth -/
/-- a value's truth by the abstract heap -/
def TruV (K : PySem.W.Frag) (x : V) (H : Hp) (k : Bool) : Prop :=
  match x with
  | .non => k = false
  | .bl b => k = b
  | .int i => k = (i != 0)
  | .str y => y.length ≤ sizeLine ∧ k = ((y.length : Int) != 0)
  | .byt y => y.size ≤ sizeLine ∧ k = ((y.size : Int) != 0)
  | .ref p => (∃ xs, SqL K H p xs ∧ k = !xs.isEmpty) ∨ (∃ xs, SqT K H p xs ∧ k = !xs.isEmpty) ∨ ∃ kvs, H p = some (.dK kvs) ∧ k = !kvs.isEmpty
  | _ => False
theorem isEmpty_kv {κ : Type} {kvs : List (κ × V)} {vs : List (κ × Value)} (r : KV kvs vs) : (!vs.isEmpty) = !kvs.isEmpty := by
  cases r <;> rfl
theorem isEmpty_of {xs : List V} {its : List Value} (r : Vals xs its) : (!its.toArray.isEmpty) = !xs.isEmpty := by
  cases r <;> simp
theorem line63 : (sizeLine : Nat) < 2 ^ 63 := by rw [sizeLine_eq]; decide
theorem tru_ok : TruR X (fun x H Q => ∃ k, TruV X.K x H k ∧ Q k H) := by
  intro pins s σ H x v Q I rx h
  obtain ⟨k, e, q⟩ := h
  have hl := line63
  have hs : sizeLine = 16777216 := sizeLine_eq
  cases x with
  | non =>
    cases rx
    have e' : k = false := e
    subst e'
    exact truthy_none ⟨H, I, q⟩
  | bl b =>
    cases rx
    have e' : k = b := e
    subst e'
    exact wpAny_truthy_bool ⟨H, I, q⟩
  | int i =>
    obtain ⟨t, rfl⟩ := rx
    have e' : k = (i != 0) := e
    subst e'
    exact PySem.P.truthy_int ⟨H, I, q⟩
  | str y =>
    obtain ⟨t, rfl⟩ := rx
    obtain ⟨hy, e'⟩ : y.length ≤ sizeLine ∧ k = ((y.length : Int) != 0) := e
    subst e'
    exact PySem.P.truthy_str (by omega) ⟨H, I.tok _, q⟩
  | byt y =>
    obtain ⟨t, rfl⟩ := rx
    obtain ⟨hy, e'⟩ : y.size ≤ sizeLine ∧ k = ((y.size : Int) != 0) := e
    subst e'
    exact PySem.W.truthy_bytes (by omega) ⟨H, I.tok _, q⟩
  | ref p =>
    cases rx
    have e' : (∃ xs, SqL X.K H p xs ∧ k = !xs.isEmpty) ∨ (∃ xs, SqT X.K H p xs ∧ k = !xs.isEmpty) ∨ ∃ kvs, H p = some (.dK kvs) ∧ k = !kvs.isEmpty := e
    rcases e' with ⟨xs, hx, e'⟩ | ⟨xs, hx, e'⟩ | ⟨kvs, hx, e'⟩
    · subst e'
      obtain ⟨its, r, pl, hz⟩ := I.list hx
      have hlen := r.length
      exact wpAny_truthy_list pl.isList (by simp only [List.size_toArray]; omega) ⟨H, I.tok _, by rw [isEmpty_of r]; exact q⟩
    · subst e'
      obtain ⟨its, r, pl, hz⟩ := I.tuple hx
      have hlen := r.length
      exact truthy_tuple pl (by simp only [List.size_toArray]; omega) ⟨H, I.tok _, by rw [isEmpty_of r]; exact q⟩
    · subst e'
      obtain ⟨hz, hS, vs, r, m⟩ : kvs.length ≤ sizeLine ∧ (p == sysModules) = false ∧ ∃ vs, KV kvs vs ∧ s.heap.DictOf (mixKind X.prog X.w) p vs := I.hok p _ hx
      have hlen : kvs.length = vs.length := Paired.length r
      exact wpAny_truthy_dict hS m (by omega) ⟨H, I.tok _, by rw [isEmpty_kv r]; exact q⟩
  | _ => exact (show False from e).elim
/-- any expression whose test is its value's truth (a name, a call, a subscript, a field ..: he by fun _ => rfl) -/
theorem pt_truth (ha : PE X a ta) (he : ∀ whole, isTrue a X.env whole = (do let v ← whole; standAt a.pos; holding [v] (truthy v))) :
    PT X a (fun σ H Q => ta σ H fun x H' => ∃ k, TruV X.K x H' k ∧ Q k H') := by
  intro pins s σ H Q I h
  exact isTrue_plain (thn (ha pins s σ H _ I h) fun v s1 ⟨x, H1, I1, r1, q1⟩ => tru_ok pins s1 σ H1 x v Q I1 r1 q1) (he _)

/-! ### strs and bytes -/
theorem pe_byt {x : List UInt8} {k : Nat} : PE X (.Constant (.bytes x) k pos) (fun _ H Q => Q (.byt x.toArray) H) := fun _ _ _ H _ I h => PySem.W.Constant_bytes ⟨.byt x.toArray, H, I.tok _, ⟨_, rfl⟩, h⟩
theorem op_add_str : OpR X (binaryOp .Add) (fun x y H Q => ∃ i j, x = .str i ∧ y = .str j ∧ i.length + j.length ≤ sizeLine ∧ Q (.str (i ++ j)) H) := by
  intro pins s σ H x y v u Q I rx ry h
  obtain ⟨i, j, rfl, rfl, hz, q⟩ := h
  obtain ⟨t, rfl⟩ := rx
  obtain ⟨t', rfl⟩ := ry
  exact add_str (fun t' tk => ⟨.str (i ++ j), H, I.tok _, ⟨_, rfl⟩, q⟩) hz
theorem iop_add_str : OpR X (inplaceOp .Add) (fun x y H Q => ∃ i j, x = .str i ∧ y = .str j ∧ i.length + j.length ≤ sizeLine ∧ Q (.str (i ++ j)) H) := by
  intro pins s σ H x y v u Q I rx ry h
  obtain ⟨i, j, rfl, rfl, hz, q⟩ := h
  obtain ⟨t, rfl⟩ := rx
  obtain ⟨t', rfl⟩ := ry
  exact iadd_str (fun t' tk => ⟨.str (i ++ j), H, I.tok _, ⟨_, rfl⟩, q⟩) hz
theorem op_add_byt : OpR X (binaryOp .Add) (fun x y H Q => ∃ i j, x = .byt i ∧ y = .byt j ∧ i.size + j.size ≤ 16777216 ∧ Q (.byt (i ++ j)) H) := by
  intro pins s σ H x y v u Q I rx ry h
  obtain ⟨i, j, rfl, rfl, hz, q⟩ := h
  obtain ⟨t, rfl⟩ := rx
  obtain ⟨t', rfl⟩ := ry
  exact PySem.W.KBy.add_bytes hz (fun t' tk => ⟨.byt (i ++ j), H, I.tok _, ⟨_, rfl⟩, q⟩)

def PlainIxT (b : Expr) : Prop := ∀ o i, subscripted b false o i = operate [o, i] (getItem o i)
/-- s[i], 0 ≤ i < len -/
theorem pe_item_str (ha : PE X a ta) (hb : PE X b tb) (hs : PlainIxT b) :
    PE X (.Subscript a b pos) (tOp (fun x y H Q => ∃ z i c, x = .str z ∧ y = .int i ∧ 0 ≤ i ∧ i < 2 ^ 63 ∧ i < z.length ∧ z.cps[i.toNat]? = some c ∧ Q (.str ⟨#[c]⟩) H) ta tb) := by
  intro pins s σ H Q I h
  refine Subscript_ (binT ha hb I h fun v u s2 x y H2 I2 rx ry q => ?_)
  obtain ⟨z, i, c, rfl, rfl, h0, h63, h1, hc, q⟩ := q
  obtain ⟨t, rfl⟩ := rx
  obtain ⟨t', rfl⟩ := ry
  have e : seqIndex? i z.length = some i.toNat := PySem.StrLaws.seqIndex_nonneg h0 h1
  exact tail_any (typeIs_str s2 z t) slot_str_getitem.lookup (getItem_str (c := c) (by
    have e1 : decide (i < -(2 ^ 63 : Int)) = false := decide_eq_false (by omega)
    have e2 : decide (i ≥ 2 ^ 63) = false := decide_eq_false (by omega)
    rw [e1, e2] <;> rfl) (by rw [e]; exact hc) ⟨.str ⟨#[c]⟩, H2, I2.tok _, ⟨_, rfl⟩, q⟩) (hs _ _)
/-- b[i], 0 ≤ i < len -/
theorem pe_item_byt (ha : PE X a ta) (hb : PE X b tb) (hs : PlainIxT b) :
    PE X (.Subscript a b pos) (tOp (fun x y H Q => ∃ (z : List UInt8) (i : Int), x = .byt z.toArray ∧ y = .int i ∧ z.length ≤ sizeLine ∧ 0 ≤ i ∧ i < z.length ∧ Q (.int ((z.getD i.toNat 0).toNat : Nat)) H) ta tb) := by
  intro pins s σ H Q I h
  refine Subscript_ (binT ha hb I h fun v u s2 x y H2 I2 rx ry q => ?_)
  obtain ⟨z, i, rfl, rfl, hz, h0, h1, q⟩ := q
  obtain ⟨t, rfl⟩ := rx
  obtain ⟨t', rfl⟩ := ry
  have hl : sizeLine = 16777216 := sizeLine_eq
  exact tail_any (PySem.W.typeIs_bytes s2 z.toArray t) PySem.W.FB.slot_bytes_getitem.lookup (PySem.W.getItem_bytes (by omega) h0 h1 ⟨.int ((z.getD i.toNat 0).toNat : Nat), H2, I2.tok _, ⟨_, rfl⟩, q⟩) (hs _ _)

/-! ### scalar builtins, by CallR -/
theorem vals1 {x : V} {us : List Value} (r : Vals [x] us) : ∃ u, us = [u] ∧ RelV x u := by
  cases r with
  | cons r1 r2 => cases r2; exact ⟨_, rfl, r1⟩
theorem vals2 {x y : V} {us : List Value} (r : Vals [x, y] us) : ∃ u w', us = [u, w'] ∧ RelV x u ∧ RelV y w' := by
  cases r with
  | cons r1 r2 =>
    cases r2 with
    | cons r3 r4 => cases r4; exact ⟨_, _, rfl, r1, r3⟩
theorem call_abs : CallR X (.builtin "abs") (fun xs H Q => ∃ i, xs = [.int i] ∧ Q (.int (if i < 0 then -i else i)) H) := by
  intro pins s σ H xs us Q I r h
  obtain ⟨i, rfl, q⟩ := h
  obtain ⟨u, rfl, t, rfl⟩ := vals1 r
  exact call_abs_int fun u tk => ⟨.int (if i < 0 then -i else i), H, I.tok _, ⟨_, rfl⟩, q⟩
theorem call_max2 (hc : X.calm = true) : CallR X (.builtin "max") (fun xs H Q => ∃ i j, xs = [.int i, .int j] ∧ Q (.int (if j > i then j else i)) H) := by
  intro pins s σ H xs us Q I r h
  obtain ⟨i, j, rfl, q⟩ := h
  obtain ⟨u, w', rfl, ⟨t, rfl⟩, ⟨t', rfl⟩⟩ := vals2 r
  refine max_two_ints (I.ok.hd hc) fun h' tk k => ⟨_, H, I.kept k, ?_, q⟩
  by_cases hj : j > i
  · rw [if_pos hj, if_pos hj]; exact ⟨_, rfl⟩
  · rw [if_neg hj, if_neg hj]; exact ⟨_, rfl⟩
theorem call_min2 (hc : X.calm = true) : CallR X (.builtin "min") (fun xs H Q => ∃ i j, xs = [.int i, .int j] ∧ Q (.int (if j < i then j else i)) H) := by
  intro pins s σ H xs us Q I r h
  obtain ⟨i, j, rfl, q⟩ := h
  obtain ⟨u, w', rfl, ⟨t, rfl⟩, ⟨t', rfl⟩⟩ := vals2 r
  refine min_two_ints (I.ok.hd hc) fun h' tk k => ⟨_, H, I.kept k, ?_, q⟩
  by_cases hj : j < i
  · rw [if_pos hj, if_pos hj]; exact ⟨_, rfl⟩
  · rw [if_neg hj, if_neg hj]; exact ⟨_, rfl⟩
theorem call_int1 : CallR X (.type "int") (fun xs H Q => (∃ i, xs = [.int i] ∧ Q (.int i) H) ∨ ∃ k, xs = [.bl k] ∧ Q (.int (if k then 1 else 0)) H) := by
  intro pins s σ H xs us Q I r h
  rcases h with ⟨i, rfl, q⟩ | ⟨k, rfl, q⟩
  · obtain ⟨u, rfl, t, rfl⟩ := vals1 r
    exact call_int_int ⟨.int i, H, I, ⟨_, rfl⟩, q⟩
  · obtain ⟨u, rfl, r1⟩ := vals1 r
    cases r1
    exact call_int_bool ⟨.int (if k then 1 else 0), H, I.tok _, ⟨_, rfl⟩, q⟩
theorem call_bool1 : CallR X (.type "bool") (fun xs H Q => (∃ i, xs = [.int i] ∧ Q (.bl (i != 0)) H) ∨ ∃ k, xs = [.bl k] ∧ Q (.bl k) H) := by
  intro pins s σ H xs us Q I r h
  rcases h with ⟨i, rfl, q⟩ | ⟨k, rfl, q⟩
  · obtain ⟨u, rfl, t, rfl⟩ := vals1 r
    exact call_bool_int ⟨.bl (i != 0), H, I, rfl, q⟩
  · obtain ⟨u, rfl, r1⟩ := vals1 r
    cases r1
    exact call_bool_bool ⟨.bl k, H, I, rfl, q⟩
theorem call_str_int : CallR X (.type "str") (fun xs H Q => ∃ i, xs = [.int i] ∧ i.natAbs.log2 < 1920 ∧ Q (.str (toString i)) H) := by
  intro pins s σ H xs us Q I r h
  obtain ⟨i, rfl, hz, q⟩ := h
  obtain ⟨u, rfl, t, rfl⟩ := vals1 r
  exact PySem.P.str_of_int hz ⟨.str _, H, I.tok _, ⟨_, rfl⟩, q⟩
theorem call_ord : CallR X (.builtin "ord") (fun xs H Q => ∃ x, xs = [.str x] ∧ x.length = 1 ∧ Q (.int (x.cps.getD 0 0 : Nat)) H) := by
  intro pins s σ H xs us Q I r h
  obtain ⟨x, rfl, hz, q⟩ := h
  obtain ⟨u, rfl, t, rfl⟩ := vals1 r
  exact ord_of_one hz ⟨.int _, H, I.tok _, ⟨_, rfl⟩, q⟩
theorem call_chr : CallR X (.builtin "chr") (fun xs H Q => ∃ i, xs = [.int i] ∧ 0 ≤ i ∧ i ≤ 1114111 ∧ Q (.str ⟨#[i.toNat]⟩) H) := by
  intro pins s σ H xs us Q I r h
  obtain ⟨i, rfl, h0, h1, q⟩ := h
  obtain ⟨u, rfl, t, rfl⟩ := vals1 r
  exact chr_of_range h0 h1 ⟨.str _, H, I.tok _, ⟨_, rfl⟩, q⟩
/-- len of a str, a bytes, a list, a tuple -/
def LenV (K : PySem.W.Frag) (x : V) (H : Hp) (n : Nat) : Prop :=
  match x with
  | .str y => y.length ≤ sizeLine ∧ n = y.length
  | .byt y => y.size ≤ sizeLine ∧ n = y.size
  | .ref p => (∃ xs, SqL K H p xs ∧ n = xs.length) ∨ ∃ xs, SqT K H p xs ∧ n = xs.length
  | _ => False
theorem call_len : CallR X (.builtin "len") (fun xs H Q => ∃ x n, xs = [x] ∧ LenV X.K x H n ∧ Q (.int n) H) := by
  intro pins s σ H xs us Q I r h
  obtain ⟨x, n, rfl, e, q⟩ := h
  obtain ⟨u, rfl, rx⟩ := vals1 r
  have hl := line63
  have hs : sizeLine = 16777216 := sizeLine_eq
  cases x with
  | str y =>
    obtain ⟨t, rfl⟩ := rx
    obtain ⟨hy, e'⟩ : y.length ≤ sizeLine ∧ n = y.length := e
    subst e'
    exact len_str (by omega) ⟨.int _, H, I.tok _, ⟨_, rfl⟩, q⟩
  | byt y =>
    obtain ⟨t, rfl⟩ := rx
    obtain ⟨hy, e'⟩ : y.size ≤ sizeLine ∧ n = y.size := e
    subst e'
    exact PySem.W.len_bytes (by omega) ⟨.int _, H, I.tok _, ⟨_, rfl⟩, q⟩
  | ref p =>
    cases rx
    have e' : (∃ xs, SqL X.K H p xs ∧ n = xs.length) ∨ ∃ xs, SqT X.K H p xs ∧ n = xs.length := e
    rcases e' with ⟨xs, hx, e'⟩ | ⟨xs, hx, e'⟩
    · subst e'
      obtain ⟨its, r', pl, hz⟩ := I.list hx
      have hlen := r'.length
      exact Calls.call_len_list pl.isList (by simp only [List.size_toArray]; omega) ⟨.int xs.length, H, I.tok _, ⟨_, by simp only [List.size_toArray]; rw [hlen]⟩, q⟩
    · subst e'
      obtain ⟨its, r', pl, hz⟩ := I.tuple hx
      have hlen := r'.length
      exact len_tuple pl (by simp only [List.size_toArray]; omega) ⟨.int xs.length, H, I.tok _, ⟨_, by simp only [List.size_toArray]; rw [hlen]⟩, q⟩
  | _ => exact (show False from e).elim
/-- divmod: a new tuple -/
theorem call_divmod : CallR X (.builtin "divmod") (fun xs H Q => ∃ i j, xs = [.int i, .int j] ∧ CDiv i j ∧ ∀ p, H p = none → Q (.ref p) (upd H p (.tup [.int (i / j), .int (i % j)]))) := by
  intro pins s σ H xs us Q I r h
  obtain ⟨i, j, rfl, ⟨h1, h2⟩, q⟩ := h
  obtain ⟨u, w', rfl, ⟨t, rfl⟩, ⟨t', rfl⟩⟩ := vals2 r
  refine divmod_int (by omega) ?_ (.inl (PyProof.noPylong_small (by omega)))
  rw [Int.fdiv_eq_ediv_of_nonneg i (by omega), Int.fmod_eq_emod_of_nonneg i (by omega)]
  have hn : H s.heap.objs.size = none := I.hok.fresh (Nat.le_refl _)
  refine ⟨.ref s.heap.objs.size, _, ?_, rfl, q _ hn⟩
  refine I.laid (fun b o e => Heap.get?_push_of_some _ e) (Nat.le_refl _) ⟨by simp only [List.length_cons, List.length_nil]; rw [sizeLine_eq]; decide, [.int (i / j) s.toks, .int (i % j) (s.toks + 1)], .cons ⟨_, rfl⟩ (.cons ⟨_, rfl⟩ .nil), ?_⟩
  exact ⟨_, Heap.get?_push_size s.heap rfl, rfl, 0, rfl⟩
end
end L2

namespace L2
open PySem PySem.Spec PyProof.Rows

/-! ### an instance, its attributes a map -/
structure ObjM (h : Heap) (x dx C : Addr) (mA : Str → Option Value) : Prop where
  obj : h.get? x = some (PySem.W.instObj C dx)
  ns : h.Ns1 dx mA
  ne : dx ≠ x

theorem lookIn_ns {h : Heap} {dx : Addr} {mA : Str → Option Value} (n : h.Ns1 dx mA) : ∃ od, h.get? dx = some od ∧ ∀ name, PySem.W.lookIn name od = some (mA name) := by
  obtain ⟨o, es, ep, ho, hd, hk, _, hm⟩ := n
  refine ⟨o, ho, fun name => ?_⟩
  have e := hm name
  unfold nsFind findBy at e
  rw [← Array.find?_toList] at e
  unfold PySem.W.lookIn
  rw [hd]
  dsimp only
  split
  · rename_i y q
    rw [q] at e
    exact congrArg some e
  · rename_i q
    rw [q] at e
    have a : es.toList.any (·.refKey) = false := by
      rw [List.any_eq_false]
      intro y hy
      obtain ⟨z, t, hkey⟩ := hk y (Array.mem_toList_iff.mp hy)
      simp [DictEntry.refKey, hkey]
    have a' : ¬ es.toList.any (·.refKey) = true := by rw [a]; exact Bool.false_ne_true
    rw [if_neg a']
    exact congrArg some e

theorem ObjM.look {h : Heap} {x dx C : Addr} {mA : Str → Option Value} (I : ObjM h x dx C mA) : ∃ od, PySem.W.InstAt h x (PySem.W.instObj C dx) C (some od) ∧ ∀ name, PySem.W.lookIn name od = some (mA name) :=
  let ⟨od, ho, hl⟩ := lookIn_ns I.ns
  ⟨od, ⟨I.obj, rfl, rfl, ho⟩, hl⟩

section
variable {prog : Program} {w : World} {A : Around} {E : Value → Shared → Prop} {s : Shared} {K : PySem.W.Frag} {x dx C f : Addr} {mA : Str → Option Value} {name : Str} {v : Value}

theorem get_map {expr : Bool} {Q : Value → Shared → Prop} (X : K.In s.heap) (I : ObjM s.heap x dx C mA) (hg : PySem.W.plainGet K C name = true) (hh : PySem.W.hasDictIn K C = true)
    (ha : PySem.W.findIn K (.ref C) name = some none) (hv : mA name = some v) (hv' : PySem.W.handedIn v = true) (h : Q v { s with toks := s.toks + 1 }) :
    wpAny (model prog w) A (getAttr (.ref x) name expr) Q E s := by
  obtain ⟨od, J, hl⟩ := I.look
  exact PySem.W.get_value X J (PySem.W.plainGet_of hg).1 (PySem.W.findObj_own hh ha rfl (by rw [hl, hv])) hv' h

theorem get_const {expr : Bool} {a : Value} {Q : Value → Shared → Prop} (X : K.In s.heap) (I : ObjM s.heap x dx C mA) (hg : PySem.W.plainGet K C name = true) (hh : PySem.W.hasDictIn K C = true)
    (ha : PySem.W.findIn K (.ref C) name = some (some a)) (hn : PySem.W.specialIn K a "__get__" = some none) (hc : PySem.W.copiedNames.contains name = false) (hv : mA name = none) (hv' : PySem.W.handedIn a = true)
    (h : Q a { s with toks := s.toks + 1 }) : wpAny (model prog w) A (getAttr (.ref x) name expr) Q E s := by
  obtain ⟨od, J, hl⟩ := I.look
  exact PySem.W.get_value X J (PySem.W.plainGet_of hg).1 (PySem.W.findObj_cls hh ha hn hv' hc (by rw [hl, hv])) hv' h

theorem get_meth {pl : Sem Bool} {Q : Value × List Value → Shared → Prop} (X : K.In s.heap) (I : ObjM s.heap x dx C mA) (hg : PySem.W.plainGet K C name = true)
    (hf : PySem.W.findIn K (.ref C) name = some (some (.ref f))) (ht : PySem.W.isFn K (.ref f) = true) (hv : mA name = none) (h : Q (.ref f, [.ref x]) s) :
    wpAny (model prog w) A (getMethod (.ref x) name pl) Q E s := by
  obtain ⟨od, J, hl⟩ := I.look
  exact PySem.W.method_fn X J (PySem.W.plainGet_of hg).1 (PySem.W.plainGet_of hg).2 hf (beq_iff_eq.mp ht) (by show (PySem.W.lookIn name od).map (·.isSome) = some false; rw [hl, hv]; rfl) h

theorem set_map {ns : List Str} {Q : Unit → Shared → Prop} (X : K.In s.heap) (I : ObjM s.heap x dx C mA)
    (hs : PySem.W.findIn K (.ref C) "__setattr__" = some (some (.builtin "object.__setattr__"))) (hp : PySem.W.plainOver K C = true) (ht : PySem.W.takerIn K C name = some none) (hh : PySem.W.hasDictIn K C = true)
    (hw : PySem.Within mA ns) (hsz : ns.length ≤ sizeLine)
    (h : ∀ h', ObjM h' x dx C (fun y => if y = name then some v else mA y) → Heap.SameBut dx s.heap h' → Q () { s with heap := h', toks := s.toks + 2 }) :
    wpAny (model prog w) A (setAttr (.ref x) name v) Q E s := by
  obtain ⟨od, J, hl⟩ := I.look
  refine PySem.W.set_plain X J hs (PySem.W.osa_open (s := { s with toks := s.toks + 1 }) (r := none) X J hp ht fun b => ?_)
  obtain ⟨cd, hc, hd'⟩ := PySem.W.any_some hh
  have hx : s.heap.get? x = some ⟨.ref C, some dx, .plain, #[]⟩ := I.obj
  refine wpAny_bind (wpAny_pure (wpAny_bind (wpAny_bind (wpAny_loadPart hx (wpAny_bind (PySem.W.Looks.here (s := { s with toks := s.toks + 1 }) (PySem.W.looks_clsIn X hc) ?_))))))
  rw [hd']
  refine wpAny_pure (a := some dx) (wpAny_bind (wpAny_pure (wpAny_bind ?_)))
  refine wpAny_nsSet1 (s := { s with toks := s.toks + 1 }) I.ns fun h' hn2 hs2 => ?_
  obtain ⟨oD, esD, epD, hoD, hdD, hcD⟩ := hn2.count (PySem.Within.cons name v hw)
  refine wpAny_bind (wpAny_lookBehind hoD (by rw [hdD]; exact pastItsLine_dict (Nat.le_trans hcD (by rw [List.length_cons]; omega))) ?_)
  exact wpAny_pure (h _ ⟨(hs2.2 _ (Ne.symm I.ne)).trans I.obj, hn2, I.ne⟩ hs2)

/-- C(..): the dict at the heap's end, the instance behind it; then its __init__ -/
theorem make_map {R : Result → Shared → Prop} {vs : List Value} {kw : List (Str × Value)} (X : K.In s.heap) (hm : PySem.W.makesIn K C = true)
    (hi : PySem.W.findIn K (.ref C) "__init__" = some (some (.ref f))) (hf : PySem.W.typeIn K (.ref f) = some (.type "function"))
    (h : codeAny (model prog w) (A.under (.builtin "type.__call__" ⟨.ref C :: vs, kw⟩)) (.call (.ref f) ⟨.ref (s.heap.objs.size + 1) :: vs, kw⟩) (PySem.W.InitBack (s.heap.objs.size + 1) R)
      { s with heap := (s.heap.push PySem.W.emptyDict).push (PySem.W.instObj C s.heap.objs.size) }) :
    codeAny (model prog w) A (.call (.ref C) ⟨vs, kw⟩) R s := by
  obtain ⟨hh, g, d, t, os⟩ := s
  exact PySem.W.make_core (PySem.W.makes_of X hm) (PySem.W.looks_findIn X hi) (fun self => PySem.W.bind_fn X self hf) (.inl rfl) h
/-- C() where there is no __init__ but object's -/
theorem make_map0 {R : Result → Shared → Prop} (X : K.In s.heap) (hm : PySem.W.makesIn K C = true)
    (hi : PySem.W.findIn K (.ref C) "__init__" = some (some (.builtin "object.__init__")))
    (hb : ∀ self, PySem.W.Looks (model prog w) s.heap (bindSpecial (.builtin "object.__init__") self) (.builtin "object.__init__", [self]))
    (h : codeAny (model prog w) (A.under (.builtin "type.__call__" ⟨[.ref C], []⟩)) (.call (.builtin "object.__init__") ⟨[.ref (s.heap.objs.size + 1)], []⟩) (PySem.W.InitBack (s.heap.objs.size + 1) R)
      { s with heap := (s.heap.push PySem.W.emptyDict).push (PySem.W.instObj C s.heap.objs.size) }) :
    codeAny (model prog w) A (.call (.ref C) ⟨[], []⟩) R s := by
  obtain ⟨hh, g, d, t, os⟩ := s
  exact PySem.W.make_core (PySem.W.makes_of X hm) (PySem.W.looks_findIn X hi) hb (.inr ⟨rfl, rfl⟩) h
end

/-! ### the attributes as a list of pairs -/
def putF (f : Str) (v : V) : List (Str × V) → List (Str × V)
  | [] => [(f, v)]
  | (g, x) :: r => if g = f then (g, v) :: r else (g, x) :: putF f v r
theorem lookup_putF (f g : Str) (v : V) : ∀ fs : List (Str × V), (putF f v fs).lookup g = if g = f then some v else fs.lookup g
  | [] => by
    show List.lookup g [(f, v)] = _
    by_cases h : g = f
    · have hb : (g == f) = true := beq_iff_eq.mpr h
      simp only [List.lookup, hb, if_pos h]
    · have hb : (g == f) = false := beq_eq_false_iff_ne.mpr h
      simp only [List.lookup, hb, if_neg h]
  | (k, x) :: r => by
    have ih := lookup_putF f g v r
    rw [show putF f v ((k, x) :: r) = (if k = f then (k, v) :: r else (k, x) :: putF f v r) from rfl]
    by_cases hk : k = f
    · rw [if_pos hk]
      by_cases h : g = k
      · have hb : (g == k) = true := beq_iff_eq.mpr h
        simp only [List.lookup, hb, if_pos (h.trans hk)]
      · have hb : (g == k) = false := beq_eq_false_iff_ne.mpr h
        simp only [List.lookup, hb, if_neg (fun e : g = f => h (e.trans hk.symm))]
    · rw [if_neg hk]
      by_cases h : g = k
      · have hb : (g == k) = true := beq_iff_eq.mpr h
        simp only [List.lookup, hb, if_neg (fun e : g = f => hk (h.symm.trans e))]
      · have hb : (g == k) = false := beq_eq_false_iff_ne.mpr h
        simp only [List.lookup, hb]
        exact ih
theorem keys_putF (f : Str) (v : V) : ∀ fs : List (Str × V), f ∈ (putF f v fs).map (·.1) ∧ ∀ g, g ∈ fs.map (·.1) → g ∈ (putF f v fs).map (·.1)
  | [] => ⟨by simp [putF], fun g h => by simp at h⟩
  | (k, x) :: r => by
    obtain ⟨i1, i2⟩ := keys_putF f v r
    rw [show putF f v ((k, x) :: r) = (if k = f then (k, v) :: r else (k, x) :: putF f v r) from rfl]
    by_cases hk : k = f
    · rw [if_pos hk]
      subst hk
      exact ⟨by simp, fun g h => by simpa using h⟩
    · rw [if_neg hk]
      refine ⟨?_, fun g h => ?_⟩
      · rw [List.map_cons]
        exact List.mem_cons_of_mem _ i1
      · rw [List.map_cons] at h ⊢
        rcases List.mem_cons.mp h with e | e
        · exact List.mem_cons.mpr (.inl e)
        · exact List.mem_cons_of_mem _ (i2 g e)
theorem length_putF (f : Str) (v : V) : ∀ fs : List (Str × V), (putF f v fs).length ≤ fs.length + 1
  | [] => by simp [putF]
  | (k, x) :: r => by
    have ih := length_putF f v r
    rw [show putF f v ((k, x) :: r) = (if k = f then (k, v) :: r else (k, x) :: putF f v r) from rfl]
    by_cases hk : k = f
    · rw [if_pos hk, List.length_cons, List.length_cons]; omega
    · rw [if_neg hk, List.length_cons, List.length_cons]; omega

theorem RelO.some_of {v : V} {o : Option Value} (r : RelO (some v) o) : ∃ u, o = some u ∧ RelV v u := by
  cases o with
  | none => exact (show False from r).elim
  | some u => exact ⟨u, rfl, r⟩
theorem RelO.none_of {o : Option Value} (r : RelO none o) : o = none := by
  cases o with
  | none => rfl
  | some u => exact (show False from r).elim
theorem handed_of {v : V} {u : Value} (r : RelV v u) : PySem.W.handedIn u = true := by
  cases v with
  | non => cases (show u = Value.none from r); rfl
  | bl b => cases (show u = Value.bool b from r); rfl
  | int i => obtain ⟨t, e⟩ := (show ∃ t, u = Value.int i t from r); cases e; rfl
  | str x => obtain ⟨t, e⟩ := (show ∃ t, u = Value.str x t from r); cases e; rfl
  | byt b => obtain ⟨t, e⟩ := (show ∃ t, u = Value.bytes b t from r); cases e; rfl
  | flt b => obtain ⟨t, e⟩ := (show ∃ t, u = Value.float b t from r); cases e; rfl
  | ref a => cases (show u = Value.ref a from r); rfl
  | ty n => cases (show u = Value.type n from r); rfl

section
variable {P : Program} {w : World} {H H' : Hp} {h h' : Heap} {a C dx : Addr} {fs fs' : List (Str × V)}
theorem ins_get (hok : HOk P w H h) (e : H a = some (.ins C dx fs)) : ∃ mA, ObjM h a dx C mA ∧ (∀ f, RelO (fs.lookup f) (mA f)) ∧ PySem.Within mA (fs.map (·.1)) ∧ fs.length ≤ 1000 ∧ H dx = some (.own a) := by
  obtain ⟨d, z, ne, ob, mA, n, r, q⟩ := (show ObjOk P w H h a (.ins C dx fs) from hok a _ e)
  exact ⟨mA, ⟨ob, n, ne⟩, r, q, z, d⟩
end

/-! ### what of the text a class must have -/
structure Cls (K : PySem.W.Frag) (C : Addr) : Prop where
  pg : PySem.W.plainGet K C Str.empty = true
  hd : PySem.W.hasDictIn K C = true
  po : PySem.W.plainOver K C = true
  sa : PySem.W.findIn K (.ref C) "__setattr__" = some (some (.builtin "object.__setattr__"))
theorem Cls.get {K : PySem.W.Frag} {C : Addr} (c : Cls K C) (f : Str) : PySem.W.plainGet K C f = true := c.pg
/-- no class of it has the name -/
def NoAttr (K : PySem.W.Frag) (C : Addr) (f : Str) : Prop := PySem.W.findIn K (.ref C) f = some none
theorem NoAttr.taker {K : PySem.W.Frag} {C : Addr} {f : Str} (n : NoAttr K C f) : PySem.W.takerIn K C f = some none := by
  unfold PySem.W.takerIn
  rw [show PySem.W.findIn K (.ref C) f = some none from n]
  rfl
/-- a constant of the class -/
structure Con (K : PySem.W.Frag) (C : Addr) (f : Str) (v : V) (u : Value) : Prop where
  at_ : PySem.W.findIn K (.ref C) f = some (some u)
  rel : RelV v u
  get : PySem.W.specialIn K u "__get__" = some none
  cp : PySem.W.copiedNames.contains f = false
/-- a method: a plain def of the class or of one above it -/
structure Meth (K : PySem.W.Frag) (C : Addr) (m : Str) (f : Addr) : Prop where
  at_ : PySem.W.findIn K (.ref C) m = some (some (.ref f))
  fn : PySem.W.isFn K (.ref f) = true
  kp : PySem.W.keepIn K (.ref f) = true

section
variable {X : Cx} {pins : List (Addr × Obj)} {σ : St} {H : Hp} {s : Shared} {a C dx : Addr} {fs : List (Str × V)} {f : Str} {v : V} {A : Around} {E : Value → Shared → Prop}

theorem getattr_ok {b : Bool} {Q : Value → Shared → Prop} (I : Inv X pins σ H s) (e : H a = some (.ins C dx fs)) (c : Cls X.K C) (n : NoAttr X.K C f) (l : fs.lookup f = some v)
    (h : ∀ u s', Inv X pins σ H s' → RelV v u → Q u s') : wpAny (model X.prog X.w) A (getAttr (.ref a) f b) Q E s := by
  obtain ⟨mA, O, r, _, _, _⟩ := ins_get I.hok e
  obtain ⟨u, hu, ru⟩ := RelO.some_of (v := v) (o := mA f) (by rw [← l]; exact r f)
  exact get_map I.kIn O (c.get f) c.hd n hu (handed_of ru) (h u _ (I.tok _) ru)

theorem getcon_ok {b : Bool} {u : Value} {Q : Value → Shared → Prop} (I : Inv X pins σ H s) (e : H a = some (.ins C dx fs)) (c : Cls X.K C) (k : Con X.K C f v u) (l : fs.lookup f = none)
    (h : ∀ s', Inv X pins σ H s' → Q u s') : wpAny (model X.prog X.w) A (getAttr (.ref a) f b) Q E s := by
  obtain ⟨mA, O, r, _, _, _⟩ := ins_get I.hok e
  have hn : mA f = none := RelO.none_of (by rw [← l]; exact r f)
  exact get_const I.kIn O (c.get f) c.hd k.at_ k.get k.cp hn (handed_of k.rel) (h _ (I.tok _))

theorem getmeth_ok {m : Str} {g : Addr} {pl : Sem Bool} {Q : Value × List Value → Shared → Prop} (I : Inv X pins σ H s) (e : H a = some (.ins C dx fs)) (c : Cls X.K C) (k : Meth X.K C m g) (l : fs.lookup m = none)
    (h : Q (.ref g, [.ref a]) s) : wpAny (model X.prog X.w) A (getMethod (.ref a) m pl) Q E s := by
  obtain ⟨mA, O, r, _, _, _⟩ := ins_get I.hok e
  have hn : mA m = none := RelO.none_of (by rw [← l]; exact r m)
  exact get_meth I.kIn O (c.get m) k.at_ k.fn hn h

theorem setattr_ok {y : V} {u : Value} {Q : Unit → Shared → Prop} (I : Inv X pins σ H s) (e : H a = some (.ins C dx fs)) (c : Cls X.K C) (n : NoAttr X.K C f) (hl : fs.length < 1000) (ry : RelV y u)
    (h : ∀ s', Inv X pins σ (upd H a (.ins C dx (putF f y fs))) s' → Q () s') : wpAny (model X.prog X.w) A (setAttr (.ref a) f u) Q E s := by
  obtain ⟨mA, O, r, wi, _, ho⟩ := ins_get I.hok e
  have hz : (fs.map (·.1)).length ≤ sizeLine := by rw [List.length_map, sizeLine_eq]; omega
  refine set_map I.kIn O c.sa c.po n.taker c.hd wi hz fun h' O' sb => h _ ?_
  have hd : ∃ o, h'.get? dx = some o := let ⟨o, _, _, e', _⟩ := O'.ns; ⟨o, e'⟩
  refine I.write (x := a) (e := dx) (by rw [e]; exact True.intro) (.inr ho) (fun b q hb z => (sb.2 b hb).trans z) hd ?_
  refine ⟨by rw [upd_ne O.ne]; exact ho, ?_, O.ne, O'.obj, _, O'.ns, fun g => ?_, fun g hg => ?_⟩
  · have := length_putF f y fs; omega
  · show RelO ((putF f y fs).lookup g) (if g = f then some u else mA g)
    rw [lookup_putF]
    by_cases q : g = f
    · rw [if_pos q, if_pos q]; exact ry
    · rw [if_neg q, if_neg q]; exact r g
  · by_cases q : g = f
    · rw [q]; exact (keys_putF f y fs).1
    · refine (keys_putF f y fs).2 g (wi g fun z => hg ?_)
      show (if g = f then some u else mA g) = none
      rw [if_neg q]; exact z

/-- a new instance, tracked, without attributes -/
theorem Inv.made (I : Inv X pins σ H s) : Inv X pins σ (upd (upd H s.heap.objs.size (.own (s.heap.objs.size + 1))) (s.heap.objs.size + 1) (.ins C s.heap.objs.size []))
    { s with heap := (s.heap.push PySem.W.emptyDict).push (PySem.W.instObj C s.heap.objs.size) } := by
  have e1 : (s.heap.push PySem.W.emptyDict).get? s.heap.objs.size = some PySem.W.emptyDict := Heap.get?_push_size s.heap rfl
  have e2 : ((s.heap.push PySem.W.emptyDict).push (PySem.W.instObj C s.heap.objs.size)).get? (s.heap.objs.size + 1) = some (PySem.W.instObj C s.heap.objs.size) := by
    have := Heap.get?_push_size (s.heap.push PySem.W.emptyDict) (o := PySem.W.instObj C s.heap.objs.size) rfl
    rwa [Heap.size_push] at this
  have e3 : (s.heap.push PySem.W.emptyDict).Ns s.heap.objs.size (fun _ => none) := ⟨PySem.W.emptyDict, #[], _, e1, rfl, (fun e he => absurd he (by simp)), fun _ => rfl⟩
  have I1 := I.laid (a := s.heap.objs.size) (o := .own (s.heap.objs.size + 1)) (h' := s.heap.push PySem.W.emptyDict) (t' := s.toks) (fun b u q => Heap.get?_push_of_some _ q) (Nat.le_refl _) ⟨_, e1⟩
  refine I1.laid (a := s.heap.objs.size + 1) (o := .ins C s.heap.objs.size []) (t' := s.toks) (fun b u q => Heap.get?_push_of_some _ q) (Nat.le_of_eq (Heap.size_push _ _)) ?_
  have ne : s.heap.objs.size ≠ s.heap.objs.size + 1 := Nat.ne_of_lt (Nat.lt_succ_self _)
  refine ⟨by rw [upd_ne ne, upd_same], Nat.zero_le _, ne, e2, fun _ => none, (Heap.Ns1.of_empty e3).at fun o q => Heap.get?_push_of_some _ q, fun _ => True.intro, fun y hy => absurd rfl hy⟩

/-- e.f where nothing but the object is asked: through attributeBase (super) and the last hold -/
theorem attr_of {prog : Program} {w : World} {env : Env} {e : Expr} {f : Str} {pos : Pos} {s : Shared} {Q : Value → Shared → Prop} (hb : attributeBase e f env (eval e env) = eval e env)
    (h : wpAny (model prog w) A (eval e env) (fun o s₁ => wpAny (model prog w) A (getAttr o f true) Q E s₁) E s) : wpAny (model prog w) A (eval (.Attribute e f pos) env) Q E s :=
  Attribute_any_ h (by rw [arm_eval_Attribute, hb])
end

/-! ### readings and rules -/
/-- e.f, an attribute of the instance -/
def tFld (K : PySem.W.Frag) (ta : TE) (f : Str) : TE := fun σ H Q => ta σ H fun x H1 => ∃ a C dx fs v, x = .ref a ∧ H1 a = some (.ins C dx fs) ∧ Cls K C ∧ NoAttr K C f ∧ fs.lookup f = some v ∧ Q v H1
/-- e.f, a constant of the class -/
def tCon (K : PySem.W.Frag) (ta : TE) (f : Str) : TE := fun σ H Q => ta σ H fun x H1 => ∃ a C dx fs v u, x = .ref a ∧ H1 a = some (.ins C dx fs) ∧ Cls K C ∧ Con K C f v u ∧ fs.lookup f = none ∧ Q v H1
/-- e.f = value -/
def sFld (K : PySem.W.Frag) (ta tv : TE) (f : Str) : TS := fun D σ H => tv σ H fun y H1 => ta σ H1 fun x H2 => ∃ a C dx fs, x = .ref a ∧ H2 a = some (.ins C dx fs) ∧ Cls K C ∧ NoAttr K C f ∧ fs.length < 1000 ∧
  D.nx σ (upd H2 a (.ins C dx (putF f y fs)))
/-- an augmented operator on two values -/
def InOp (X : Cx) (op : Operator) (rd : V → V → Hp → VK → Prop) : Prop :=
  ∀ (pins : List (Addr × Obj)) (s : Shared) (σ : St) (H : Hp) (x y : V) (u v : Value) (Q : VK), Inv X pins σ H s → RelV x u → RelV y v → rd x y H Q → wpAny (model X.prog X.w) X.A (inplaceOp op u v) (EP X pins σ Q) X.xe s
/-- e.f op= value -/
def sFldAug (K : PySem.W.Frag) (ta tv : TE) (rd : V → V → Hp → VK → Prop) (f : Str) : TS := fun D σ H => ta σ H fun x H1 => ∃ a C dx fs v, x = .ref a ∧ H1 a = some (.ins C dx fs) ∧ Cls K C ∧ NoAttr K C f ∧ fs.lookup f = some v ∧
  tv σ H1 fun y H2 => rd v y H2 fun z H3 => ∃ dx' fs', H3 a = some (.ins C dx' fs') ∧ fs'.length < 1000 ∧ D.nx σ (upd H3 a (.ins C dx' (putF f z fs')))

section
variable {X : Cx} {o e value : Expr} {f : Str} {pos pos' tpos : Pos} {ta tv : TE}
theorem pe_fld (he : PE X e ta) (hb : attributeBase e f X.env (eval e X.env) = eval e X.env) : PE X (.Attribute e f pos) (tFld X.K ta f) := by
  intro pins s σ H Q I h
  refine attr_of hb (thn (he pins s σ H _ I h) fun u s1 ⟨x, H1, I1, rx, a, C, dx, fs, v, ex, ea, c, n, l, q⟩ => ?_)
  subst ex
  obtain rfl : u = Value.ref a := rx
  exact getattr_ok I1 ea c n l fun u' s2 I2 ru => ⟨v, H1, I2, ru, q⟩
theorem pe_con (he : PE X e ta) (hb : attributeBase e f X.env (eval e X.env) = eval e X.env) : PE X (.Attribute e f pos) (tCon X.K ta f) := by
  intro pins s σ H Q I h
  refine attr_of hb (thn (he pins s σ H _ I h) fun u s1 ⟨x, H1, I1, rx, a, C, dx, fs, v, u0, ex, ea, c, k, l, q⟩ => ?_)
  subst ex
  obtain rfl : u = Value.ref a := rx
  exact getcon_ok I1 ea c k l fun s2 I2 => ⟨v, H1, I2, k.rel, q⟩
theorem ps_fld (ha : PE X o ta) (hv : PE X value tv) (hs : swapsWith value (some (.Attribute o f pos')) pos.line X.env = pure false) : PS X (.Assign [.Attribute o f pos'] value pos) (sFld X.K ta tv f) := by
  intro pins s σ H D I h
  refine plainObj_wpAny_Assign_Attribute (thn (hv pins s σ H _ I h) fun u s1 ⟨y, H1, I1, ry, q⟩ => thn (ha pins s1 σ H1 _ I1 q) fun ov s2 ⟨x, H2, I2, rx, a, C, dx, fs, ex, ea, c, n, l, q2⟩ => ?_) hs
  subst ex
  obtain rfl : ov = Value.ref a := rx
  exact setattr_ok I2 ea c n l ry fun s3 I3 => ⟨σ, _, I3, q2⟩
theorem ps_fldaug {op : Operator} {rd : V → V → Hp → VK → Prop} (ha : PE X o ta) (hv : PE X value tv) (hop : InOp X op rd) : PS X (.AugAssign (.Attribute o f tpos) op value pos) (sFldAug X.K ta tv rd f) := by
  intro pins s σ H D I h
  refine wpAny_AugAssign_AttributeAny (thn (ha pins s σ H _ I h) fun ov s1 ⟨x, H1, I1, rx, a, C, dx, fs, v, ex, ea, c, n, l, q⟩ => ?_)
  subst ex
  obtain rfl : ov = Value.ref a := rx
  refine getattr_ok I1 ea c n l fun u s2 I2 ru => thn (hv pins s2 σ H1 _ I2 q) fun w3 s3 ⟨y, H2, I3, ry, q3⟩ => thn (hop pins s3 σ H2 v y u w3 _ I3 ru ry q3) fun w4 s4 ⟨z, H3, I4, rz, dx', fs', ea', l', q4⟩ => ?_
  exact setattr_ok I4 ea' c n l' rz fun s5 I5 => ⟨σ, _, I5, q4⟩
def rAdd : V → V → Hp → VK → Prop := fun x y H Q => ∃ i j, x = .int i ∧ y = .int j ∧ Q (.int (i + j)) H
def rSub : V → V → Hp → VK → Prop := fun x y H Q => ∃ i j, x = .int i ∧ y = .int j ∧ Q (.int (i - j)) H
theorem in_add : InOp X .Add rAdd := by
  rintro pins s σ H x y u v Q I rx ry ⟨i, j, rfl, rfl, q⟩
  obtain ⟨t, rfl⟩ := (show ∃ t, u = Value.int i t from rx)
  obtain ⟨t', rfl⟩ := (show ∃ t', v = Value.int j t' from ry)
  exact PyProof.Rows.iadd_int ⟨.int (i + j), H, I.tok _, ⟨_, rfl⟩, q⟩
theorem in_sub : InOp X .Sub rSub := by
  rintro pins s σ H x y u v Q I rx ry ⟨i, j, rfl, rfl, q⟩
  obtain ⟨t, rfl⟩ := (show ∃ t, u = Value.int i t from rx)
  obtain ⟨t', rfl⟩ := (show ∃ t', v = Value.int j t' from ry)
  exact PyProof.Rows.isub_int ⟨.int (i - j), H, I.tok _, ⟨_, rfl⟩, q⟩

/-- what is between an instance and its method: the tree of a method call -/
theorem methcall_of {pl : Sem Bool} {m : Str} {apos : Pos} {args : List Expr} {pins : List (Addr × Obj)} {s : Shared} {σ : St} {H : Hp} {Q : Value → Shared → Prop} {te : TE} (he : PE X e te) (I : Inv X pins σ H s)
    (h : te σ H fun x H1 => ∃ a C dx fs g, x = .ref a ∧ H1 a = some (.ins C dx fs) ∧ Cls X.K C ∧ Meth X.K C m g ∧ fs.lookup m = none ∧
      ∀ s1, Inv X pins σ H1 s1 → wpAny (model X.prog X.w) X.A (callWith pos (.ref g) [.ref a] (backTo pos (starEach args X.env)) (backToKw pos (keywordEach [] X.env))) Q X.xe s1)
    (ht : eval (.Call (.Attribute e m apos) args [] pos) X.env = (do
      let ov ← eval e X.env
      standAt apos.atName
      let (f, first) ← holding [ov] (getMethod ov m pl)
      callWith pos f first (backTo pos (starEach args X.env)) (backToKw pos (keywordEach [] X.env)))) :
    wpAny (model X.prog X.w) X.A (eval (.Call (.Attribute e m apos) args [] pos) X.env) Q X.xe s := by
  refine PySem.W.methodCall_KW (pl := pl) (thn (he pins s σ H _ I h) fun u s1 ⟨x, H1, I1, rx, a, C, dx, fs, g, ex, ea, c, k, l, q⟩ => ?_) ht
  subst ex
  obtain rfl : u = Value.ref a := rx
  exact getmeth_ok I1 ea c k l (q s1 I1)
end

/-! ### isinstance -/
section
variable {X : Cx} {pins : List (Addr × Obj)} {σ : St} {H : Hp} {s : Shared} {A : Around} {E : Value → Shared → Prop} {Q : Value → Shared → Prop} {c : Value} {b : Bool}
/-- the type of a value, as the fragment's deciders take it; for an instance its class -/
inductive TyOf (K : PySem.W.Frag) (H : Hp) : V → Value → Prop where
  | non : TyOf K H .non (.type "NoneType")
  | bl (x : Bool) : TyOf K H (.bl x) (.type "bool")
  | int (i : Int) : TyOf K H (.int i) (.type "int")
  | str (x : Str) : TyOf K H (.str x) (.type "str")
  | flt (x : UInt64) : TyOf K H (.flt x) (.type "float")
  | lst {a : Addr} {xs : List V} (e : H a = some (.lst xs)) : TyOf K H (.ref a) (.type "list")
  | frz {a : Addr} {o : Obj} {xs : List V} (e : H a = some (.frz o (.lst xs))) : TyOf K H (.ref a) (.type "list")
  | tup {a : Addr} {xs : List V} (e : H a = some (.tup xs)) : TyOf K H (.ref a) (.type "tuple")
  | dK {a : Addr} {kvs : List (Key × V)} (e : H a = some (.dK kvs)) : TyOf K H (.ref a) (.type "dict")
  | dT {a : Addr} {kvs : List (List Key × V)} (e : H a = some (.dT kvs)) : TyOf K H (.ref a) (.type "dict")
  | ins {a C dx : Addr} {fs : List (Str × V)} (e : H a = some (.ins C dx fs)) (cl : Cls K C) (ha : PySem.W.findIn K (.ref C) "__class__" = some (some (.builtin "object.__class__")))
      (hn : PySem.W.specialIn K (.builtin "object.__class__") "__get__" = some (some (.builtin "getset_descriptor.__get__"))) (htk : PySem.W.takesIn K (.builtin "object.__class__") = some true)
      (hm : PySem.W.mroIn K C (.type "object") = some true) : TyOf K H (.ref a) (.ref C)
/-- isinstance(x, c) for one class c, a built-in or an own one: kitOne's answer -/
theorem isinst_ok {x : V} {u t : Value} (I : Inv X pins σ H s) (rx : RelV x u) (ty : TyOf X.K H x t) (e : PySem.W.kitOne X.K t c = some b) (h : ∀ tk, Q (.bool b) { s with toks := tk }) :
    wpAny (model X.prog X.w) A (call (.builtin "isinstance") [u, c]) Q E s := by
  cases ty with
  | non => cases (show u = Value.none from rx); exact PySem.W.kia_one PySem.W.kitx_none I.kIn True.intro e (fun z => nomatch z) h
  | bl y => cases (show u = Value.bool y from rx); exact PySem.W.kia_one PySem.W.kitx_bool I.kIn True.intro e (fun z => nomatch z) h
  | int i => obtain ⟨t, q⟩ := (show ∃ t, u = Value.int i t from rx); cases q; exact PySem.W.kia_one PySem.W.kitx_int I.kIn True.intro e (fun z => nomatch z) h
  | str y => obtain ⟨t, q⟩ := (show ∃ t, u = Value.str y t from rx); cases q; exact PySem.W.kia_one PySem.W.kitx_str I.kIn True.intro e (fun z => nomatch z) h
  | flt y => obtain ⟨t, q⟩ := (show ∃ t, u = Value.float y t from rx); cases q; exact PySem.W.kia_one PySem.W.kitx_float I.kIn True.intro e (fun z => nomatch z) h
  | @lst a xs ea =>
    cases (show u = Value.ref a from rx)
    obtain ⟨_, _, n, _, h1⟩ := (show ObjOk X.prog X.w H s.heap a (.lst xs) from I.hok a _ ea)
    exact PySem.W.kia_one PySem.W.kitx_list I.kIn ⟨_, h1, rfl⟩ e (fun z => nomatch z) h
  | @frz a ob xs ea =>
    cases (show u = Value.ref a from rx)
    obtain ⟨_, _, _, n, _, h1⟩ := (show ObjOk X.prog X.w H s.heap a (.frz ob (.lst xs)) from I.hok a _ ea)
    exact PySem.W.kia_one PySem.W.kitx_list I.kIn ⟨_, h1, rfl⟩ e (fun z => nomatch z) h
  | @tup a xs ea =>
    cases (show u = Value.ref a from rx)
    obtain ⟨_, _, _, p⟩ := (show ObjOk X.prog X.w H s.heap a (.tup xs) from I.hok a _ ea)
    obtain ⟨o, h1, h2, _⟩ := p
    exact PySem.W.kia_one PySem.W.kitx_tuple I.kIn ⟨o, h1, h2⟩ e (fun z => nomatch z) h
  | @dK a kvs ea =>
    cases (show u = Value.ref a from rx)
    obtain ⟨_, _, vs, _, p⟩ := (show ObjOk X.prog X.w H s.heap a (.dK kvs) from I.hok a _ ea)
    obtain ⟨o, es, ep, h1, h2, _⟩ := p
    exact PySem.W.kia_one PySem.W.kitx_dict I.kIn ⟨o, h1, h2.1⟩ e (fun z => nomatch z) h
  | @dT a kvs ea =>
    cases (show u = Value.ref a from rx)
    obtain ⟨_, _, xs, _, o, es, ep, h1, h2, _⟩ := (show ObjOk X.prog X.w H s.heap a (.dT kvs) from I.hok a _ ea)
    exact PySem.W.kia_one PySem.W.kitx_dict I.kIn ⟨o, h1, h2.1⟩ e (fun z => nomatch z) h
  | @ins a C dx fs ea cl ha hn htk hm =>
    cases (show u = Value.ref a from rx)
    obtain ⟨mA, O, _⟩ := ins_get I.hok ea
    obtain ⟨od, J, _⟩ := O.look
    exact PySem.W.kia_one (PySem.W.kitx_own (cl.get _) cl.hd ha hn htk hm) I.kIn J e (fun z => nomatch z) h
end
end L2

namespace L2
open PySem PySem.Spec PyProof.Rows

/-! ### room -/
structure Room (k : Nat) (A : Around) : Prop where
  hd : A.handled = none
  dp : A.depth + 3 * k + 5 < recursionLimit
  un : A.units + 16 * k + 200 < cLine
theorem Room.mono {j k : Nat} {A : Around} (r : Room k A) (h : j ≤ k) : Room j A := ⟨r.hd, by have := r.dp; omega, by have := r.un; omega⟩
theorem Room.deeper {k : Nat} {A : Around} (r : Room (k + 1) A) (env : Env) : Room k (A.deeper env) :=
  ⟨r.hd, by have := r.dp; show A.depth + 1 + 3 * k + 5 < _; omega, by have := r.un; show A.units + 3 + 16 * k + 200 < _; omega⟩
theorem Room.in1 {k : Nat} {A : Around} (r : Room (k + 1) A) : Room k A.in1 :=
  ⟨r.hd, by have := r.dp; show A.depth + 3 * k + 5 < _; omega, by have := r.un; show A.units + 1 + 16 * k + 200 < _; omega⟩
theorem make_depth {A : Around} {C : Addr} {us : List Value} {kw : List (Str × Value)} : (A.under (.builtin "type.__call__" ⟨.ref C :: us, kw⟩)).depth = A.depth + 1 := by
  first | rfl | simp [Around.under, Code.weight, Code.isCreation, Code.isGuard, Code.isCaller, Code.frames, Code.isFrame, guardIds]
theorem make_units {A : Around} {C : Addr} {us : List Value} {kw : List (Str × Value)} : (A.under (.builtin "type.__call__" ⟨.ref C :: us, kw⟩)).units = A.units + 1 := by
  first | rfl | simp [Around.under, Code.cUnits, Code.frames, Code.isFrame]
theorem Room.make {k : Nat} {A : Around} (r : Room (k + 1) A) (C : Addr) (us : List Value) (kw : List (Str × Value)) : Room k (A.under (.builtin "type.__call__" ⟨.ref C :: us, kw⟩)) :=
  ⟨r.hd, by have := r.dp; rw [make_depth]; omega, by have := r.un; rw [make_units]; omega⟩
theorem Room.depth {k : Nat} {A : Around} (r : Room k A) : A.depth < recursionLimit := by have := r.dp; omega
theorem Room.units {k : Nat} {A : Around} (r : Room k A) : A.units + 64 < cLine := by have := r.un; omega
theorem Room.units0 {k : Nat} {A : Around} (r : Room k A) : A.units < cLine := by have := r.un; omega

/-! ### argument lists and displays -/
def tNil : TA := fun _ H Q => Q [] H
def tCons (ta : TE) (tr : TA) : TA := fun σ H Q => ta σ H fun x H1 => tr σ H1 fun xs H2 => Q (x :: xs) H2
section
variable {X : Cx} {e : Expr} {es : List Expr} {te : TE} {t : TA} {pos : Pos}
theorem pa_nil : PA X [] tNil := fun _ _ _ _ H Q I h => Calls.spliced_nil ⟨[], H, I, .nil, h⟩
theorem pa_cons (ha : PE X e te) (hr : PA X es t) (hs : starEach (e :: es) X.env = (false, eval e X.env) :: starEach es X.env := by rfl) : PA X (e :: es) (tCons te t) := by
  intro pos pins s σ H Q I h
  rw [hs]
  show wpAny _ _ (spliced ((false, eval e X.env) :: backTo pos (starEach es X.env))) _ _ s
  refine Calls.spliced_cons (thn (ha pins s σ H _ I h) fun u s1 ⟨x, H1, I1, r1, q1⟩ => ?_)
  exact thn (hr pos pins s1 σ H1 _ I1 q1) fun us s2 ⟨xs, H2, I2, r2, q2⟩ => ⟨x :: xs, H2, I2, .cons r1 r2, q2⟩

/-- a tuple, a list of written items -/
def tTup (t : TA) : TE := fun σ H Q => t σ H fun xs H1 => xs.length ≤ sizeLine ∧ ∀ p, H1 p = none → Q (.ref p) (upd H1 p (.tup xs))
def tLst (t : TA) : TE := fun σ H Q => t σ H fun xs H1 => xs.length ≤ sizeLine ∧ ∀ p, H1 p = none → Q (.ref p) (upd H1 p (.lst xs))
theorem pe_tup {x1} (h : PA X es t) : PE X (.Tuple es x1 pos) (tTup t) := by
  intro pins s σ H Q I hq
  refine wpAny_Tuple_spliced (thn (h pos pins s σ H _ I hq) fun us s1 ⟨xs, H1, I1, r, z, q⟩ => ⟨by rw [← r.length]; exact z, ?_⟩)
  have hf : H1 s1.heap.objs.size = none := I1.hok.fresh (Nat.le_refl _)
  refine ⟨.ref s1.heap.objs.size, upd H1 s1.heap.objs.size (.tup xs), I1.laid (t' := s1.toks) (fun b u e => Heap.get?_push_of_some _ e) (Nat.le_refl _) ?_, rfl, q _ hf⟩
  exact ⟨z, us, r, ⟨_, Heap.get?_push_size _ rfl, rfl, _, rfl⟩⟩
theorem pe_lst (h : PA X es t) : PE X (.List es pos) (tLst t) := by
  intro pins s σ H Q I hq
  refine wpAny_List_spliced (thn (h pos pins s σ H _ I hq) fun us s1 ⟨xs, H1, I1, r, z, q⟩ => ⟨by rw [← r.length]; exact z, ?_⟩)
  have hf : H1 s1.heap.objs.size = none := I1.hok.fresh (Nat.le_refl _)
  refine ⟨.ref s1.heap.objs.size, upd H1 s1.heap.objs.size (.lst xs), I1.laid (t' := s1.toks) (fun b u e => Heap.get?_push_of_some _ e) (Nat.le_refl _) ?_, rfl, q _ hf⟩
  exact ⟨z, us, 0, r, Heap.get?_push_size _ rfl⟩
end

/-! ### what a def promises -/
/-- a def's promise: the bound arguments in the parameters' order, the heap, the wanted end, the wanted exception -/
abbrev Sp := List V → Hp → VK → XK → Prop
/-- how an exception lies behind a call (file 08 gives it): the callers' frames, abstract heap and state ahead of the call, the wish, the exception, the state -/
abbrev CXT := List Env → Hp → Shared → XK → Value → Shared → Prop

/-- the state at a call -/
structure Env0 (P : Program) (w : World) (K : PySem.W.Frag) (mg : Str → Option Value) (base : Heap) (A : Around) (outer : List Env) (s : Shared) (H : Hp) : Prop where
  frames : A.frames = some outer
  mod : Mod K mg base
  bs : ∀ b o, base.get? b = some o → s.heap.get? b = some o ∧ H b = none
  bsz : base.objs.size ≤ s.heap.objs.size
  funs : s.heap.FunFrames base outer
  frf : ∀ b ∈ frs outer, H b = none
  hok : HOk P w H s.heap
  bare : AllBare s.gens
/-- a call's end -/
def CE (outer : List Env) (P : Program) (w : World) (H : Hp) (s : Shared) (Q : VK) (u : Value) (s' : Shared) : Prop :=
  ∃ v H', s'.os = s.os ∧ AllBare s'.gens ∧ Un (frs outer) [] H H' s.heap s'.heap ∧ HOk P w H' s'.heap ∧ RelV v u ∧ Q v H'
def CR (CX : CXT) (outer : List Env) (P : Program) (w : World) (H : Hp) (s : Shared) (Q : VK) (E : XK) (r : Result) (s' : Shared) : Prop :=
  match r with
  | .ok (.ret u) => CE outer P w H s Q u s'
  | .ok _ => False
  | .error e => CX outer H s E e s'
structure FnOk (P : Program) (w : World) (K : PySem.W.Frag) (mg : Str → Option Value) (base : Heap) (CX : CXT) (k : Nat) (f : Addr) (fd : FuncData) (ps : List Str) (sp : Sp) : Prop where
  len : ∀ vs H Q E, sp vs H Q E → vs.length = ps.length
  run : ∀ (A : Around) (outer : List Env) (s : Shared) (H : Hp) (args : Args) (us : List Value) (vs : List V) (Q : VK) (E : XK), Room k A → Env0 P w K mg base A outer s H → BindsTo s fd args (ps.zip us) → Vals vs us → sp vs H Q E →
    codeAny (model P w) A (.call (.ref f) args) (CR CX outer P w H s Q E) s
theorem FnOk.mono {P : Program} {w : World} {K : PySem.W.Frag} {mg : Str → Option Value} {base : Heap} {CX : CXT} {j k : Nat} {f : Addr} {fd : FuncData} {ps : List Str} {sp : Sp} (F : FnOk P w K mg base CX j f fd ps sp) (h : j ≤ k) :
    FnOk P w K mg base CX k f fd ps sp := ⟨F.len, fun A outer s H args us vs Q E hr => F.run A outer s H args us vs Q E (hr.mono h)⟩
/-- a weaker promise -/
theorem FnOk.imp {P : Program} {w : World} {K : PySem.W.Frag} {mg : Str → Option Value} {base : Heap} {CX : CXT} {k : Nat} {f : Addr} {fd : FuncData} {ps : List Str} {sp sp' : Sp} (F : FnOk P w K mg base CX k f fd ps sp)
    (h : ∀ vs H Q E, sp' vs H Q E → sp vs H Q E) : FnOk P w K mg base CX k f fd ps sp' :=
  ⟨fun vs H Q E q => F.len vs H Q E (h _ _ _ _ q), fun A outer s H args us vs Q E hr he hb hv hs => F.run A outer s H args us vs Q E hr he hb hv (h _ _ _ _ hs)⟩

theorem Env0.make {P : Program} {w : World} {K : PySem.W.Frag} {mg : Str → Option Value} {base : Heap} {A : Around} {outer : List Env} {s : Shared} {H : Hp} (e : Env0 P w K mg base A outer s H) (C : Addr) (us : List Value) (kw : List (Str × Value)) :
    Env0 P w K mg base (A.under (.builtin "type.__call__" ⟨.ref C :: us, kw⟩)) outer s H := ⟨by first | exact e.frames | (simpa [Around.under, Code.envs, Code.isFrame, pushEnvs] using e.frames), e.mod, e.bs, e.bsz, e.funs, e.frf, e.hok, e.bare⟩
theorem Env0.in1 {P : Program} {w : World} {K : PySem.W.Frag} {mg : Str → Option Value} {base : Heap} {A : Around} {outer : List Env} {s : Shared} {H : Hp} (e : Env0 P w K mg base A outer s H) :
    Env0 P w K mg base A.in1 outer s H := ⟨e.frames, e.mod, e.bs, e.bsz, e.funs, e.frf, e.hok, e.bare⟩

section
variable {X : Cx} {pins : List (Addr × Obj)} {σ : St} {H : Hp} {s s' : Shared}
/-- from a body: what a callee wants -/
theorem Inv.env0 (I : Inv X pins σ H s) : Env0 X.prog X.w X.K X.mg X.base X.A X.stack s H :=
  ⟨I.ok.frames, I.ok.mod, I.bs, Nat.le_trans I.ok.bsz I.sz, I.stack, I.stkFree, I.hok, I.bare⟩
/-- behind a call -/
theorem Inv.after {Q : VK} {u : Value} (I : Inv X pins σ H s) (h : CE X.stack X.prog X.w H s Q u s') : EP X pins σ Q u s' := by
  obtain ⟨v, H', os, bare, un, hok, r, q⟩ := h
  obtain ⟨hh, g, d, t, os'⟩ := s'
  obtain rfl : os' = s.os := os
  exact ⟨v, H', I.call (h' := hh) (g' := g) (d' := d) (t' := t) (ch := []) un hok bare (fun b z => absurd z (by simp)), r, q⟩
end

/-! ### calls -/
/-- f(..): the written arguments, then the defaults dvs; E: what is wanted of an exception -/
def tCall (sp : Sp) (dvs : List V) (E : XK) (t : TA) : TE := fun σ H Q => t σ H fun vs H1 => sp (vs ++ dvs) H1 Q E
/-- o.m(..) of an instance of the class at C -/
def tMeth (C : Addr) (m : Str) (sp : Sp) (dvs : List V) (E : XK) (ta : TE) (t : TA) : TE := fun σ H Q => ta σ H fun x H1 => ∃ a dx fs, x = .ref a ∧ H1 a = some (.ins C dx fs) ∧ fs.lookup m = none ∧
  t σ H1 fun vs H2 => sp (x :: (vs ++ dvs)) H2 Q E
/-- C(..): a new instance and its dict, then __init__ -/
def tMake (C : Addr) (sp : Sp) (dvs : List V) (E : XK) (t : TA) : TE := fun σ H Q => t σ H fun vs H1 => ∀ x dx, H1 x = none → H1 dx = none → dx ≠ x →
  sp (.ref x :: (vs ++ dvs)) (upd (upd H1 dx (.own x)) x (.ins C dx [])) (fun v H2 => v = .non ∧ Q (.ref x) H2) E

/-- how the parameters are bound: us the positional arguments, kw the keywords' values by name, ds the defaults that fill up -/
def Binds (K : PySem.W.Frag) (fd : FuncData) (ps : List Str) (ds : List Value) : Prop :=
  ∀ (s : Shared) (us : List Value), K.In s.heap → (us ++ ds).length = ps.length → BindsTo s fd ⟨us, []⟩ (ps.zip (us ++ ds))
/-- every parameter is given -/
theorem Binds.all {K : PySem.W.Frag} {fd : FuncData} {ps : List Str} (h : ∀ us : List Value, us.length = ps.length → bindArgs fd ⟨us, []⟩ = pure (ps.zip us)) : Binds K fd ps [] := fun s us _ hl => by
  rw [List.append_nil] at hl ⊢
  exact .of_eq (h us hl)

/-- an exception of a callee reaches what this body wants of exceptions -/
def Passes (CX : CXT) (X : Cx) (E : XK) : Prop := ∀ (pins : List (Addr × Obj)) (σ : St) (H : Hp) (s : Shared) (e : Value) (s' : Shared), Inv X pins σ H s → CX X.stack H s E e s' → X.xe e s'

section
variable {X : Cx} {CX : CXT} {k : Nat} {f C : Addr} {fd : FuncData} {ps : List Str} {sp : Sp} {dvs : List V} {ds : List Value} {E : XK} {x m : Str} {p pos apos : Pos} {e o : Expr} {es : List Expr} {ta : TE} {t : TA}

/-- the callee runs -/
theorem run_fn {pins : List (Addr × Obj)} {σ : St} {H : Hp} {s : Shared} {Q : VK} {us : List Value} {vs : List V} (F : FnOk X.prog X.w X.K X.mg X.base CX k f fd ps sp) (hr : Room k X.A) (hb : Binds X.K fd ps ds) (hd : Vals dvs ds) (hx : Passes CX X E)
    (I : Inv X pins σ H s) (r : Vals vs us) (h : sp (vs ++ dvs) H Q E) : wpAny (model X.prog X.w) X.A (call (.ref f) us) (EP X pins σ Q) X.xe s := by
  have r2 : Vals (vs ++ dvs) (us ++ ds) := r.append hd
  have hl : (us ++ ds).length = ps.length := by rw [← r2.length]; exact F.len _ _ _ _ h
  refine wpAny_call (codeAny_mono (F.run X.A X.stack s H ⟨us, []⟩ (us ++ ds) (vs ++ dvs) Q E hr I.env0 (hb s us I.kIn hl) r2 h) fun r s' hq => ?_)
  cases r with
  | error e => exact hx pins σ H s e s' I hq
  | ok fl =>
    cases fl with
    | ret u => exact I.after hq
    | next => exact False.elim hq
    | brk => exact False.elim hq
    | cont => exact False.elim hq

theorem pe_call (F : FnOk X.prog X.w X.K X.mg X.base CX k f fd ps sp) (hr : Room k X.A) (hg : Gl X x) (hm : X.mg x = some (.ref f)) (hk : PySem.W.keepIn X.K (.ref f) = true) (hb : Binds X.K fd ps ds) (hd : Vals dvs ds) (hx : Passes CX X E)
    (ha : PA X (e :: es) t) (hdb : (x == ("__debug__" : Str)) = false := by decide) (he : starEach (e :: es) X.env = (false, eval e X.env) :: starEach es X.env := by rfl) (hpl : (backTo pos (starEach es X.env)).any (·.1) = false := by rfl) :
    PE X (.Call (.Name x p) (e :: es) [] pos) (tCall sp dvs E t) := by
  intro pins s σ H Q I h
  refine wpAny_Call_Name_kw (ld_glob I hg hm ?_ hdb)
  refine PySem.W.callWith_K (h₀ := X.base) I.ok.mod.kin hk (thn (ha pos pins s σ H _ I h) fun us s1 ⟨vs, H1, I1, r, q⟩ => ⟨I1.kIn, ?_⟩) he hpl
  exact run_fn F hr hb hd hx I1 r q
theorem pe_call0 (F : FnOk X.prog X.w X.K X.mg X.base CX k f fd ps sp) (hr : Room k X.A) (hg : Gl X x) (hm : X.mg x = some (.ref f)) (hk : PySem.W.keepIn X.K (.ref f) = true) (hb : Binds X.K fd ps ds) (hd : Vals dvs ds) (hx : Passes CX X E)
    (hdb : (x == ("__debug__" : Str)) = false := by decide) : PE X (.Call (.Name x p) [] [] pos) (tCall sp dvs E tNil) := by
  intro pins s σ H Q I h
  refine wpAny_Call_Name_kw (ld_glob I hg hm ?_ hdb)
  exact PySem.W.callWith_K0 I.kIn hk (run_fn (us := []) F hr hb hd hx I .nil h)

/-- o.m(e, ..) -/
theorem pe_meth {pl : Sem Bool} (he : PE X o ta) (c : Cls X.K C) (hm : Meth X.K C m f) (F : FnOk X.prog X.w X.K X.mg X.base CX k f fd ps sp) (hr : Room k X.A) (hb : Binds X.K fd ps ds) (hd : Vals dvs ds) (hx : Passes CX X E) (ha : PA X (e :: es) t)
    (hst : starEach (e :: es) X.env = (false, eval e X.env) :: starEach es X.env := by rfl) (hpl : (backTo pos (starEach es X.env)).any (·.1) = false := by rfl)
    (ht : eval (.Call (.Attribute o m apos) (e :: es) [] pos) X.env = (do
      let ov ← eval o X.env
      standAt apos.atName
      let (f, first) ← holding [ov] (getMethod ov m pl)
      callWith pos f first (backTo pos (starEach (e :: es) X.env)) (backToKw pos (keywordEach [] X.env))) := by rfl) :
    PE X (.Call (.Attribute o m apos) (e :: es) [] pos) (tMeth C m sp dvs E ta t) := by
  intro pins s σ H Q I h
  refine PySem.W.methodCall_KW (pl := pl) (thn (he pins s σ H _ I h) fun u s1 ⟨x, H1, I1, rx, a, dx, fs, ex, ea, l, q⟩ => ?_) ht
  subst ex
  obtain rfl : u = Value.ref a := rx
  refine getmeth_ok I1 ea c hm l ?_
  refine PySem.W.callWith_K (first := [.ref a]) (h₀ := X.base) I.ok.mod.kin hm.kp (thn (ha pos pins s1 σ H1 _ I1 q) fun us s2 ⟨vs, H2, I2, r, q2⟩ => ⟨I2.kIn, ?_⟩) hst hpl
  exact run_fn (us := .ref a :: us) (vs := .ref a :: vs) F hr hb hd hx I2 (.cons rfl r) q2
/-- o.m() -/
theorem pe_meth0 {pl : Sem Bool} (he : PE X o ta) (c : Cls X.K C) (hm : Meth X.K C m f) (F : FnOk X.prog X.w X.K X.mg X.base CX k f fd ps sp) (hr : Room k X.A) (hb : Binds X.K fd ps ds) (hd : Vals dvs ds) (hx : Passes CX X E)
    (ht : eval (.Call (.Attribute o m apos) [] [] pos) X.env = (do
      let ov ← eval o X.env
      standAt apos.atName
      let (f, first) ← holding [ov] (getMethod ov m pl)
      callWith pos f first (backTo pos (starEach [] X.env)) (backToKw pos (keywordEach [] X.env))) := by rfl) :
    PE X (.Call (.Attribute o m apos) [] [] pos) (tMeth C m sp dvs E ta tNil) := by
  intro pins s σ H Q I h
  refine PySem.W.methodCall_KW (pl := pl) (thn (he pins s σ H _ I h) fun u s1 ⟨x, H1, I1, rx, a, dx, fs, ex, ea, l, q⟩ => ?_) ht
  subst ex
  obtain rfl : u = Value.ref a := rx
  refine getmeth_ok I1 ea c hm l ?_
  exact PySem.W.callWith_K0 (first := [.ref a]) I1.kIn hm.kp (run_fn (us := [.ref a]) (vs := [.ref a]) F hr hb hd hx I1 (.cons rfl .nil) q)

/-- what a class must have to be made -/
structure Mk (K : PySem.W.Frag) (C f : Addr) : Prop where
  makes : PySem.W.makesIn K C = true
  init : PySem.W.findIn K (.ref C) "__init__" = some (some (.ref f))
  fn : PySem.W.isFn K (.ref f) = true
  kp : PySem.W.keepIn K (.ref C) = true

theorem run_make {pins : List (Addr × Obj)} {σ : St} {H : Hp} {s : Shared} {Q : VK} {us : List Value} {vs : List V} (M : Mk X.K C f) (F : FnOk X.prog X.w X.K X.mg X.base CX k f fd ps sp) (hr : Room (k + 1) X.A) (hb : Binds X.K fd ps ds) (hd : Vals dvs ds)
    (hx : Passes CX X E) (I : Inv X pins σ H s) (r : Vals vs us)
    (h : ∀ x dx, H x = none → H dx = none → dx ≠ x → sp (.ref x :: (vs ++ dvs)) (upd (upd H dx (.own x)) x (.ins C dx [])) (fun v H2 => v = .non ∧ Q (.ref x) H2) E) :
    wpAny (model X.prog X.w) X.A (call (.ref C) us) (EP X pins σ Q) X.xe s := by
  have hq := h (s.heap.objs.size + 1) s.heap.objs.size (I.hok.fresh (Nat.le_succ _)) (I.hok.fresh (Nat.le_refl _)) (Nat.ne_of_lt (Nat.lt_succ_self _))
  have I2 := Inv.made (C := C) I
  have r2 : Vals (V.ref (s.heap.objs.size + 1) :: (vs ++ dvs)) (Value.ref (s.heap.objs.size + 1) :: (us ++ ds)) := .cons rfl (r.append hd)
  have hl : (Value.ref (s.heap.objs.size + 1) :: us ++ ds).length = ps.length := by
    have e := r2.length
    rw [F.len _ _ _ _ hq] at e
    exact e.symm
  refine wpAny_call (make_map (f := f) I.kIn M.makes M.init (beq_iff_eq.mp M.fn) (codeAny_mono (F.run _ X.stack _ _ ⟨Value.ref (s.heap.objs.size + 1) :: us, []⟩ (Value.ref (s.heap.objs.size + 1) :: (us ++ ds)) _ _ E (hr.make C us [])
    (I2.env0.make C us []) (hb _ (Value.ref (s.heap.objs.size + 1) :: us) I2.kIn hl) r2 hq) fun r s' hq' => ?_))
  cases r with
  | error e => exact hx pins σ _ _ e s' I2 hq'
  | ok fl =>
    cases fl with
    | ret u =>
      obtain ⟨v, H', I3, rv, ev, q3⟩ := I2.after hq'
      subst ev
      exact ⟨rv, ⟨V.ref (s.heap.objs.size + 1), H', I3, rfl, q3⟩⟩
    | next => exact False.elim hq'
    | brk => exact False.elim hq'
    | cont => exact False.elim hq'
theorem pe_make (M : Mk X.K C f) (F : FnOk X.prog X.w X.K X.mg X.base CX k f fd ps sp) (hr : Room (k + 1) X.A) (hg : Gl X x) (hm : X.mg x = some (.ref C)) (hb : Binds X.K fd ps ds) (hd : Vals dvs ds) (hx : Passes CX X E)
    (ha : PA X (e :: es) t) (hdb : (x == ("__debug__" : Str)) = false := by decide) (he : starEach (e :: es) X.env = (false, eval e X.env) :: starEach es X.env := by rfl) (hpl : (backTo pos (starEach es X.env)).any (·.1) = false := by rfl) :
    PE X (.Call (.Name x p) (e :: es) [] pos) (tMake C sp dvs E t) := by
  intro pins s σ H Q I h
  refine wpAny_Call_Name_kw (ld_glob I hg hm ?_ hdb)
  refine PySem.W.callWith_K (h₀ := X.base) I.ok.mod.kin M.kp (thn (ha pos pins s σ H _ I h) fun us s1 ⟨vs, H1, I1, r, q⟩ => ⟨I1.kIn, ?_⟩) he hpl
  exact run_make M F hr hb hd hx I1 r q
theorem pe_make0 (M : Mk X.K C f) (F : FnOk X.prog X.w X.K X.mg X.base CX k f fd ps sp) (hr : Room (k + 1) X.A) (hg : Gl X x) (hm : X.mg x = some (.ref C)) (hb : Binds X.K fd ps ds) (hd : Vals dvs ds) (hx : Passes CX X E)
    (hdb : (x == ("__debug__" : Str)) = false := by decide) : PE X (.Call (.Name x p) [] [] pos) (tMake C sp dvs E tNil) := by
  intro pins s σ H Q I h
  refine wpAny_Call_Name_kw (ld_glob I hg hm ?_ hdb)
  exact PySem.W.callWith_K0 I.kIn M.kp (run_make (us := []) M F hr hb hd hx I .nil h)
end

/-! ### keywords -/
/-- the values of the keywords, from the left -/
def PK (X : Cx) (kws : List Keyword) (t : TA) : Prop :=
  ∀ (pos : Pos) (pins : List (Addr × Obj)) (s : Shared) (σ : St) (H : Hp) (Q : List V → Hp → Prop), Inv X pins σ H s → t σ H Q → wpAny (model X.prog X.w) X.A (evalAll ((backToKw pos (keywordEach kws X.env)).map (·.2))) (AP X pins σ Q) X.xe s
section
variable {X : Cx} {CX : CXT} {k : Nat} {f C : Addr} {fd : FuncData} {ps ks : List Str} {sp : Sp} {E : XK} {x m : Str} {p pos apos kpos : Pos} {e o : Expr} {es : List Expr} {kws : List Keyword} {te ta : TE} {t tk : TA} {nm : Option Str}
theorem pk_nil : PK X [] tNil := fun _ _ _ _ H Q I h => wpAny_evalAll_nil ⟨[], H, I, .nil, h⟩
theorem pk_cons (ha : PE X e te) (hr : PK X kws t) : PK X (⟨nm, e, kpos⟩ :: kws) (tCons te t) := by
  intro pos pins s σ H Q I h
  show wpAny _ _ (evalAll ((do let v ← eval e X.env; standAt pos; pure v) :: (backToKw pos (keywordEach kws X.env)).map (·.2))) _ _ s
  refine wpAny_evalAll_cons (wpAny_bind (thn (ha pins s σ H _ I h) fun u s1 ⟨x, H1, I1, r1, q1⟩ => wpAny_bind (wpAny_standAt (wpAny_pure ?_))))
  exact thn (hr pos pins s1 σ H1 _ I1 q1) fun us s2 ⟨xs, H2, I2, r2, q2⟩ => ⟨x :: xs, H2, I2, .cons r1 r2, q2⟩

/-- how a call with keywords binds: g puts the positional values us and the keywords' values ws (names ks) in the parameters' order, defaults among them -/
structure KBinds (K : PySem.W.Frag) (fd : FuncData) (ps ks : List Str) (g : List Value → List Value → List Value) (gV : List V → List V → List V) : Prop where
  to : ∀ (s : Shared) (us ws : List Value), K.In s.heap → (g us ws).length = ps.length → BindsTo s fd ⟨us, ks.zip ws⟩ (ps.zip (g us ws))
  rel : ∀ {vs : List V} {us : List Value} {zs : List V} {ws : List Value}, Vals vs us → Vals zs ws → Vals (gV vs zs) (g us ws)
def tCallK (sp : Sp) (gV : List V → List V → List V) (E : XK) (t tk : TA) : TE := fun σ H Q => t σ H fun vs H1 => tk σ H1 fun zs H2 => sp (gV vs zs) H2 Q E
variable {g : List Value → List Value → List Value} {gV : List V → List V → List V}
theorem run_fnk {pins : List (Addr × Obj)} {σ : St} {H : Hp} {s : Shared} {Q : VK} {us ws : List Value} {vs zs : List V} (F : FnOk X.prog X.w X.K X.mg X.base CX k f fd ps sp) (hr : Room k X.A) (hb : KBinds X.K fd ps ks g gV) (hx : Passes CX X E)
    (I : Inv X pins σ H s) (r : Vals vs us) (rz : Vals zs ws) (h : sp (gV vs zs) H Q E) : wpAny (model X.prog X.w) X.A (call (.ref f) us (ks.zip ws)) (EP X pins σ Q) X.xe s := by
  have r2 := hb.rel r rz
  have hl : (g us ws).length = ps.length := by rw [← r2.length]; exact F.len _ _ _ _ h
  refine wpAny_call (codeAny_mono (F.run X.A X.stack s H ⟨us, ks.zip ws⟩ (g us ws) (gV vs zs) Q E hr I.env0 (hb.to s us ws I.kIn hl) r2 h) fun r s' hq => ?_)
  cases r with
  | error e => exact hx pins σ H s e s' I hq
  | ok fl =>
    cases fl with
    | ret u => exact I.after hq
    | next => exact False.elim hq
    | brk => exact False.elim hq
    | cont => exact False.elim hq
/-- f(e, .., k = v, ..) -/
theorem pe_callK (F : FnOk X.prog X.w X.K X.mg X.base CX k f fd ps sp) (hr : Room k X.A) (hg : Gl X x) (hm : X.mg x = some (.ref f)) (hk : PySem.W.keepIn X.K (.ref f) = true) (hb : KBinds X.K fd ps ks g gV) (hx : Passes CX X E)
    (ha : PA X (e :: es) t) (hkw : PK X kws tk) (hall : (backToKw pos (keywordEach kws X.env)).all (·.1.isSome) = true := by rfl) (hks : (backToKw pos (keywordEach kws X.env)).filterMap (·.1) = ks := by rfl)
    (hdb : (x == ("__debug__" : Str)) = false := by decide) (he : starEach (e :: es) X.env = (false, eval e X.env) :: starEach es X.env := by rfl)
    (hpl : ((backTo pos (starEach (e :: es) X.env)).any (·.1) || (backToKw pos (keywordEach kws X.env)).any (·.1.isNone)) = false := by rfl) :
    PE X (.Call (.Name x p) (e :: es) kws pos) (tCallK sp gV E t tk) := by
  intro pins s σ H Q I h
  refine wpAny_Call_Name_kw (ld_glob I hg hm ?_ hdb)
  refine PySem.W.callWith_KW (h₀ := X.base) I.ok.mod.kin hk hall (thn (ha pos pins s σ H _ I h) fun us s1 ⟨vs, H1, I1, r, q⟩ => ?_) hpl he
  refine thn (hkw pos pins s1 σ H1 _ I1 q) fun ws s2 ⟨zs, H2, I2, rz, q2⟩ => ⟨I2.kIn, ?_⟩
  rw [hks]
  exact run_fnk F hr hb hx I2 r rz q2
end

/-! ### a def's body keeps its promise -/
/-- names: the parameters first -/
structure FnScope (N P : List Str) (sc : Scope) : Prop where
  kind : sc.kind = .function
  co : sc.isCoroutine = false
  gen : sc.isGenerator = false
  nd : N.Nodup
  pre : N.take P.length = P
  par : ∀ x ∈ P, sc.names.lookup x = some .local ∨ sc.names.lookup x = some .cell
  nofree : ∀ y ∈ sc.names, y.2 ≠ .free

theorem bindL_out {kindOf : Str → Option NameKind} {x : Str} : ∀ {binds : List (Str × Value)} {m : Str → Option Value}, (∀ v, (x, v) ∉ binds) → bindL kindOf binds m x = m x
  | [], _, _ => rfl
  | (n, v) :: r, m, h => by
    unfold bindL
    rw [bindL_out fun w hw => h w (List.mem_cons_of_mem _ hw)]
    split
    · have : x ≠ n := by rintro rfl; exact h v List.mem_cons_self
      simp [this]
    · rfl
theorem bindC_out {kindOf : Str → Option NameKind} {x : Str} : ∀ {binds : List (Str × Value)} {m : Str → Option Value}, (∀ v, (x, v) ∉ binds) → bindC kindOf binds m x = m x
  | [], _, _ => rfl
  | (n, v) :: r, m, h => by
    unfold bindC
    rw [bindC_out fun w hw => h w (List.mem_cons_of_mem _ hw)]
    split
    · rfl
    · have : x ≠ n := by rintro rfl; exact h v List.mem_cons_self
      simp [this]
theorem bindL_get {kindOf : Str → Option NameKind} {x : Str} {v : Value} : ∀ {P : List Str} {vs : List Value} {i : Nat} {m : Str → Option Value}, P.Nodup → P[i]? = some x → vs[i]? = some v → kindOf x = some .local →
    bindL kindOf (P.zip vs) m x = some v
  | [], _, _, _, _, h, _, _ => by simp at h
  | _ :: _, [], _, _, _, _, h, _ => by simp at h
  | p :: P, w :: vs, 0, m, nd, h1, h2, hk => by
    simp at h1 h2; subst h1; subst h2
    show bindL kindOf ((p, w) :: P.zip vs) m p = _
    unfold bindL
    rw [bindL_out fun v hv => (List.nodup_cons.mp nd).1 (List.of_mem_zip hv).1, if_pos hk]
    simp
  | p :: P, w :: vs, i + 1, m, nd, h1, h2, hk => by
    show bindL kindOf ((p, w) :: P.zip vs) m x = _
    unfold bindL
    exact bindL_get (i := i) (List.nodup_cons.mp nd).2 (by simpa using h1) (by simpa using h2) hk
theorem bindC_get {kindOf : Str → Option NameKind} {x : Str} {v : Value} : ∀ {P : List Str} {vs : List Value} {i : Nat} {m : Str → Option Value}, P.Nodup → P[i]? = some x → vs[i]? = some v → kindOf x ≠ some .local →
    bindC kindOf (P.zip vs) m x = some v
  | [], _, _, _, _, h, _, _ => by simp at h
  | _ :: _, [], _, _, _, _, h, _ => by simp at h
  | p :: P, w :: vs, 0, m, nd, h1, h2, hk => by
    simp at h1 h2; subst h1; subst h2
    show bindC kindOf ((p, w) :: P.zip vs) m p = _
    unfold bindC
    rw [bindC_out fun v hv => (List.nodup_cons.mp nd).1 (List.of_mem_zip hv).1, if_neg hk]
    simp
  | p :: P, w :: vs, i + 1, m, nd, h1, h2, hk => by
    show bindC kindOf ((p, w) :: P.zip vs) m x = _
    unfold bindC
    exact bindC_get (i := i) (List.nodup_cons.mp nd).2 (by simpa using h1) (by simpa using h2) hk

/-- the names' values at the entry -/
def start (N : List Str) (vs : List V) : St := vs.map some ++ List.replicate (N.length - vs.length) none

/-- the context of a def's body, at its entry; an exception leaves the frame, then lies as CX says -/
def cxOf (CX : CXT) (P : Program) (w : World) (K : PySem.W.Frag) (mg : Str → Option Value) (base : Heap) (N : List Str) (qual : Str) (scope : Scope) (f : Addr) (cd : Value) (A : Around) (outer : List Env) (s : Shared) (H : Hp) (E : XK) : Cx where
  prog := P
  w := w
  K := K
  mg := mg
  base := base
  A := A.deeper (envOfC qual scope s.heap.objs.size f cd)
  N := N
  s₀ := s
  H₀ := H
  env := envOfC qual scope s.heap.objs.size f cd
  outer := outer
  stack := envOfC qual scope s.heap.objs.size f cd :: outer
  ex := []
  calm := true
  fn := fun _ => true
  pn := []
  xe := fun e s' => wpAny (model P w) (A.deeper (envOfC qual scope s.heap.objs.size f cd)) (leaving (envOfC qual scope s.heap.objs.size f cd) e) (fun _ s'' => CX outer H s E e s'') (fun e' s'' => CX outer H s E e' s'') s'

theorem cell_has {sc : Scope} {n : Nat} {x : Str} (h : sc.names.lookup x = some .cell) : ∃ c, (cellsFrom n sc.names []).lookup x = some c := by
  have q := PySem.W.cellsFrom_some sc.names n [] (.inl h)
  exact Option.isSome_iff_exists.mp q

theorem inv_start {CX : CXT} {P : Program} {w : World} {K : PySem.W.Frag} {mg : Str → Option Value} {base : Heap} {N ps : List Str} {qual : Str} {scope : Scope} {f : Addr} {cd : Value} {A : Around} {outer : List Env} {s s1 : Shared} {H : Hp} {E : XK} {us : List Value} {vs : List V}
    (S : FnScope N ps scope) (hd : A.handled = none) (e0 : Env0 P w K mg base A outer s H) (hl : vs.length = ps.length) (r : Vals vs us)
    (x : InCallC s s.heap.objs.size (bindL (envOfC qual scope s.heap.objs.size f cd).kindOf (ps.zip us) fun _ => none) (cellsFrom (s.heap.objs.size + 1) scope.names []) (bindC (envOfC qual scope s.heap.objs.size f cd).kindOf (ps.zip us) fun _ => none) s1) :
    Inv (cxOf CX P w K mg base N qual scope f cd A outer s H E) [] (start N vs) H s1 := by
  have hpl : ps.length ≤ N.length := by have := congrArg List.length S.pre; rw [List.length_take] at this; omega
  obtain ⟨h1, tk, rfl, hk⟩ := x.done
  have noA : ∀ b : Addr, b ∉ (cxOf CX P w K mg base N qual scope f cd A outer s H E).ex := fun b z => absurd (show b ∈ ([] : List Addr) from z) (by simp)
  refine ⟨⟨e0.mod, S.kind, rfl, rfl, Nat.le_refl _, fun y z c h1 h2 => ?_, fun y hy => ?_, fun y c _ h => ?_, fun _ => hd, Around.frames_deeper e0.frames, .inr ⟨rfl, rfl⟩, fun b z => absurd z (noA b), e0.bs, e0.bsz, fun b _ _ => noA b, fun b z => absurd z (noA b), e0.funs, e0.frf⟩,
    rfl, e0.bare, Un.kept hk, ⟨_, x.toInCall.ns, fun i y v h1 h2 h3 => ?_⟩, fun y c h => ⟨_, x.cell y c h⟩, e0.hok.fresh (Nat.le_refl _), fun y c h => ?_, fun p hp => absurd (show p ∈ ([] : List (Addr × Obj)) from hp) (by simp), e0.hok.kept hk, ?_⟩
  · exact name_of_addr x.apart (PySem.mem_of_lookup h1) (PySem.mem_of_lookup h2)
  · have hy : scope.names.lookup y = some .cell ∨ scope.names.lookup y = some .free := hy
    rcases hy with hy | hy
    · exact cell_has hy
    · exact absurd rfl (S.nofree _ (PySem.mem_of_lookup hy))
  · exact Nat.le_of_lt (x.above y c (PySem.mem_of_lookup h))
  · have hi : i < vs.length := by
      unfold start at h2
      by_cases hi : i < vs.length
      · exact hi
      · rw [List.getElem?_append_right (by simpa using hi)] at h2
        rw [List.getElem?_replicate] at h2
        split at h2 <;> cases h2
    have ha : vs[i]? = some v := by
      unfold start at h2
      rw [List.getElem?_append_left (by simpa using hi), List.getElem?_map] at h2
      cases e : vs[i]? with
      | none => rw [e] at h2; cases h2
      | some a => rw [e] at h2; cases h2; rfl
    obtain ⟨u, hu, rv⟩ := r.get ha
    have hp : ps[i]? = some y := by
      rw [← S.pre, List.getElem?_take_of_lt (by omega)]; exact h1
    have ndP : ps.Nodup := by rw [← S.pre]; exact S.nd.sublist (List.take_sublist _ _)
    refine ⟨u, rv, ?_⟩
    rcases S.par y (List.mem_of_getElem? hp) with k | k
    · exact .inl ⟨k, bindL_get ndP hp hu k⟩
    · obtain ⟨c, e⟩ := cell_has (n := s.heap.objs.size + 1) k
      refine .inr ⟨.inl k, c, e, ?_⟩
      have q := x.cell y c e
      rw [bindC_get ndP hp hu (by show scope.names.lookup y ≠ _; rw [k]; decide)] at q
      exact q
  · exact e0.hok.fresh (Nat.le_of_lt (x.above y c (PySem.mem_of_lookup h)))
  · unfold start
    show _ = N.length
    rw [List.length_append, List.length_map, List.length_replicate]
    omega

/-- THE RULE: a def (or a method) of the text, by its body. The body's reading t is chosen for each entry; it is run at the parameters' values -/
theorem fn_of {CX : CXT} {P : Program} {w : World} {K : PySem.W.Frag} {mg : Str → Option Value} {base : Heap} {k : Nat} {f : Addr} {name qual : Str} {params : Arguments} {body : List Stmt} {scope : Scope} {dV kV doc pm cdv ct oc : Value} {an od : Option Addr}
    {osl : Array (Option Value)} {N ps : List Str} {sp : Sp} (lk : K.lookup f = some ⟨oc, od, .func (PySem.W.fnOf name qual params body scope dV kV doc pm an cdv ct), osl⟩) (hcd : PySem.W.codeIn K cdv qual = true) (S : FnScope N ps scope)
    (len : ∀ vs H Q E, sp vs H Q E → vs.length = ps.length)
    (hbody : ∀ (A : Around) (outer : List Env) (s : Shared) (H : Hp) (vs : List V) (Q : VK) (E : XK), Room k (A.deeper (envOfC qual scope s.heap.objs.size f cdv)) → sp vs H Q E →
      ∃ t, PSs (cxOf CX P w K mg base N qual scope f cdv A outer s H E) body t ∧ t { nx := fun _ H' => Q .non H', rt := Q } (start N vs) H) :
    FnOk P w K mg base CX (k + 1) f (PySem.W.fnOf name qual params body scope dV kV doc pm an cdv ct) ps sp := by
  refine ⟨len, fun A outer s H args us vs Q E hr e0 hb r hsp => ?_⟩
  have hl := len _ _ _ _ hsp
  have KX : K.In s.heap := e0.mod.kin.keeps fun b o e => (e0.bs b o e).1
  have lim : s.heap.NoLimit := e0.mod.nolimit.keeps fun b o e => (e0.bs b o e).1
  have hkind : ∀ y ∈ ps.zip us, scope.names.lookup y.1 = some .local ∨ (scope.names.lookup y.1 = some .cell ∧ ((cellsFrom (s.heap.objs.size + 1) scope.names []).lookup y.1).isSome = true) := fun ⟨n, v⟩ hy => by
    rcases S.par n (List.of_mem_zip hy).1 with q | q
    · exact .inl q
    · exact .inr ⟨q, PySem.W.cellsFrom_some _ _ _ (.inl q)⟩
  refine codeAny_call_function hr.depth (KX _ _ lk) rfl S.co S.gen rfl (PySem.W.codeRec_of KX hcd) (hb _ _ _ _ ?_)
  refine wpAny_newFunctionEnv_cells S.kind hkind fun env he s1 x => ?_
  subst he
  refine ⟨lim.keeps x.toInCall.keep, codeAny_func ?_⟩
  obtain ⟨t, ht, hq⟩ := hbody A outer s H vs Q E (hr.deeper _) hsp
  have I : Inv (cxOf CX P w K mg base N qual scope f cdv A outer s H E) [] (start N vs) H s1 := inv_start S hr.hd e0 hl r x
  refine wpAny_mono (ht [] s1 (start N vs) H _ I hq) (fun fl s' hs => ?_) fun e s' hs => hs
  have fin : ∀ {σ' : St} {H' : Hp} {v : V} {u : Value}, Inv (cxOf CX P w K mg base N qual scope f cdv A outer s H E) [] σ' H' s' → RelV v u → Q v H' → CE outer P w H s Q u s' :=
    fun {σ' H' v u} J rv q => ⟨v, H', J.os, J.bare, J.base, J.hok, rv, q⟩
  cases fl with
  | ret u =>
    obtain ⟨v, σ', H', J, rv, q⟩ := hs
    exact fin J rv q
  | next =>
    obtain ⟨σ', H', J, q⟩ := hs
    exact fin (v := V.non) (u := Value.none) J rfl q
  | brk =>
    obtain ⟨_, _, _, q⟩ := hs
    exact False.elim q
  | cont =>
    obtain ⟨_, _, _, q⟩ := hs
    exact False.elim q
end L2

namespace L2
open PySem PySem.Spec PyProof.Rows
section
variable {X : Cx} {x : Str} {p pos : Pos} {e : Expr} {es : List Expr} {t : TA} {id T : String} {r : List V → Hp → VK → Prop}

def tCB (r : List V → Hp → VK → Prop) (t : TA) : TE := fun σ H Q => t σ H fun vs H1 => r vs H1 Q
/-- f(e, ..), f a built-in function -/
theorem pe_callB (hc : CallR X (.builtin id) r) (hg : Gl X x) (hm : X.mg x = none) (hv : bootBuiltins x = some (.builtin id)) (ha : PA X (e :: es) t) (hn : x ≠ "__name__" := by decide) (hdb : (x == ("__debug__" : Str)) = false := by decide)
    (he : starEach (e :: es) X.env = (false, eval e X.env) :: starEach es X.env := by rfl) (hpl : (backTo pos (starEach es X.env)).any (·.1) = false := by rfl) : PE X (.Call (.Name x p) (e :: es) [] pos) (tCB r t) := by
  intro pins s σ H Q I h
  refine wpAny_Call_Name_kw (ld_blt I hg hm hv ?_ hn hdb)
  exact PyProof.Rows.callWith_builtin1 (thn (ha pos pins s σ H _ I h) fun us s1 ⟨vs, H1, I1, r1, q1⟩ => hc pins s1 σ H1 vs us Q I1 r1 q1) he hpl
/-- T(e, ..), T a built-in type -/
theorem pe_callTy (hc : CallR X (.type T) r) (hg : Gl X x) (hm : X.mg x = none) (hv : bootBuiltins x = some (.type T)) (ha : PA X (e :: es) t) (hn : x ≠ "__name__" := by decide) (hdb : (x == ("__debug__" : Str)) = false := by decide)
    (he : starEach (e :: es) X.env = (false, eval e X.env) :: starEach es X.env := by rfl) (hpl : (backTo pos (starEach es X.env)).any (·.1) = false := by rfl) : PE X (.Call (.Name x p) (e :: es) [] pos) (tCB r t) := by
  intro pins s σ H Q I h
  refine wpAny_Call_Name_kw (ld_blt I hg hm hv ?_ hn hdb)
  exact PyProof.Rows.callWith_type1 (thn (ha pos pins s σ H _ I h) fun us s1 ⟨vs, H1, I1, r1, q1⟩ => hc pins s1 σ H1 vs us Q I1 r1 q1) he hpl
/-- T() -/
theorem pe_callTy0 (hc : CallR X (.type T) r) (hg : Gl X x) (hm : X.mg x = none) (hv : bootBuiltins x = some (.type T)) (hn : x ≠ "__name__" := by decide) (hdb : (x == ("__debug__" : Str)) = false := by decide) :
    PE X (.Call (.Name x p) [] [] pos) (tCB r tNil) := by
  intro pins s σ H Q I h
  refine wpAny_Call_Name_kw (ld_blt I hg hm hv ?_ hn hdb)
  exact PyProof.Rows.callWith_type0 (hc pins s σ H [] [] Q I .nil h)
end
end L2

namespace HT
open PySem PyProof.Rows

/-- t < u of tuples of ints -/
def lexLt : List Int → List Int → Bool
  | [], [] => false
  | [], _ :: _ => true
  | _ :: _, [] => false
  | x :: xs, y :: ys => if x = y then lexLt xs ys else decide (x < y)
theorem lexLt_cons (x y : Int) (xs ys : List Int) : lexLt (x :: xs) (y :: ys) = if x = y then lexLt xs ys else decide (x < y) := rfl
theorem lexLt_nil_nil : lexLt [] [] = false := rfl
theorem lexLt_nil_cons (y : Int) (ys : List Int) : lexLt [] (y :: ys) = true := rfl
theorem lexLt_cons_nil (x : Int) (xs : List Int) : lexLt (x :: xs) [] = false := rfl

theorem eqAt_int (A : Around) (s : Shared) (a : Int) (t : Tok) (c : Int) (u : Tok) : ∃ e, SeqAt.EqAt A s (.int a t) (.int c u) e ∧ (e = true ↔ a = c) :=
  ⟨(a == c), SeqAt.EqAt.int_int a t c u, by simp⟩
theorem rcLt_int (A : Around) (s : Shared) (a : Int) (t : Tok) (c : Int) (u : Tok) (prog : Program) (w : World) (E : Value → Shared → Prop) (Q : Value → Shared → Prop) (h : Q (.bool (decide (a < c))) s) :
    wpAny (model prog w) A (richCompare .Lt (.int a t) (.int c u)) Q E s :=
  (PyProof.Rows.lt_int h : wpAny (model prog w) A (compareOp .Lt (.int a t) (.int c u)) Q E s)

section
open PySem.SeqAt
open PySem.AutoSeq1 (wpAny_loadPart')
open PySem.MeetsSeq PySem.MeetsSeq2 PySem.MeetsSeq3

theorem tuple_lt_ints (l b : Addr) (items items2 : Array Value) (n n2 : Nat) (dd dd2 : Option Addr) (sl sl2 : Array (Option Value)) (ns ms : List Int) (hi : IntsAre items.toList ns) (hj : IntsAre items2.toList ms) :
    Meets (Builtin.«tuple.__lt__» ⟨[.ref l, .ref b], []⟩)
      (fun _ R s => s.heap.get? l = some { cls := .type "tuple", dict := dd, data := .seq items n, slots := sl } ∧ s.heap.get? b = some { cls := .type "tuple", dict := dd2, data := .seq items2 n2, slots := sl2 } ∧
        R (.ok (.ret (.bool (lexLt ns ms)))) s) :=
  .of_wp fun prog w A R s h => by
    obtain ⟨hp, g, d, tk, os⟩ := s; obtain ⟨hl, hb, h⟩ := h
    have f2 := AutoSeq1.sub_tuple_tuple
    have z1 : items.size = ns.length := by rw [← hi.length]; simp
    have z2 : items2.size = ms.length := by rw [← hj.length]; simp
    wp_walk using wpAny_loadPart' hl, wpAny_loadPart' hb, wpAny_forIn_list _ (fun rest b s' => b.1 = none ∧ s' = ⟨hp, g, d, tk, os⟩ ∧ ∃ (vs ws : List Value) (ns' ms' : List Int), rest = vs.zip ws ∧
      IntsAre vs ns' ∧ IntsAre ws ms' ∧ ns'.length + items2.size = ms'.length + items.size ∧ R (.ok (.ret (.bool (lexLt ns' ms')))) ⟨hp, g, d, tk, os⟩) _
    case turn =>
      rintro ⟨y, x⟩ rest b s' ⟨hb', rfl, vs, ws, ns', ms', hz, hvi, hwi, hlen, hR⟩
      cases hvi with
      | nil => rw [List.zip_nil_left] at hz; cases hz
      | cons a t hvi' =>
        cases hwi with
        | nil => rw [List.zip_nil_right] at hz; cases hz
        | cons c u hwi' =>
          rw [List.zip_cons_cons] at hz
          injection hz with hyx hrest
          injection hyx with hy hx
          subst hy hx
          rw [lexLt_cons] at hR
          simp only [List.length_cons] at hlen
          obtain ⟨e, he, hiff⟩ := eqAt_int A.in1 ⟨hp, g, d, tk, os⟩ a t c u
          refine wpAny_bind (he prog w _ _ ?_)
          cases e with
          | true =>
            rw [if_pos (hiff.mp rfl)] at hR
            wp_walk
            exact ⟨rfl, rfl, _, _, _, _, hrest, hvi', hwi', by omega, hR⟩
          | false =>
            rw [if_neg (fun q => absurd (hiff.mpr q) Bool.false_ne_true)] at hR
            have hri := rcLt_int A.in1 ⟨hp, g, d, tk, os⟩ a t c u prog w
            wp_walk using hri
            exact ⟨_, rfl, by simpa using hR⟩
    case fin =>
      rintro ⟨b1, b2⟩ s' ⟨hb', rfl, vs, ws, ns', ms', hz, hvi, hwi, hlen, hR⟩
      simp only at hb'
      subst hb'
      have hv : lexLt ns' ms' = decide (items.size < items2.size) := by
        cases hvi with
        | nil =>
          cases hwi with
          | nil =>
            simp only [List.length_nil] at hlen
            rw [lexLt_nil_nil]
            exact (decide_eq_false (by omega)).symm
          | cons c u hw =>
            simp only [List.length_nil, List.length_cons] at hlen
            rw [lexLt_nil_cons]
            exact (decide_eq_true (by omega)).symm
        | cons a t hv =>
          cases hwi with
          | nil =>
            simp only [List.length_nil, List.length_cons] at hlen
            rw [lexLt_cons_nil]
            exact (decide_eq_false (by omega)).symm
          | cons c u hw =>
            rw [List.zip_cons_cons] at hz
            cases hz
      rw [hv] at hR
      wp_walk
      exact ⟨_, rfl, by simpa [Builtin.Tuple.tupleCompareSizes] using hR⟩
    case h =>
      exact ⟨rfl, rfl, items.toList, items2.toList, ns, ms, rfl, hi, hj, by omega, h⟩
end

section
variable {prog : Program} {w : World} {A : Around} {E : Value → Shared → Prop} {s : Shared}

theorem lt_tupInts {l b : Addr} {items items2 : Array Value} {ns ms : List Int} {Q : Value → Shared → Prop} (hl : IsTup s.heap l items) (hb : IsTup s.heap b items2) (hi : IntsAre items.toList ns) (hj : IntsAre items2.toList ms)
    (hu : A.units < cLine) (h : Q (.bool (lexLt ns ms)) s) : wpAny (model prog w) A (compareOp .Lt (.ref l) (.ref b)) Q E s := by
  obtain ⟨⟨cls, dd, data, sl⟩, ho, hc, n, hd⟩ := id hl
  obtain ⟨⟨cls2, dd2, data2, sl2⟩, ho2, hc2, n2, hd2⟩ := id hb
  simp only at hc hd hc2 hd2
  subst hc hd hc2 hd2
  exact richCompare_meets_room (op := .Lt) ⟨_, ho, rfl⟩ ⟨_, ho2, rfl⟩ PySem.F.slot_tuple_lt PySem.F.entry_tuple_lt (PySem.F.args_tuple_lt_2 _ _) (tuple_lt_ints l b items items2 n n2 dd dd2 sl sl2 ns ms hi hj)
    ⟨ho, ho2, show Value.bool (lexLt ns ms) ≠ Value.notImplemented ∧ Q (.bool (lexLt ns ms)) s from ⟨(fun x => nomatch x), h⟩⟩ hu

/-- t + u, t not empty -/
theorem cat_tup {t b : Addr} {vs ws : List Value} {Q : Value → Shared → Prop} (ht : IsTup s.heap t vs.toArray) (hb : IsTup s.heap b ws.toArray) (hv : vs ≠ [])
    (h1 : ws = [] → Q (.ref t) s) (h2 : ws ≠ [] → Q (.ref s.heap.objs.size) { s with heap := s.heap.push { cls := .type "tuple", data := .seq (vs ++ ws).toArray } })
    (hsz : vs.length + ws.length ≤ sizeLine) : wpAny (model prog w) A (binaryOp .Add (.ref t) (.ref b)) Q E s := by
  obtain ⟨⟨cls, dd, data, sl⟩, ho, hc, n, hd⟩ := id ht
  obtain ⟨⟨cls2, dd2, data2, sl2⟩, ho2, hc2, n2, hd2⟩ := id hb
  simp only at hc hd hc2 hd2
  subst hc hd hc2 hd2
  have e : vs.toArray ++ ws.toArray = (vs ++ ws).toArray := by simp
  by_cases hw : ws = []
  · exact concat_meets ⟨_, ho, rfl⟩ ⟨_, ho2, rfl⟩ noFill_tuple_add seq_tuple_add PySem.F.slot_tuple_add PySem.F.entry_tuple_add (PySem.F.args_tuple_add_2 _ _)
      (tuple_addW1 t b vs.toArray ws.toArray n n2 dd dd2 sl sl2 (by simpa using hv) (by simp [hw])) ⟨ho, ho2, h1 hw⟩
  · refine concat_meets ⟨_, ho, rfl⟩ ⟨_, ho2, rfl⟩ noFill_tuple_add seq_tuple_add PySem.F.slot_tuple_add PySem.F.entry_tuple_add (PySem.F.args_tuple_add_2 _ _)
      (tuple_addW2 t b vs.toArray ws.toArray n n2 dd dd2 sl sl2 (by simpa using hv) (by simpa using hw) (by rw [List.size_toArray, List.size_toArray]; exact hsz)) ⟨ho, ho2, ?_⟩
    rw [e]
    exact h2 hw

/-! ### t[a:b], not the whole -/
/-- a slice's bound as a place among n (d where it is left out) -/
def sIx (n d : Nat) : Option Int → Nat
  | none => d
  | some v => if v < 0 then (v + (n : Int)).toNat else min v.toNat n
theorem sIx_none (n d : Nat) : sIx n d none = d := rfl
theorem sIx_nat (n d k : Nat) : sIx n d (some (k : Int)) = min k n := by
  show (if (k : Int) < 0 then ((k : Int) + (n : Int)).toNat else min (k : Int).toNat n) = min k n
  rw [if_neg (by omega), Int.toNat_natCast]
theorem sIx_le (n d : Nat) (hd : d ≤ n) (o : Option Int) : sIx n d o ≤ n := by
  cases o with
  | none => exact hd
  | some v =>
    show (if v < 0 then (v + (n : Int)).toNat else min v.toNat n) ≤ n
    by_cases hv : v < 0
    · rw [if_pos hv]; omega
    · rw [if_neg hv]; exact Nat.min_le_right _ _
theorem clip_eq (v : Int) (n d : Nat) : (if v < 0 then max (v + (n : Int)) 0 else min v (n : Int)) = ((sIx n d (some v) : Nat) : Int) := by
  show (if v < 0 then max (v + (n : Int)) 0 else min v (n : Int)) = (((if v < 0 then (v + (n : Int)).toNat else min v.toNat n) : Nat) : Int)
  by_cases hv : v < 0
  · simp only [if_pos hv]; omega
  · simp only [if_neg hv]; omega
theorem adjust_gen (lo hi : Option Int) (n : Nat) : Builtin.Slice.sliceAdjust lo hi 1 (n : Int) = (((sIx n 0 lo : Nat) : Int), ((sIx n n hi : Nat) : Int)) := by
  have h1 : ¬ ((1 : Int) < 0) := by omega
  unfold Builtin.Slice.sliceAdjust
  simp only [h1, if_false]
  refine Prod.ext ?_ ?_
  · cases lo with
    | none => rfl
    | some v => exact clip_eq v n 0
  · cases hi with
    | none => rfl
    | some v => exact clip_eq v n n
theorem places_gen (i j : Nat) : Builtin.Slice.slicePlaces (i : Int) (j : Int) 1 = j - i := by
  unfold Builtin.Slice.slicePlaces
  have h1 : (1 : Int) > 0 := by omega
  simp only [h1, if_true, Int.ediv_one]
  split <;> omega
theorem slicePart_ {v : Value} {o : Option Int} {Q : Option Int → Shared → Prop} (p : IsPart v o) (h : Q o s) : wpAny (model prog w) A (Builtin.Slice.slicePartIndex v) Q E s := by
  cases p with
  | none => exact slicePart_none h
  | int i t => exact slicePart_int h
theorem sliceApplied_gen {sl : Addr} {vl vu : Value} {lo hi : Option Int} {n : Nat} {Q : Int × Int × Nat → Shared → Prop} (hs : s.heap.IsSliceOf sl vl vu .none) (pl : IsPart vl lo) (pu : IsPart vu hi)
    (h : Q (((sIx n 0 lo : Nat) : Int), 1, sIx n n hi - sIx n 0 lo) s) : wpAny (model prog w) A (Builtin.Slice.sliceApplied (.ref sl) (pure (n : Int))) Q E s := by
  obtain ⟨os, hos, hcs, hds⟩ := id hs
  unfold Builtin.Slice.sliceApplied Builtin.Slice.sliceFields
  refine wpAny_bind (wpAny_bind (wpAny_field hos hds (x := vl) rfl (wpAny_bind (wpAny_field hos hds (x := vu) rfl (wpAny_bind (wpAny_field hos hds (x := .none) rfl (wpAny_pure ?_)))))))
  refine wpAny_bind (slicePart_none ?_)
  show wpAny _ _ (if ((1 : Int) == 0) = true then _ else _) _ _ s
  rw [if_neg (by decide)]
  refine wpAny_bind (slicePart_ pl (wpAny_bind (slicePart_ pu (wpAny_bind (wpAny_pure ?_)))))
  show wpAny _ _ (match Builtin.Slice.sliceAdjust lo hi 1 (n : Int) with | (lo, hi) => pure (lo, (1 : Int), Builtin.Slice.slicePlaces lo hi 1)) _ _ s
  rw [adjust_gen lo hi n]
  show wpAny _ _ (pure (((sIx n 0 lo : Nat) : Int), (1 : Int), Builtin.Slice.slicePlaces ((sIx n 0 lo : Nat) : Int) ((sIx n n hi : Nat) : Int) 1)) _ _ s
  rw [places_gen]
  exact wpAny_pure h
theorem pick_gen (xs : Array Value) (i k : Nat) : ((List.range k).filterMap fun (m : Nat) => xs[((i : Int) + (m : Int) * 1).toNat]?).toArray = ((xs.toList.drop i).take k).toArray := by
  have e : (fun (m : Nat) => xs[((i : Int) + (m : Int) * 1).toNat]?) = fun m => xs[i + m]? := by
    funext m
    have : ((i : Int) + (m : Int) * 1).toNat = i + m := by omega
    rw [this]
  rw [e]
  have := pick_run xs i k
  rw [List.filterMap_map] at this
  have e2 : ((fun x => xs[x]?) ∘ fun x => i + x) = fun m => xs[i + m]? := rfl
  rw [e2] at this
  rw [this]

theorem getItem_tuple_cut {t sl : Addr} {items : Array Value} {vl vu : Value} {lo hi : Option Int} {Q : Value → Shared → Prop} (ht : IsTup s.heap t items) (hs : s.heap.IsSliceOf sl vl vu .none) (pl : IsPart vl lo) (pu : IsPart vu hi)
    (hw : ¬ (sIx items.size 0 lo = 0 ∧ sIx items.size items.size hi = items.size))
    (h : Q (.ref s.heap.objs.size) { s with heap := s.heap.push { cls := .type "tuple", data := .seq ((items.toList.drop (sIx items.size 0 lo)).take (sIx items.size items.size hi - sIx items.size 0 lo)).toArray } })
    (hsz : items.size ≤ sizeLine) : wpAny (model prog w) A (getItem (.ref t) (.ref sl)) Q E s := by
  have htake : sizeOk (.seq ((items.toList.drop (sIx items.size 0 lo)).take (sIx items.size items.size hi - sIx items.size 0 lo)).toArray) := by
    show ((items.toList.drop (sIx items.size 0 lo)).take (sIx items.size items.size hi - sIx items.size 0 lo)).toArray.size ≤ sizeLine
    rw [List.size_toArray, List.length_take, List.length_drop, Array.length_toList]
    omega
  have hj : sIx items.size items.size hi ≤ items.size := sIx_le _ _ (Nat.le_refl _) hi
  obtain ⟨os, hos, hcs, hds⟩ := id hs
  have hTs : s.TypeIs (.ref sl) "slice" := ⟨os, hos, hcs⟩
  unfold getItem
  try with_reducible refine wpAny_holding ?_
  first | refine wpAny_bind (wpAny_pure ?_) | skip
  refine wpAny_bind (wpAny_sequenceKey ht.typeIs (by decide) ?_)
  refine wpAny_bind (wpAny_callSpecial?_slot (name := Str.ofString "__getitem__") ht.typeIs PyProof.Rows.slot_tuple_getitem
    (wpAny_call_entry PyProof.Rows.slot_tuple_getitem ht.typeIs entry_tuple_getitem ?_ (args_tuple_getitem _ _)))
  show wpAny _ _ (Builtin.Tuple.tupleItemsOf (.ref t) >>= _) _ _ s
  refine wpAny_bind (tupleItemsOf_ ht ?_)
  refine wpAny_bind (wpAny_typeOf hTs ?_)
  rw [if_pos (by decide)]
  refine wpAny_bind (sliceApplied_gen hs pl pu ?_)
  have hno : ¬ ((((sIx items.size 0 lo : Nat) : Int) == 0 && (1 : Int) == 1 && (sIx items.size items.size hi - sIx items.size 0 lo) == items.size) = true) := by
    intro q
    rw [Bool.and_eq_true, Bool.and_eq_true] at q
    have q1 : ((sIx items.size 0 lo : Nat) : Int) = 0 := eq_of_beq q.1.1
    have q2 : sIx items.size items.size hi - sIx items.size 0 lo = items.size := eq_of_beq q.2
    exact hw ⟨by omega, by omega⟩
  show wpAny _ _ (if (((sIx items.size 0 lo : Nat) : Int) == 0 && (1 : Int) == 1 && (sIx items.size items.size hi - sIx items.size 0 lo) == items.size) = true then _ else _) _ _ s
  rw [if_neg hno, pick_gen]
  first
    | exact wpAny_bind (m := Builtin.Tuple.tupleExact _) (wpAny_newObj_type (wpAny_pure ⟨_, rfl, wpAny_pure h⟩) htake)
    | exact wpAny_bind (m := Builtin.Tuple.tupleExact _) (wpAny_newObj_type (wpAny_bind (wpAny_pure (wpAny_pure ⟨_, rfl, wpAny_pure h⟩))) htake)
    | exact wpAny_bind (wpAny_bind (m := Builtin.Tuple.tupleExact _) (wpAny_newObj_type (wpAny_pure (wpAny_pure ⟨_, rfl, wpAny_pure h⟩)) htake))
    | exact wpAny_bind (wpAny_bind (m := Builtin.Tuple.tupleExact _) (wpAny_newObj_type (wpAny_pure ⟨_, rfl, wpAny_pure h⟩) htake))
end
end HT

namespace L2
open PySem PySem.Spec PyProof.Rows

/-! ### the parts of a slice -/
abbrev TO := St → Hp → (Option Int → Hp → Prop) → Prop
/-- a slice's part (left out, or an int) -/
def PO (X : Cx) (e : Option Expr) (t : TO) : Prop :=
  ∀ (pins : List (Addr × Obj)) (s : Shared) (σ : St) (H : Hp) (Q : Option Int → Hp → Prop), Inv X pins σ H s → t σ H Q →
    wpAny (model X.prog X.w) X.A (evalPart e X.env) (fun u s' => ∃ o H', Inv X pins σ H' s' ∧ IsPart u o ∧ Q o H') X.xe s
def tNoPart : TO := fun _ H Q => Q none H
def tPart (t : TE) : TO := fun σ H Q => t σ H fun x H1 => ∃ i, x = .int i ∧ Q (some i) H1

theorem intsAre_of {ns : List Int} : ∀ {us : List Value}, Vals (ns.map V.int) us → IntsAre us ns := by
  induction ns with
  | nil => intro us r; rw [List.map_nil] at r; cases r; exact .nil
  | cons n ns ih =>
    intro us r
    rw [List.map_cons] at r
    cases r with
    | cons r1 r2 =>
      obtain ⟨t, e⟩ := r1
      subst e
      exact .cons n t (ih r2)

section
variable {X : Cx} {e : Expr} {te : TE} {lo hi : Option Expr} {tl th : TO} {pos p2 : Pos}

theorem po_none : PO X none tNoPart := by
  intro pins s σ H Q I h
  rw [evalPart_none]
  exact wpAny_pure ⟨none, H, I, .none, h⟩
theorem po_some (h : PE X e te) : PO X (some e) (tPart te) := by
  intro pins s σ H Q I hw
  rw [evalPart_some]
  refine thn (h pins s σ H _ I hw) fun u s1 ⟨x, H1, I1, r1, q1⟩ => ?_
  obtain ⟨i, rfl, q⟩ := q1
  obtain ⟨t, rfl⟩ := r1
  exact ⟨some i, H1, I1, .int i t, q⟩

/-- what a slice of a value is, by values: the slice object stands at sl -/
def SlR (X : Cx) (r : V → Option Int → Option Int → Hp → VK → Prop) : Prop :=
  ∀ (pins : List (Addr × Obj)) (s : Shared) (σ : St) (H : Hp) (x : V) (v vl vu : Value) (lo hi : Option Int) (sl : Addr) (Q : VK), Inv X pins σ H s → RelV x v → s.heap.IsSliceOf sl vl vu .none → IsPart vl lo → IsPart vu hi → r x lo hi H Q →
    ∃ T id, typeLookup (.type T) "__getitem__" = pure (some (.builtin id)) ∧ s.TypeIs v T ∧ wpAny (model X.prog X.w) X.A (getItem v (.ref sl)) (EP X pins σ Q) X.xe s
theorem SlR.or {r r' : V → Option Int → Option Int → Hp → VK → Prop} (h : SlR X r) (h' : SlR X r') : SlR X (fun x lo hi H Q => r x lo hi H Q ∨ r' x lo hi H Q) := by
  intro pins s σ H x v vl vu lo hi sl Q I rx hs pl pu q
  rcases q with q | q
  · exact h pins s σ H x v vl vu lo hi sl Q I rx hs pl pu q
  · exact h' pins s σ H x v vl vu lo hi sl Q I rx hs pl pu q
def tSl (r : V → Option Int → Option Int → Hp → VK → Prop) (te : TE) (tl th : TO) : TE := fun σ H Q => te σ H fun x H1 => tl σ H1 fun l H2 => th σ H2 fun u H3 => r x l u H3 Q
/-- a[lo:hi], any a -/
theorem pe_slice {r : V → Option Int → Option Int → Hp → VK → Prop} (hr : SlR X r) (he : PE X e te) (hl : PO X lo tl) (hu : PO X hi th) : PE X (.Subscript e (.Slice lo hi none p2) pos) (tSl r te tl th) := by
  intro pins s σ H Q I h
  refine Subscript_ (thn (he pins s σ H _ I h) fun v s1 ⟨x, H1, I1, r1, q1⟩ => ?_)
  refine wpAny_Slice (thn (hl pins s1 σ H1 _ I1 q1) fun vl s2 ⟨l, H2, I2, pl, q2⟩ => thn (hu pins s2 σ H2 _ I2 q2) fun vu s3 ⟨u, H3, I3, pu, q3⟩ => ?_)
  rw [evalPart_none]
  refine wpAny_pure ?_
  have I4 : Inv X pins σ H3 { s3 with heap := s3.heap.push { cls := .type "slice", data := .fields #[vl, vu, .none] } } := I3.kept (t' := s3.toks) fun b ob q => Heap.get?_push_of_some _ q
  obtain ⟨T, id, hT, ht, hg⟩ := hr pins { s3 with heap := s3.heap.push { cls := .type "slice", data := .fields #[vl, vu, .none] } } σ H3 x v vl vu l u s3.heap.objs.size Q I4 r1 (Heap.IsSliceOf.new ..) pl pu q3
  show wpAny (model X.prog X.w) X.A (subscriptTail e (.Slice lo hi none p2) v (.ref s3.heap.objs.size)) (EP X pins σ Q) X.xe { s3 with heap := s3.heap.push { cls := .type "slice", data := .fields #[vl, vu, .none] } }
  exact tail_any (ops := [.ref s3.heap.objs.size, v]) ht hT hg (by with_unfolding_all rfl)

/-- the items of xs[lo:hi] -/
def cutV (xs : List V) (lo hi : Option Int) : List V := (xs.drop (HT.sIx xs.length 0 lo)).take (HT.sIx xs.length xs.length hi - HT.sIx xs.length 0 lo)
theorem cutV_length (xs : List V) (lo hi : Option Int) : (cutV xs lo hi).length ≤ xs.length := by
  unfold cutV
  rw [List.length_take, List.length_drop]
  omega
/-- t[lo:hi], not the whole of it (the whole would be t itself) -/
def rSlT (K : PySem.W.Frag) : V → Option Int → Option Int → Hp → VK → Prop := fun x lo hi H Q => ∃ a xs, x = .ref a ∧ SqT K H a xs ∧
  ¬ (HT.sIx xs.length 0 lo = 0 ∧ HT.sIx xs.length xs.length hi = xs.length) ∧ ∀ p, H p = none → Q (.ref p) (upd H p (.tup (cutV xs lo hi)))
theorem sl_tup : SlR X (rSlT X.K) := by
  intro pins s σ H x v vl vu lo hi sl Q I rx hs pl pu h
  obtain ⟨a, xs, rfl, hx, hw, q⟩ := h
  cases rx
  obtain ⟨its, r, ht, hz⟩ := I.tuple hx
  have hlen : its.toArray.size = xs.length := by rw [List.size_toArray]; exact r.length.symm
  refine ⟨"tuple", _, PyProof.Rows.slot_tuple_getitem.lookup, ht.typeIs, ?_⟩
  refine HT.getItem_tuple_cut ht hs pl pu (by rw [hlen]; exact hw) ?_ (by rw [hlen]; exact hz)
  rw [hlen]
  refine ⟨.ref s.heap.objs.size, _, I.laid (t' := s.toks) (o := .tup (cutV xs lo hi)) (fun b ob q => Heap.get?_push_of_some _ q) (Nat.le_refl _) ?_, rfl, q _ (I.hok.fresh (Nat.le_refl _))⟩
  exact ⟨Nat.le_trans (cutV_length xs lo hi) hz, _, (r.drop (HT.sIx xs.length 0 lo)).take (HT.sIx xs.length xs.length hi - HT.sIx xs.length 0 lo), IsTup.new _ _⟩

/-! ### t < u, t + u -/
def rLtT (K : PySem.W.Frag) : R2 := fun x y H Q => ∃ a b ns ms, x = .ref a ∧ y = .ref b ∧ SqT K H a (ns.map V.int) ∧ SqT K H b (ms.map V.int) ∧ Q (.bl (HT.lexLt ns ms)) H
theorem op_ltT (hu : X.A.units < cLine) : OpR X (compareOp .Lt) (rLtT X.K) := by
  intro pins s σ H x y v u Q I rx ry h
  obtain ⟨a, b, ns, ms, rfl, rfl, ha, hb, q⟩ := h
  cases rx
  cases ry
  obtain ⟨its, r1, p1, _⟩ := I.tuple ha
  obtain ⟨its2, r2, p2, _⟩ := I.tuple hb
  have i1 : IntsAre its.toArray.toList ns := intsAre_of r1
  have i2 : IntsAre its2.toArray.toList ms := intsAre_of r2
  exact HT.lt_tupInts p1 p2 i1 i2 hu ⟨.bl (HT.lexLt ns ms), H, I, rfl, q⟩
/-- t + u, t not empty: u empty gives t itself -/
def rCatT (K : PySem.W.Frag) : R2 := fun x y H Q => ∃ a b xs ys, x = .ref a ∧ y = .ref b ∧ SqT K H a xs ∧ SqT K H b ys ∧ xs ≠ [] ∧ xs.length + ys.length ≤ sizeLine ∧
  (ys = [] → Q (.ref a) H) ∧ (ys ≠ [] → ∀ p, H p = none → Q (.ref p) (upd H p (.tup (xs ++ ys))))
theorem Vals.nil_iff {xs : List V} {us : List Value} (r : Vals xs us) : us = [] ↔ xs = [] := by
  cases r with
  | nil => simp
  | cons _ _ => simp
theorem op_catT : OpR X (binaryOp .Add) (rCatT X.K) := by
  intro pins s σ H x y v u Q I rx ry h
  obtain ⟨a, b, xs, ys, rfl, rfl, ha, hb, hx, hz, q1, q2⟩ := h
  cases rx
  cases ry
  obtain ⟨its, r1, p1, _⟩ := I.tuple ha
  obtain ⟨its2, r2, p2, _⟩ := I.tuple hb
  refine HT.cat_tup p1 p2 (fun z => hx (r1.nil_iff.mp z)) (fun z => ⟨.ref a, H, I, rfl, q1 (r2.nil_iff.mp z)⟩) (fun z => ?_) (by rw [← r1.length, ← r2.length]; exact hz)
  refine ⟨.ref s.heap.objs.size, _, I.laid (t' := s.toks) (o := .tup (xs ++ ys)) (fun b ob q => Heap.get?_push_of_some _ q) (Nat.le_refl _) ?_, rfl, q2 (fun w => z (r2.nil_iff.mpr w)) _ (I.hok.fresh (Nat.le_refl _))⟩
  exact ⟨by rw [List.length_append]; exact hz, _, r1.append r2, IsTup.new _ _⟩
/-- tuple(t) -/
theorem call_tupleT : CallR X (.type "tuple") (fun xs H Q => ∃ a ys, xs = [.ref a] ∧ SqT X.K H a ys ∧ Q (.ref a) H) := by
  intro pins s σ H xs us Q I r h
  obtain ⟨a, ys, rfl, ha, q⟩ := h
  obtain ⟨u, rfl, ru⟩ := vals1 r
  cases ru
  obtain ⟨its, _, p1, _⟩ := I.tuple ha
  exact call_tuple_same (items := its.toArray) p1 ⟨.ref a, H, I, rfl, q⟩
end
end L2

namespace L2
open PySem PySem.Spec PyProof.Rows

/-! ### places -/
/-- the place that an index of any sign means -/
def ixN (n : Nat) (i : Int) : Option Nat := if 0 ≤ i then (if i < n then some i.toNat else none) else if -(n : Int) ≤ i then some (i + n).toNat else none
def atI {α : Type} (xs : List α) (i : Int) : Option α := (ixN xs.length i).bind fun j => xs[j]?
theorem ixN_seq {n : Nat} {i : Int} {j : Nat} (h : ixN n i = some j) : seqIndex? i n = some j ∧ j < n ∧ -(n : Int) ≤ i ∧ i < n := by
  unfold ixN at h
  by_cases h0 : 0 ≤ i
  · rw [if_pos h0] at h
    by_cases h1 : i < n
    · rw [if_pos h1] at h
      have e : i.toNat = j := Option.some.inj h
      exact ⟨by rw [seqIndex_of h0 h1, e], by omega, by omega, h1⟩
    · rw [if_neg h1] at h; cases h
  · rw [if_neg h0] at h
    by_cases h1 : -(n : Int) ≤ i
    · rw [if_pos h1] at h
      have e : (i + n).toNat = j := Option.some.inj h
      exact ⟨by rw [seqIndex_neg (by omega) h1, e], by omega, h1, by omega⟩
    · rw [if_neg h1] at h; cases h
theorem atI_get {α : Type} {xs : List α} {i : Int} {v : α} (h : atI xs i = some v) : ∃ j, seqIndex? i xs.length = some j ∧ xs[j]? = some v ∧ j < xs.length ∧ -(xs.length : Int) ≤ i ∧ i < xs.length := by
  unfold atI at h
  cases e : ixN xs.length i with
  | none => rw [e] at h; cases h
  | some j =>
    rw [e] at h
    obtain ⟨h1, h2, h3, h4⟩ := ixN_seq e
    exact ⟨j, h1, h, h2, h3, h4⟩
theorem atI_nat {α : Type} {xs : List α} {j : Nat} {v : α} (h : xs[j]? = some v) : atI xs (j : Int) = some v := by
  have hj : j < xs.length := (List.getElem?_eq_some_iff.mp h).1
  have e : ixN xs.length (j : Int) = some j := by
    unfold ixN
    rw [if_pos (by omega), if_pos (by omega)]; simp
  unfold atI; rw [e]; exact h
theorem atI_last {α : Type} (xs : List α) (v : α) : atI (xs ++ [v]) (-1) = some v := by
  have hl : (xs ++ [v]).length = xs.length + 1 := by simp
  have e : ixN (xs ++ [v]).length (-1) = some xs.length := by
    unfold ixN
    rw [hl, if_neg (by decide), if_pos (by omega)]
    congr 1
    omega
  unfold atI
  rw [e]
  show (xs ++ [v])[xs.length]? = some v
  simp

/-! ### what may be subscripted -/
/-- what stands as an index of a plain subscript -/
def PlainIx (b : Expr) : Prop := ∀ o i, subscripted b false o i = operate [o, i] (getItem o i)
/-- a subscript by values -/
def IxR (X : Cx) (r : R2) : Prop :=
  ∀ (value slice : Expr) (pins : List (Addr × Obj)) (s : Shared) (σ : St) (H : Hp) (x y : V) (v u : Value) (Q : VK), Inv X pins σ H s → RelV x v → RelV y u → r x y H Q →
    subscripted slice false v u = operate [v, u] (getItem v u) → wpAny (model X.prog X.w) X.A (subscriptTail value slice v u) (EP X pins σ Q) X.xe s
/-- a call of a builtin's method by values: the receiver, the arguments -/
def MtR (X : Cx) (id : String) (r : V → List V → Hp → VK → Prop) : Prop :=
  ∀ (pins : List (Addr × Obj)) (s : Shared) (σ : St) (H : Hp) (x : V) (xs : List V) (v : Value) (us : List Value) (Q : VK), Inv X pins σ H s → RelV x v → Vals xs us → r x xs H Q →
    wpAny (model X.prog X.w) X.A (call (.builtin id) (v :: us)) (EP X pins σ Q) X.xe s
section
variable {X : Cx} {a b : Expr} {ta tb : TE} {pos : Pos}
theorem IxR.or {r r' : R2} (h : IxR X r) (h' : IxR X r') : IxR X (fun x y H Q => r x y H Q ∨ r' x y H Q) := by
  intro value slice pins s σ H x y v u Q I rx ry q hs
  rcases q with q | q
  · exact h value slice pins s σ H x y v u Q I rx ry q hs
  · exact h' value slice pins s σ H x y v u Q I rx ry q hs
theorem MtR.or {id : String} {r r' : V → List V → Hp → VK → Prop} (h : MtR X id r) (h' : MtR X id r') : MtR X id (fun x xs H Q => r x xs H Q ∨ r' x xs H Q) := by
  intro pins s σ H x xs v us Q I rx rs q
  rcases q with q | q
  · exact h pins s σ H x xs v us Q I rx rs q
  · exact h' pins s σ H x xs v us Q I rx rs q
/-- a[b] -/
theorem pe_ix {r : R2} (hr : IxR X r) (ha : PE X a ta) (hb : PE X b tb) (hs : PlainIx b) : PE X (.Subscript a b pos) (tOp r ta tb) := by
  intro pins s σ H Q I h
  exact Subscript_ (binT ha hb I h fun v u s2 x y H2 I2 rx ry q => hr a b pins s2 σ H2 x y v u Q I2 rx ry q (hs _ _))

def rIxL (K : PySem.W.Frag) : R2 := fun x y H Q => ∃ p xs i v, x = .ref p ∧ y = .int i ∧ SqL K H p xs ∧ atI xs i = some v ∧ Q v H
def rIxT (K : PySem.W.Frag) : R2 := fun x y H Q => ∃ p xs i v, x = .ref p ∧ y = .int i ∧ SqT K H p xs ∧ atI xs i = some v ∧ Q v H
def rIxS : R2 := fun x y H Q => ∃ z i c, x = .str z ∧ y = .int i ∧ z.length ≤ sizeLine ∧ atI z.cps.toList i = some c ∧ Q (.str ⟨#[c]⟩) H
theorem ix_list : IxR X (rIxL X.K) := by
  intro value slice pins s σ H x y v u Q I rx ry h hs
  obtain ⟨p, xs, i, z, rfl, rfl, hq, he, q⟩ := h
  cases rx
  obtain ⟨t, rfl⟩ := ry
  obtain ⟨its, r, pl, hz⟩ := I.list hq
  obtain ⟨j, h1, h2, h3, h4, h5⟩ := atI_get he
  obtain ⟨w, ew, rw'⟩ := r.get h2
  have hl := r.length
  have hn := line63
  have fin : EP X pins σ Q w s := ⟨z, H, I, rw', q⟩
  by_cases h0 : 0 ≤ i
  · have hj : i.toNat = j := by
      rw [seqIndex_of h0 h5] at h1
      exact Option.some.inj h1
    exact item_listR pl.isList h0 (by omega) (by rw [hj]; simpa using ew) fin hs
  · have hj : (i + (its.toArray.size : Int)).toNat = j := by
      rw [seqIndex_neg (by omega) h4] at h1
      rw [List.size_toArray, ← hl]
      exact Option.some.inj h1
    exact subscriptTail_builtinR (x := w) pl.isList.typeIs slot_list_getitem.lookup
      (wpAny_getItem_list_neg (Q := fun r s' => r = w ∧ EP X pins σ Q r s') pl.isList (by omega) (by rw [List.size_toArray] <;> omega) (by omega) (by rw [hj]; simpa using ew) ⟨rfl, fin⟩) hs
theorem ix_tup : IxR X (rIxT X.K) := by
  intro value slice pins s σ H x y v u Q I rx ry h hs
  obtain ⟨p, xs, i, z, rfl, rfl, hq, he, q⟩ := h
  cases rx
  obtain ⟨t, rfl⟩ := ry
  obtain ⟨its, r, pl, hz⟩ := I.tuple hq
  obtain ⟨j, h1, h2, h3, h4, h5⟩ := atI_get he
  obtain ⟨w, ew, rw'⟩ := r.get h2
  have hl := r.length
  have hn := line63
  have fin : EP X pins σ Q w s := ⟨z, H, I, rw', q⟩
  exact subscriptTail_builtinR (x := w) pl.typeIs slot_tuple_getitem.lookup
    (getItem_tuple (j := j) (Q := fun r s' => r = w ∧ EP X pins σ Q r s') pl (by omega) (by omega) (by rw [List.size_toArray, ← hl]; exact h1) (by simpa using ew) ⟨rfl, fin⟩) hs
theorem ix_str : IxR X rIxS := by
  intro value slice pins s σ H x y v u Q I rx ry h hs
  obtain ⟨z, i, c, rfl, rfl, hz, he, q⟩ := h
  obtain ⟨t, rfl⟩ := rx
  obtain ⟨t', rfl⟩ := ry
  obtain ⟨j, h1, h2, h3, h4, h5⟩ := atI_get he
  have hl : z.cps.toList.length = z.length := by simp [Str.length]
  rw [hl] at h1 h4 h5
  have hn := line63
  exact tail_any (typeIs_str s z t) slot_str_getitem.lookup (getItem_str (c := c) (by
    have e1 : decide (i < -(2 ^ 63 : Int)) = false := decide_eq_false (by omega)
    have e2 : decide (i ≥ 2 ^ 63) = false := decide_eq_false (by omega)
    rw [e1, e2, Bool.or_false]) (by rw [h1]; simpa using h2) ⟨.str ⟨#[c]⟩, H, I.tok _, ⟨_, rfl⟩, q⟩) hs
/-- list, tuple or str -/
def rIx (K : PySem.W.Frag) : R2 := fun x y H Q => rIxL K x y H Q ∨ rIxT K x y H Q ∨ rIxS x y H Q
theorem ix_seq : IxR X (rIx X.K) := ix_list.or (ix_tup.or ix_str)

/-! ### xs[i] = v, any sign -/
/-- the list's object behind a store -/
theorem mapSeq_set (its : List Value) (n j : Nat) (u : Value) : Obj.mapSeq (·.setIfInBounds j u) { cls := .type "list", data := .seq its.toArray n } = { cls := .type "list", data := .seq (its.set j u).toArray n } := by
  simp [Obj.mapSeq]
theorem Inv.lst {pins : List (Addr × Obj)} {σ : St} {H : Hp} {s : Shared} {p : Addr} {xs : List V} (I : Inv X pins σ H s) (h : H p = some (.lst xs)) :
    ∃ (its : List Value) (n : Nat), Vals xs its ∧ s.heap.get? p = some { cls := .type "list", data := .seq its.toArray n } ∧ xs.length ≤ sizeLine := by
  obtain ⟨z, its, n, r, e⟩ := I.hok p _ h
  exact ⟨its, n, r, e, z⟩
/-- the list at p is written by an update of its object -/
theorem Inv.lstUpd {pins : List (Addr × Obj)} {σ : St} {H : Hp} {s : Shared} {p : Addr} {xs ys : List V} {its its' : List Value} {n n' : Nat} {f : Obj → Obj} (I : Inv X pins σ H s) (h : H p = some (.lst xs))
    (ho : s.heap.get? p = some { cls := .type "list", data := .seq its.toArray n }) (hf : f { cls := .type "list", data := .seq its.toArray n } = { cls := .type "list", data := .seq its'.toArray n' }) (r : Vals ys its') (hz : ys.length ≤ sizeLine) (t : Nat) :
    Inv X pins σ (upd H p (.lst ys)) { s with heap := s.heap.update p f, toks := t } := by
  have e : (s.heap.update p f).get? p = some { cls := .type "list", data := .seq its'.toArray n' } := by
    rw [Heap.get?_update_self f ho (by rw [hf] <;> rfl), hf]
  refine I.write (x := p) (e := p) (by rw [h]; trivial) (.inl rfl) (fun b u hb q => (Heap.get?_update_other _ _ (Ne.symm hb)).trans q) ⟨_, e⟩ ?_
  exact ⟨hz, its', n', r, e⟩
def rSetL : V → V → V → Hp → (Hp → Prop) → Prop := fun o i v H Q => ∃ p xs k j, o = .ref p ∧ i = .int k ∧ H p = some (.lst xs) ∧ ixN xs.length k = some j ∧ Q (upd H p (.lst (xs.set j v)))
theorem set_list : PSet X rSetL := by
  intro pins s σ H o i v ov iv u Q I ro ri rv h
  obtain ⟨p, xs, k, j, rfl, rfl, hp, hj, q⟩ := h
  cases ro
  obtain ⟨t, rfl⟩ := ri
  obtain ⟨its, n, r, ho, hz⟩ := I.lst hp
  obtain ⟨h1, h2, h3, h4⟩ := ixN_seq hj
  have hl := r.length
  have hn := line63
  have I' : Inv X pins σ (upd H p (.lst (xs.set j v))) { s with heap := s.heap.update p (Obj.mapSeq (·.setIfInBounds j u)) } :=
    I.lstUpd hp ho (mapSeq_set its n j u) (r.set rv j) (by rw [List.length_set]; exact hz) s.toks
  by_cases h0 : 0 ≤ k
  · have hk : k.toNat = j := by
      rw [seqIndex_of h0 h4] at h1
      exact Option.some.inj h1
    exact PySem.W.ki_setAt ho h0 (by omega) (by rw [List.size_toArray, ← hl]; exact h4) (by rw [hk]; exact ⟨_, I', q⟩)
  · have hk : (k + (its.toArray.size : Int)).toNat = j := by
      rw [seqIndex_neg (by omega) h3] at h1
      rw [List.size_toArray, ← hl]
      exact Option.some.inj h1
    exact PySem.W.ki_setBack ho (by omega) (by rw [List.size_toArray, ← hl]; exact h3) (by omega) (by rw [hk]; exact ⟨_, I', q⟩)

/-! ### slices -/
theorem slice_bounds (lo hi : Option Int) (n : Nat) : (sliceBounds lo hi none n).1 = ((HT.sIx n 0 lo : Nat) : Int) ∧ (sliceBounds lo hi none n).2.1 = ((HT.sIx n n hi : Nat) : Int) ∧ (sliceBounds lo hi none n).2.2 = 1 := by
  refine ⟨?_, ?_, rfl⟩
  · cases lo with
    | none => simp [sliceBounds, HT.sIx]
    | some i =>
      simp only [sliceBounds, HT.sIx, Option.getD_none, show (1 : Int) > 0 by decide, if_true]
      by_cases h : i < 0
      · simp only [h, if_true] <;> omega
      · simp only [h, if_false] <;> omega
  · cases hi with
    | none => simp [sliceBounds, HT.sIx]
    | some i =>
      simp only [sliceBounds, HT.sIx, Option.getD_none, show (1 : Int) > 0 by decide, if_true]
      by_cases h : i < 0
      · simp only [h, if_true] <;> omega
      · simp only [h, if_false] <;> omega
theorem slicePick_cut (its : List Value) (lo hi : Option Int) : slicePick its.toArray lo hi none = ((its.drop (HT.sIx its.length 0 lo)).take (HT.sIx its.length its.length hi - HT.sIx its.length 0 lo)).toArray := by
  obtain ⟨h1, h2, h3⟩ := slice_bounds lo hi its.toArray.size
  unfold slicePick
  rw [h1, h2, h3]
  simp only [sliceRange_one, pick_run, List.size_toArray] <;> rfl
/-- xs[lo:hi] of a list: a new list -/
def rSlL (K : PySem.W.Frag) : V → Option Int → Option Int → Hp → VK → Prop := fun x lo hi H Q => ∃ a xs, x = .ref a ∧ SqL K H a xs ∧ ∀ p, H p = none → Q (.ref p) (upd H p (.lst (cutV xs lo hi)))
theorem sl_list : SlR X (rSlL X.K) := by
  intro pins s σ H x v vl vu lo hi sl Q I rx hs pl pu h
  obtain ⟨a, xs, rfl, hx, q⟩ := h
  cases rx
  obtain ⟨its, r, ht, hz⟩ := I.list hx
  have hlen := r.length
  refine ⟨"list", _, slot_list_getitem.lookup, ht.isList.typeIs, ?_⟩
  refine wpAny_getItem_list_slice ht.isList hs pl pu .none (by simp) ?_ (by rw [List.size_toArray] <;> omega)
  rw [slicePick_cut, ← hlen]
  refine ⟨.ref s.heap.objs.size, _, I.laid (t' := s.toks) (o := .lst (cutV xs lo hi)) (fun b ob q => Heap.get?_push_of_some _ q) (Nat.le_refl _) ?_, rfl, q _ (I.hok.fresh (Nat.le_refl _))⟩
  exact ⟨Nat.le_trans (cutV_length xs lo hi) hz, _, 0, (r.drop (HT.sIx xs.length 0 lo)).take (HT.sIx xs.length xs.length hi - HT.sIx xs.length 0 lo), Heap.get?_push_size _ rfl⟩

/-! ### in, not in: flat items -/
def flatV : V → Bool
  | .non => true
  | .bl _ => true
  | .int _ => true
  | .str _ => true
  | _ => false
/-- == of flat values -/
def eqV : V → V → Bool
  | .non, .non => true
  | .bl a, .bl b => a == b
  | .bl a, .int b => (if a then 1 else 0) == b
  | .int a, .bl b => a == (if b then 1 else 0)
  | .int a, .int b => a == b
  | .str a, .str b => a == b
  | _, _ => false
theorem eqAt_V {A : Around} {s : Shared} {y x : V} {u v : Value} (ry : RelV y u) (rx : RelV x v) (fy : flatV y = true) (fx : flatV x = true) : SeqAt.EqAt A s u v (eqV y x) := by
  cases y with
  | non =>
    cases ry
    cases x with
    | non => cases rx; exact SeqAt.EqAt.same _
    | bl b => cases rx; exact SeqAt.EqAt.none_bool b
    | int b => obtain ⟨t, rfl⟩ := rx; exact SeqAt.EqAt.none_int b t
    | str b => obtain ⟨t, rfl⟩ := rx; exact SeqAt.EqAt.none_str b t
    | _ => exact absurd (show false = true from fx) Bool.false_ne_true
  | bl a =>
    cases ry
    cases x with
    | non => cases rx; exact SeqAt.EqAt.bool_none a
    | bl b => cases rx; exact SeqAt.EqAt.bool_bool a b
    | int b => obtain ⟨t, rfl⟩ := rx; exact SeqAt.EqAt.bool_int a b t
    | str b => obtain ⟨t, rfl⟩ := rx; exact SeqAt.EqAt.bool_str a b t
    | _ => exact absurd (show false = true from fx) Bool.false_ne_true
  | int a =>
    obtain ⟨t', rfl⟩ := ry
    cases x with
    | non => cases rx; exact SeqAt.EqAt.int_none a t'
    | bl b => cases rx; exact SeqAt.EqAt.int_bool a t' b
    | int b => obtain ⟨t, rfl⟩ := rx; exact SeqAt.EqAt.int_int a t' b t
    | str b => obtain ⟨t, rfl⟩ := rx; exact SeqAt.EqAt.int_str a t' b t
    | _ => exact absurd (show false = true from fx) Bool.false_ne_true
  | str a =>
    obtain ⟨t', rfl⟩ := ry
    cases x with
    | non => cases rx; exact SeqAt.EqAt.str_none a t'
    | bl b => cases rx; exact SeqAt.EqAt.str_bool a t' b
    | int b => obtain ⟨t, rfl⟩ := rx; exact SeqAt.EqAt.str_int a t' b t
    | str b => obtain ⟨t, rfl⟩ := rx; exact SeqAt.EqAt.str_str a t' b t
    | _ => exact absurd (show false = true from fx) Bool.false_ne_true
  | _ => exact absurd (show false = true from fy) Bool.false_ne_true
/-- the items' answers, read off the values (a value's own answer does not lean on its token) -/
def eqU (x : V) (u : Value) : Bool := match u with
  | .none => eqV .non x
  | .bool b => eqV (.bl b) x
  | .int i _ => eqV (.int i) x
  | .str z _ => eqV (.str z) x
  | _ => false
theorem eqU_of {x y : V} {u : Value} (r : RelV y u) (f : flatV y = true) : eqU x u = eqV y x := by
  cases y with
  | non => cases r; rfl
  | bl b => cases r; rfl
  | int i => obtain ⟨t, rfl⟩ := r; rfl
  | str z => obtain ⟨t, rfl⟩ := r; rfl
  | _ => exact absurd (show false = true from f) Bool.false_ne_true
theorem any_eqU {x : V} : ∀ {xs : List V} {us : List Value}, Vals xs us → xs.all flatV = true → us.any (eqU x) = xs.any fun y => eqV y x
  | _, _, .nil, _ => rfl
  | y :: xs, u :: us, .cons r t, f => by
    rw [List.all_cons, Bool.and_eq_true] at f
    rw [List.any_cons, List.any_cons, eqU_of r f.1, any_eqU t f.2]
theorem mem_eqAt {A : Around} {s : Shared} {x : V} {v : Value} (rx : RelV x v) (fx : flatV x = true) : ∀ {xs : List V} {us : List Value}, Vals xs us → xs.all flatV = true → ∀ u ∈ us, SeqAt.EqAt A s u v (eqU x u)
  | _, _, .nil, _ => fun u hu => by cases hu
  | y :: xs, u :: us, .cons r t, f => fun u' hu => by
    rw [List.all_cons, Bool.and_eq_true] at f
    rcases List.mem_cons.mp hu with rfl | hu
    · rw [eqU_of r f.1]; exact eqAt_V r rx f.1 fx
    · exact mem_eqAt rx fx t f.2 u' hu
def inV (x : V) (xs : List V) : Bool := xs.any fun y => eqV y x
/-- x in a list or tuple of flat items -/
def rIn (K : PySem.W.Frag) (neg : Bool) : R2 := fun x y H Q => ∃ p xs, y = .ref p ∧ (SqL K H p xs ∨ SqT K H p xs) ∧ flatV x = true ∧ xs.all flatV = true ∧ Q (.bl (if neg then !inV x xs else inV x xs)) H
theorem op_in_seq : OpR X (compareOp .In) (rIn X.K false) := by
  intro pins s σ H x y v u Q I rx ry h
  obtain ⟨p, xs, rfl, hq, fx, fs, q⟩ := h
  cases ry
  rcases hq with hq | hq
  · obtain ⟨its, r, pl, hz⟩ := I.list hq
    refine SeqAt.in_listAt (eqU x) pl.isList (fun w hw => mem_eqAt rx fx r fs w (by simpa using hw)) ⟨.bl _, H, I, rfl, ?_⟩
    rw [show its.toArray.any (eqU x) = its.any (eqU x) by simp, any_eqU r fs]
    exact q
  · obtain ⟨its, r, pl, hz⟩ := I.tuple hq
    refine SeqAt.in_tupleAt (eqU x) pl (fun w hw => mem_eqAt rx fx r fs w (by simpa using hw)) ⟨.bl _, H, I, rfl, ?_⟩
    rw [show its.toArray.any (eqU x) = its.any (eqU x) by simp, any_eqU r fs]
    exact q
theorem op_notIn_seq : OpR X (compareOp .NotIn) (rIn X.K true) := by
  intro pins s σ H x y v u Q I rx ry h
  obtain ⟨p, xs, rfl, hq, fx, fs, q⟩ := h
  cases ry
  rcases hq with hq | hq
  · obtain ⟨its, r, pl, hz⟩ := I.list hq
    refine SeqAt.notIn_listAt (eqU x) pl.isList (fun w hw => mem_eqAt rx fx r fs w (by simpa using hw)) ⟨.bl _, H, I, rfl, ?_⟩
    rw [show its.toArray.any (eqU x) = its.any (eqU x) by simp, any_eqU r fs]
    exact q
  · obtain ⟨its, r, pl, hz⟩ := I.tuple hq
    refine SeqAt.notIn_tupleAt (eqU x) pl (fun w hw => mem_eqAt rx fx r fs w (by simpa using hw)) ⟨.bl _, H, I, rfl, ?_⟩
    rw [show its.toArray.any (eqU x) = its.any (eqU x) by simp, any_eqU r fs]
    exact q
theorem op_notIn_str : OpR X (compareOp .NotIn) (fun x y H Q => ∃ i j, x = .str i ∧ y = .str j ∧ Q (.bl (!(!(Builtin.Str.occurrences j i 0 j.length 1).isEmpty))) H) := by
  intro pins s σ H x y v u Q I rx ry h
  obtain ⟨i, j, rfl, rfl, q⟩ := h
  obtain ⟨t, rfl⟩ := rx
  obtain ⟨t', rfl⟩ := ry
  exact notIn_str ⟨.bl _, H, I, rfl, q⟩

/-! ### len, list(x), tuple(x) of any list or tuple that is read -/
theorem call_len_seq : CallR X (.builtin "len") (fun xs H Q => ∃ p ys, xs = [.ref p] ∧ (SqL X.K H p ys ∨ SqT X.K H p ys) ∧ Q (.int ys.length) H) := by
  intro pins s σ H xs us Q I r h
  obtain ⟨p, ys, rfl, hq, q⟩ := h
  obtain ⟨u, rfl, rx⟩ := vals1 r
  cases rx
  have hn := line63
  rcases hq with hq | hq
  · obtain ⟨its, r', pl, hz⟩ := I.list hq
    have hlen := r'.length
    exact Calls.call_len_list pl.isList (by simp only [List.size_toArray] <;> omega) ⟨.int ys.length, H, I.tok _, ⟨s.toks + 1, by rw [List.size_toArray, hlen]⟩, q⟩
  · obtain ⟨its, r', pl, hz⟩ := I.tuple hq
    have hlen := r'.length
    exact len_tuple pl (by simp only [List.size_toArray] <;> omega) ⟨.int ys.length, H, I.tok _, ⟨s.toks + 1, by rw [List.size_toArray, hlen]⟩, q⟩
theorem call_len_str : CallR X (.builtin "len") (fun xs H Q => ∃ z, xs = [.str z] ∧ z.length ≤ sizeLine ∧ Q (.int z.length) H) := by
  intro pins s σ H xs us Q I r h
  obtain ⟨z, rfl, hz, q⟩ := h
  obtain ⟨u, rfl, t, rfl⟩ := vals1 r
  have hn := line63
  exact len_str (by omega) ⟨.int z.length, H, I.tok _, ⟨_, rfl⟩, q⟩
theorem CallR.or {f : Value} {r r' : List V → Hp → VK → Prop} (h : CallR X f r) (h' : CallR X f r') : CallR X f (fun xs H Q => r xs H Q ∨ r' xs H Q) := by
  intro pins s σ H xs us Q I rs q
  rcases q with q | q
  · exact h pins s σ H xs us Q I rs q
  · exact h' pins s σ H xs us Q I rs q
theorem call_list_of : CallR X (.type "list") (fun xs H Q => ∃ p ys, xs = [.ref p] ∧ (SqL X.K H p ys ∨ SqT X.K H p ys) ∧ ∀ l, H l = none → Q (.ref l) (upd H l (.lst ys))) := by
  intro pins s σ H xs us Q I r h
  obtain ⟨p, ys, rfl, hq, q⟩ := h
  obtain ⟨u, rfl, rx⟩ := vals1 r
  cases rx
  have fin : ∀ (its : List Value), Vals ys its → ys.length ≤ sizeLine → ∀ (h' : Heap) (c' : Nat), (∀ b o', s.heap.get? b = some o' → h'.get? b = some o') →
      h'.get? s.heap.objs.size = some { cls := .type "list", dict := none, data := .seq its.toArray c', slots := #[] } → EP X pins σ Q (.ref s.heap.objs.size) { s with heap := h' } := fun its r' hz h' c' kp e =>
    ⟨.ref s.heap.objs.size, _, I.laid (t' := s.toks) kp (Nat.le_refl _) (show ObjOk X.prog X.w _ h' _ (.lst ys) from ⟨hz, its, c', r', e⟩), rfl, q _ (I.hok.fresh (Nat.le_refl _))⟩
  rcases hq with hq | hq
  · obtain ⟨its, r', pl, hz⟩ := I.list hq
    have hlen := r'.length
    obtain ⟨o, ho, hc, n, hd⟩ := pl.isList
    exact call_list_seq p (.inl rfl) ho hc hd (fun h' c' kp e => fin its r' hz h' c' kp e) (by simp only [List.size_toArray] <;> omega)
  · obtain ⟨its, r', pl, hz⟩ := I.tuple hq
    have hlen := r'.length
    obtain ⟨o, ho, hc, n, hd⟩ := pl
    exact call_list_seq p (.inr rfl) ho hc hd (fun h' c' kp e => fin its r' hz h' c' kp e) (by simp only [List.size_toArray] <;> omega)
theorem call_tuple_of : CallR X (.type "tuple") (fun xs H Q => ∃ p ys, xs = [.ref p] ∧ ((SqL X.K H p ys ∧ ∀ l, H l = none → Q (.ref l) (upd H l (.tup ys))) ∨ (SqT X.K H p ys ∧ Q (.ref p) H))) := by
  intro pins s σ H xs us Q I r h
  obtain ⟨p, ys, rfl, h⟩ := h
  obtain ⟨u, rfl, rx⟩ := vals1 r
  cases rx
  rcases h with ⟨hq, q⟩ | ⟨hq, q⟩
  · obtain ⟨its, r', pl, hz⟩ := I.list hq
    have hlen := r'.length
    refine call_tuple_list pl.isList (fun h' kp => ?_) (by simp only [List.size_toArray] <;> omega)
    have I1 : Inv X pins σ H { s with heap := h' } := I.kept (t' := s.toks) kp
    have I2 : Inv X pins σ (upd H h'.objs.size (.tup ys)) { s with heap := h'.push { cls := .type "tuple", data := .seq its.toArray } } :=
      I1.laid (t' := s.toks) (fun b o e => Heap.get?_push_of_some _ e) (Nat.le_refl _) (show ObjOk X.prog X.w _ _ _ (.tup ys) from ⟨hz, its, r', IsTup.new _ _⟩)
    exact ⟨.ref h'.objs.size, _, I2, rfl, q _ (I1.hok.fresh (Nat.le_refl _))⟩
  · obtain ⟨its, r', pl, hz⟩ := I.tuple hq
    exact call_tuple_same pl ⟨.ref p, H, I, rfl, q⟩

/-! ### the call of a builtin's method: o.m(..) -/
/-- the value is of that builtin type -/
def tyV (K : PySem.W.Frag) (T : String) (x : V) (H : Hp) : Prop := match x with
  | .str _ => T = "str"
  | .int _ => T = "int"
  | .ref p => (T = "list" ∧ ∃ xs, SqL K H p xs) ∨ (T = "tuple" ∧ ∃ o, K.lookup p = some o ∧ o.cls = .type "tuple" ∧ o.dict = none) ∨
      (T = "dict" ∧ ((∃ kvs, H p = some (.dK kvs)) ∨ ∃ kvs, H p = some (.dT kvs))) ∨ (T = "set" ∧ ∃ S n, H p = some (.set S n))
  | _ => False
theorem tyV_is {pins : List (Addr × Obj)} {σ : St} {H : Hp} {s : Shared} {T : String} {x : V} {v : Value} (I : Inv X pins σ H s) (r : RelV x v) (ty : tyV X.K T x H) :
    s.TypeIs v T ∧ ∀ a, v = .ref a → ∃ ob, s.heap.get? a = some ob ∧ ob.dict = none := by
  cases x with
  | str z =>
    obtain ⟨t, rfl⟩ := r
    cases (show T = "str" from ty)
    exact ⟨typeIs_str s z t, fun _ e => nomatch e⟩
  | int i =>
    obtain ⟨t, rfl⟩ := r
    cases (show T = "int" from ty)
    exact ⟨typeIs_int s i t, fun _ e => nomatch e⟩
  | ref p =>
    cases r
    rcases ty with ⟨rfl, xs, hq⟩ | ⟨rfl, o, hk, hc, hd⟩ | ⟨rfl, hk⟩ | ⟨rfl, S, n, hk⟩
    · obtain ⟨its, _, pl, _⟩ := I.list hq
      refine ⟨pl.isList.typeIs, fun a e => ?_⟩
      cases e
      obtain ⟨o, n, e, c, hd, _⟩ := pl
      exact ⟨o, e, hd⟩
    · refine ⟨⟨o, I.kIn p o hk, hc⟩, fun a e => ?_⟩
      cases e
      exact ⟨o, I.kIn _ o hk, hd⟩
    · have z : ∃ o, s.heap.get? p = some o ∧ o.ExactDict := by
        rcases hk with ⟨kvs, hk⟩ | ⟨kvs, hk⟩
        · obtain ⟨_, _, _, _, o, _, _, e, ex, _⟩ := I.hok p _ hk
          exact ⟨o, e, ex⟩
        · obtain ⟨_, _, _, _, o, _, _, e, ex, _⟩ := I.hok p _ hk
          exact ⟨o, e, ex⟩
      obtain ⟨o, e, ex⟩ := z
      refine ⟨⟨o, e, ex.1⟩, fun a e2 => ?_⟩
      cases e2
      exact ⟨o, e, ex.2.1⟩
    · obtain ⟨o, _, _, _, e, ex, _⟩ := I.hok p _ hk
      refine ⟨⟨o, e, ex.1⟩, fun a e2 => ?_⟩
      cases e2
      exact ⟨o, e, ex.2.1⟩
  | _ => exact False.elim ty
def tBM0 (K : PySem.W.Frag) (T : String) (r : V → List V → Hp → VK → Prop) (to : TE) : TE := fun σ H Q => to σ H fun x H1 => tyV K T x H1 ∧ r x [] H1 Q
def tBM (K : PySem.W.Frag) (T : String) (r : V → List V → Hp → VK → Prop) (to : TE) (t : TA) : TE := fun σ H Q => to σ H fun x H1 => tyV K T x H1 ∧ t σ H1 fun xs H2 => r x xs H2 Q
variable {o e : Expr} {es : List Expr} {to : TE} {t : TA} {name : Str} {apos cpos : Pos} {T id : String} {r : V → List V → Hp → VK → Prop}
theorem pe_bm0 (pa : PlainAttrs T) (slot : Slot T name id) (hty : typeOf (.builtin id) = pure (.type "method_descriptor")) (hm : MtR X id r) (ho : PE X o to)
    (hbase : attributeBase o name X.env (eval o X.env) = eval o X.env := by rfl) (hline : (apos.endLine == cpos.line) = true := by rfl) : PE X (.Call (.Attribute o name apos) [] [] cpos) (tBM0 X.K T r to) := by
  intro pins s σ H Q I h
  refine wpAny_Call_method0_late hbase hline (thn (ho pins s σ H _ I h) fun v s1 ⟨x, H1, I1, r1, ty, q1⟩ => ?_)
  obtain ⟨h1, h2⟩ := tyV_is I1 r1 ty
  exact ⟨T, id, pa, slot, hty, h1, h2, Calls.callWith_builtin rfl (PySem.evalArgs_none (hm pins s1 σ H1 x [] v [] Q I1 r1 .nil q1))⟩
theorem pe_bm (pa : PlainAttrs T) (slot : Slot T name id) (hty : typeOf (.builtin id) = pure (.type "method_descriptor")) (hm : MtR X id r) (ho : PE X o to) (ha : PA X (e :: es) t)
    (hbase : attributeBase o name X.env (eval o X.env) = eval o X.env := by rfl)
    (hfew : ((backTo cpos (starEach (e :: es) X.env)).all (fun x => !x.1) && (backToKw cpos (keywordEach [] X.env)).all (fun x => x.1.isSome)
      && decide ((e :: es).length + ([] : List Keyword).length + (if ([] : List Keyword).isEmpty then 0 else 1) < 30)) = true := by rfl)
    (hline : (apos.endLine == cpos.line) = true := by rfl) (hs : starEach (e :: es) X.env = (false, eval e X.env) :: starEach es X.env := by rfl) (hplain : (backTo cpos (starEach es X.env)).any (·.1) = false := by rfl) :
    PE X (.Call (.Attribute o name apos) (e :: es) [] cpos) (tBM X.K T r to t) := by
  intro pins s σ H Q I h
  refine wpAny_Call_method_late hbase hfew hline rfl (thn (ho pins s σ H _ I h) fun v s1 ⟨x, H1, I1, r1, ty, q1⟩ => ?_)
  obtain ⟨h1, h2⟩ := tyV_is I1 r1 ty
  refine ⟨T, id, pa, slot, hty, h1, h2, ?_⟩
  have hA := ha cpos pins s1 σ H1 _ I1 q1
  rw [hs] at hA ⊢
  refine Calls.callWith_builtin (by show (false || (backTo cpos (starEach es X.env)).any (·.1)) = false; rw [hplain] <;> rfl) (Calls.evalArgs_plain ?_)
  exact thn hA fun us s2 ⟨vs, H2, I2, r2, q2⟩ => hm pins s2 σ H2 x vs v us Q I2 r1 r2 q2
/- xs.append(e), list.index on a module's tuple .. are MtR facts of 06m -/
end
end L2

namespace L2
open PySem PySem.Spec PyProof.Rows

def MtM (X : Cx) (id : String) (r : V → List V → Hp → VK → Prop) : Prop :=
  ∀ (pins : List (Addr × Obj)) (s : Shared) (σ : St) (H : Hp) (x : V) (xs : List V) (v : Value) (us : List Value) (Q : VK), Inv X pins σ H s → RelV x v → Vals xs us → r x xs H Q →
    wpAny (model X.prog X.w) X.A (call (.builtin id) (v :: us)) (EP X pins σ Q) X.xe s

/-! ### lists of values -/
theorem Vals.one : ∀ {x : V} {us : List Value}, Vals [x] us → ∃ u, us = [u] ∧ RelV x u
  | _, _, .cons r .nil => ⟨_, rfl, r⟩
theorem Vals.two : ∀ {x y : V} {us : List Value}, Vals [x, y] us → ∃ u v, us = [u, v] ∧ RelV x u ∧ RelV y v
  | _, _, _, .cons r (.cons q .nil) => ⟨_, _, rfl, r, q⟩
theorem Vals.zero : ∀ {us : List Value}, Vals [] us → us = []
  | _, .nil => rfl
theorem Vals.dropLast {xs : List V} {us : List Value} (h : Vals xs us) : Vals xs.dropLast us.dropLast := by
  induction h with
  | nil => exact .nil
  | cons r t ih =>
    cases t with
    | nil => exact .nil
    | cons q t' => exact .cons r ih
theorem Vals.eraseIdx : ∀ {xs : List V} {us : List Value} (i : Nat), Vals xs us → Vals (xs.eraseIdx i) (us.eraseIdx i)
  | _, _, _, .nil => .nil
  | _, _, 0, .cons _ t => t
  | _, _, i + 1, .cons r t => .cons r (Vals.eraseIdx i t)
theorem Vals.reverse {xs : List V} {us : List Value} (h : Vals xs us) : Vals xs.reverse us.reverse := by
  induction h with
  | nil => exact .nil
  | cons r t ih => rw [List.reverse_cons, List.reverse_cons]; exact Vals.append ih (.cons r .nil)
theorem Vals.rep {xs : List V} {us : List Value} (h : Vals xs us) : ∀ k : Nat, Vals (List.replicate k xs).flatten (List.replicate k us).flatten
  | 0 => .nil
  | k + 1 => by
    rw [List.replicate_succ, List.replicate_succ, List.flatten_cons, List.flatten_cons]
    exact Vals.append h (Vals.rep h k)
theorem erase_last {α : Type} (l : List α) : l.eraseIdx (l.length - 1) = l.dropLast := by
  induction l with
  | nil => rfl
  | cons a r ih =>
    cases r with
    | nil => rfl
    | cons b r =>
      have e : (a :: b :: r).length - 1 = ((b :: r).length - 1) + 1 := by
        have h1 : (a :: b :: r).length = r.length + 2 := rfl
        have h2 : (b :: r).length = r.length + 1 := rfl
        omega
      rw [e, List.eraseIdx_cons_succ, ih]
      all_goals rfl
theorem len_erase {α : Type} : ∀ (l : List α) (i : Nat), (l.eraseIdx i).length ≤ l.length
  | [], _ => Nat.le_refl _
  | _ :: _, 0 => Nat.le_succ _
  | _ :: r, i + 1 => Nat.succ_le_succ (len_erase r i)
theorem foldl_rep (its : List Value) : ∀ (k : Nat) (acc : List Value),
    List.foldl (fun x1 x2 => x1 ++ x2) acc.toArray (List.replicate k its.toArray) = (acc ++ (List.replicate k its).flatten).toArray
  | 0, acc => by simp
  | k + 1, acc => by
    have e : acc.toArray ++ its.toArray = (acc ++ its).toArray := by simp
    have e2 : (acc ++ its) ++ (List.replicate k its).flatten = acc ++ (List.replicate (k + 1) its).flatten := by
      rw [List.replicate_succ, List.flatten_cons, List.append_assoc]
    rw [← e2, ← foldl_rep its k (acc ++ its), ← e, List.replicate_succ, List.foldl_cons]

section
variable {X : Cx} {pins : List (Addr × Obj)} {σ : St} {H : Hp} {s : Shared} {l b : Addr} {xs ys zs : List V}

/-! ### the two steps: a tracked list is rewritten, a new list is laid -/
theorem Inv.lset {its its' : List Value} {n : Nat} {f : Array Value → Array Value} {t' : Nat} (I : Inv X pins σ H s) (hH : H l = some (.lst xs))
    (e : s.heap.get? l = some { cls := .type "list", data := .seq its.toArray n }) (hf : f its.toArray = its'.toArray) (hv : Vals ys its') (hz : ys.length ≤ sizeLine) :
    Inv X pins σ (upd H l (.lst ys)) { s with heap := s.heap.update l (Obj.mapSeq f), toks := t' } := by
  have q := PySem.IsL.update e f
  rw [hf] at q
  refine I.write (x := l) (e := l) (by rw [hH]; exact trivial) (.inl rfl) (fun b' u hb hu => (Heap.get?_update_other s.heap (Obj.mapSeq f) (Ne.symm hb)).trans hu) ⟨_, q⟩ ?_
  exact ⟨hz, its', _, hv, q⟩
theorem Inv.lnew {its : List Value} {t' : Nat} (I : Inv X pins σ H s) (hv : Vals ys its) (hz : ys.length ≤ sizeLine) :
    Inv X pins σ (upd H s.heap.objs.size (.lst ys)) { s with heap := s.heap.push { cls := .type "list", data := .seq its.toArray }, toks := t' } :=
  I.laid (fun _ _ q => Heap.get?_push_of_some _ q) (Nat.le_refl _) ⟨hz, its, 0, hv, Heap.get?_push_size _ rfl⟩
theorem Inv.fresh (I : Inv X pins σ H s) : H s.heap.objs.size = none := I.hok.fresh (Nat.le_refl _)
theorem Inv.lstM (I : Inv X pins σ H s) (hH : H l = some (.lst xs)) : xs.length ≤ sizeLine ∧ ∃ (its : List Value) (n : Nat), Vals xs its ∧ xs.length = its.length ∧ s.heap.get? l = some { cls := .type "list", data := .seq its.toArray n } := by
  obtain ⟨z, its, n, r, e⟩ := I.hok l _ hH
  exact ⟨z, its, n, r, r.length, e⟩

theorem notLongL {n : Nat} (h : n ≤ sizeLine) : Builtin.List.listTooLong n = false := by
  unfold Builtin.List.listTooLong
  exact decide_eq_false (by omega)
end

section
variable {X : Cx}

/-! ### methods -/
def rAppend : V → List V → Hp → VK → Prop := fun x vs H Q => ∃ l xs y, x = .ref l ∧ vs = [y] ∧ H l = some (.lst xs) ∧ xs.length < sizeLine ∧ Q .non (upd H l (.lst (xs ++ [y])))
theorem mt_append : MtM X "list.append" rAppend := by
  intro pins s σ H x vs v us Q I rx rv h
  obtain ⟨l, xs, y, rfl, rfl, hH, hz, q⟩ := h
  cases rx
  obtain ⟨u, rfl, ru⟩ := rv.one
  obtain ⟨z, its, n, r, hl, e⟩ := I.lstM hH
  refine call_meets F.slot_list_append ⟨_, e, rfl⟩ F.entry_list_append (F.args_list_append_2 _ _) (PySem.list_append l its.toArray n u (by rw [List.size_toArray]; omega)) ⟨e, ?_⟩
  refine ⟨.non, _, I.lset (its' := its ++ [u]) hH e (by simp) (r.append (.cons ru .nil)) ?_, rfl, q⟩
  rw [List.length_append, List.length_singleton]
  omega

def rExtend : V → List V → Hp → VK → Prop := fun x vs H Q => ∃ l b xs zs, x = .ref l ∧ vs = [.ref b] ∧ H l = some (.lst xs) ∧ H b = some (.lst zs) ∧ xs.length + zs.length ≤ sizeLine ∧ Q .non (upd H l (.lst (xs ++ zs)))
theorem mt_extend : MtM X "list.extend" rExtend := by
  intro pins s σ H x vs v us Q I rx rv h
  obtain ⟨l, b, xs, zs, rfl, rfl, hH, hB, hz, q⟩ := h
  cases rx
  obtain ⟨u, rfl, ru⟩ := rv.one
  cases ru
  obtain ⟨z, its, n, r, hl, e⟩ := I.lstM hH
  obtain ⟨z2, its2, n2, r2, hl2, e2⟩ := I.lstM hB
  have hsz : its.toArray.size + its2.toArray.size ≤ sizeLine := by rw [List.size_toArray, List.size_toArray]; omega
  have hlong : ¬ (!its.toArray.isEmpty && Builtin.List.listTooLong (its.toArray.size + its2.toArray.size)) = true := by
    rw [notLongL hsz, Bool.and_false]
    exact Bool.false_ne_true
  refine call_meets F.slot_list_extend ⟨_, e, rfl⟩ F.entry_list_extend (F.args_list_extend_2 _ _)
    (AutoSeq1.list_extend_list_list_0 l its.toArray n b its2.toArray n2 hlong (by rw [List.size_toArray]; omega) (by omega)) ⟨e, e2, ?_⟩
  refine ⟨.non, _, I.lset (its' := its ++ its2) hH e (by simp) (r.append r2) ?_, rfl, q⟩
  rw [List.length_append]
  omega

def rPop : V → List V → Hp → VK → Prop := fun x vs H Q => ∃ l xs y, x = .ref l ∧ vs = [] ∧ H l = some (.lst xs) ∧ xs[xs.length - 1]? = some y ∧ Q y (upd H l (.lst xs.dropLast))
theorem mt_pop : MtM X "list.pop" rPop := by
  intro pins s σ H x vs v us Q I rx rv h
  obtain ⟨l, xs, y, rfl, rfl, hH, hy, q⟩ := h
  cases rx
  have hus := rv.zero
  subst hus
  obtain ⟨z, its, n, r, hl, e⟩ := I.lstM hH
  obtain ⟨u, hu, ru⟩ := r.get hy
  have hy' : its.toArray[its.toArray.size - 1]? = some u := by
    show its.toArray[its.length - 1]? = some u
    rw [← Array.getElem?_toList, ← hl]
    exact hu
  refine call_meets F.slot_list_pop ⟨_, e, rfl⟩ F.entry_list_pop (F.args_list_pop_1 _) (MeetsSeq.list_pop_last l its.toArray n u hy' (by rw [List.size_toArray]; omega)) ⟨e, ?_⟩
  refine ⟨y, _, I.lset (its' := its.dropLast) hH e ?_ r.dropLast ?_, ru, q⟩
  · show its.toArray.eraseIdxIfInBounds (its.toArray.size - 1) = its.dropLast.toArray
    rw [List.size_toArray, List.eraseIdxIfInBounds_toArray, erase_last]
  · rw [List.length_dropLast]
    omega

def rPopAt : V → List V → Hp → VK → Prop := fun x vs H Q => ∃ l xs i k y, x = .ref l ∧ vs = [.int i] ∧ H l = some (.lst xs) ∧ -(2 ^ 63) ≤ i ∧ i < 2 ^ 63 ∧ seqIndex? i xs.length = some k ∧ xs[k]? = some y ∧ Q y (upd H l (.lst (xs.eraseIdx k)))
theorem mt_popAt : MtM X "list.pop" rPopAt := by
  intro pins s σ H x vs v us Q I rx rv h
  obtain ⟨l, xs, i, k, y, rfl, rfl, hH, h1, h2, hk, hy, q⟩ := h
  cases rx
  obtain ⟨u, rfl, ru⟩ := rv.one
  obtain ⟨t, rfl⟩ := ru
  obtain ⟨z, its, n, r, hl, e⟩ := I.lstM hH
  obtain ⟨w, hw, rw'⟩ := r.get hy
  refine call_meets F.slot_list_pop ⟨_, e, rfl⟩ F.entry_list_pop (F.args_list_pop_2 _ _)
    (MeetsSeq.list_pop_at l its.toArray n i t k w (fitsIndex_both h1 h2) (by rw [List.size_toArray, ← hl]; exact hk) (by rw [← Array.getElem?_toList]; exact hw) (by rw [List.size_toArray]; omega)) ⟨e, ?_⟩
  refine ⟨y, _, I.lset (its' := its.eraseIdx k) hH e ?_ (r.eraseIdx k) ?_, rw', q⟩
  · show its.toArray.eraseIdxIfInBounds k = (its.eraseIdx k).toArray
    rw [List.eraseIdxIfInBounds_toArray]
  · have := len_erase xs k
    omega

def rReverse : V → List V → Hp → VK → Prop := fun x vs H Q => ∃ l xs, x = .ref l ∧ vs = [] ∧ H l = some (.lst xs) ∧ Q .non (upd H l (.lst xs.reverse))
theorem mt_reverse : MtM X "list.reverse" rReverse := by
  intro pins s σ H x vs v us Q I rx rv h
  obtain ⟨l, xs, rfl, rfl, hH, q⟩ := h
  cases rx
  have hus := rv.zero
  subst hus
  obtain ⟨z, its, n, r, hl, e⟩ := I.lstM hH
  refine call_meets F.slot_list_reverse ⟨_, e, rfl⟩ F.entry_list_reverse (F.args_list_reverse_1 _) (AutoSeq1.list_reverse_list_0 l its.toArray n (by rw [List.size_toArray]; omega)) ⟨e, ?_⟩
  refine ⟨.non, _, I.lset (its' := its.reverse) hH e (by simp) r.reverse ?_, rfl, q⟩
  rw [List.length_reverse]
  omega

def rClear : V → List V → Hp → VK → Prop := fun x vs H Q => ∃ l xs, x = .ref l ∧ vs = [] ∧ H l = some (.lst xs) ∧ Q .non (upd H l (.lst []))
theorem mt_clear : MtM X "list.clear" rClear := by
  intro pins s σ H x vs v us Q I rx rv h
  obtain ⟨l, xs, rfl, rfl, hH, q⟩ := h
  cases rx
  have hus := rv.zero
  subst hus
  obtain ⟨z, its, n, r, hl, e⟩ := I.lstM hH
  refine call_meets F.slot_list_clear ⟨_, e, rfl⟩ F.entry_list_clear (F.args_list_clear_1 _) (AutoSeq1.list_clear_list_0 l its.toArray n (by rw [List.size_toArray]; omega)) ⟨e, ?_⟩
  exact ⟨.non, _, I.lset (its' := []) (ys := []) hH e rfl .nil (Nat.zero_le _), rfl, q⟩

/-! ### list + list, list += list, list * int -/
def rCat : R2 := fun x y H Q => ∃ l b xs zs, x = .ref l ∧ y = .ref b ∧ H l = some (.lst xs) ∧ H b = some (.lst zs) ∧ xs.length + zs.length ≤ sizeLine ∧ ∀ p, H p = none → Q (.ref p) (upd H p (.lst (xs ++ zs)))
theorem op_cat : OpR X (binaryOp .Add) rCat := by
  intro pins s σ H x y v u Q I rx ry h
  obtain ⟨l, b, xs, zs, rfl, rfl, hH, hB, hz, q⟩ := h
  cases rx
  cases ry
  obtain ⟨z, its, n, r, hl, e⟩ := I.lstM hH
  obtain ⟨z2, its2, n2, r2, hl2, e2⟩ := I.lstM hB
  refine PySem.P.add_list e e2 ?_ (by rw [List.size_toArray, List.size_toArray]; omega)
  have ea : its.toArray ++ its2.toArray = (its ++ its2).toArray := by simp
  rw [ea]
  exact ⟨.ref _, _, I.lnew (t' := s.toks) (r.append r2) (by rw [List.length_append]; omega), rfl, q _ I.fresh⟩
/-- a list times an int (a negative one is nothing) -/
def rRep : R2 := fun x y H Q => ∃ l k xs, x = .ref l ∧ y = .int k ∧ H l = some (.lst xs) ∧ -(2 ^ 63) ≤ k ∧ k < 2 ^ 63 ∧ xs.length * k.toNat ≤ sizeLine ∧
  ∀ p, H p = none → Q (.ref p) (upd H p (.lst (List.replicate k.toNat xs).flatten))
theorem len_rep {α : Type} (xs : List α) (k : Nat) : (List.replicate k xs).flatten.length = k * xs.length := by
  induction k with
  | zero => simp
  | succ k ih => rw [List.replicate_succ, List.flatten_cons, List.length_append, ih, Nat.succ_mul, Nat.add_comm]
theorem op_rep : OpR X (binaryOp .Mult) rRep := by
  intro pins s σ H x y v u Q I rx ry h
  obtain ⟨l, k, xs, rfl, rfl, hH, h1, h2, hz, q⟩ := h
  cases rx
  obtain ⟨t, rfl⟩ := ry
  obtain ⟨z, its, n, r, hl, e⟩ := I.lstM hH
  have hlen : its.toArray.size * k.toNat ≤ sizeLine := by rw [List.size_toArray, ← hl]; exact hz
  have hcap : ¬ its.toArray.size * k.toNat > (2 ^ 63 - 1) / 8 := by
    have : (sizeLine : Nat) ≤ (2 ^ 63 - 1) / 8 := by decide
    omega
  have hfit : ¬ (!Builtin.List.listFitsIndex k) = true := by
    rw [fitsIndex_both h1 h2]
    exact Bool.false_ne_true
  have hlong : ¬ Builtin.List.listTooLong (its.toArray.size * k.toNat) = true := by
    rw [notLongL hlen]
    exact Bool.false_ne_true
  have hnew : List.foldl (fun x1 x2 => x1 ++ x2) #[] (List.replicate (if its.toArray.isEmpty = true then 0 else k.toNat) its.toArray) = (List.replicate k.toNat its).flatten.toArray := by
    have f0 : ∀ m : Nat, List.foldl (fun x1 x2 => x1 ++ x2) #[] (List.replicate m its.toArray) = (List.replicate m its).flatten.toArray := fun m => by
      have := foldl_rep its m []
      rw [List.nil_append] at this
      exact this
    rw [f0]
    cases its with
    | nil => simp
    | cons a r' => rw [if_neg (by simp)]
  refine wpAny_binaryOp_repeat_ref (T := "list") (U := "int") (by decide) ⟨_, e, rfl⟩ (fun s' => typeIs_int s' k t) noFill_list_mul F.fills_int_mul F.slot_int_rmul repeat_list F.slot_int_index.lookup
    (call_meets F.slot_int_rmul (typeIs_int s k t) F.entry_int_rmul (F.args_int_rmul_2 _ _) (int___rmul___int_list k t l its.toArray n)
      ⟨e, rfl, ⟨_, e, rfl⟩, call_meets F.slot_list_mul ⟨_, e, rfl⟩ F.entry_list_mul (F.args_list_mul_2 _ _) (AutoListH.list___mul___list_int_3 l its.toArray n k t hfit hcap hlong) ⟨e, ?_⟩⟩)
  rw [hnew]
  exact ⟨.ref _, _, I.lnew (t' := s.toks) (r.rep k.toNat) (by rw [len_rep, Nat.mul_comm]; exact hz), rfl, q _ I.fresh⟩

/-! ### del xs[i] -/
theorem del_list {pins : List (Addr × Obj)} {s : Shared} {σ : St} {H : Hp} {l : Addr} {xs : List V} {i : Int} {t : Tok} {k : Nat} {Q : Unit → Shared → Prop} (I : Inv X pins σ H s) (hH : H l = some (.lst xs))
    (h1 : -(2 ^ 63) ≤ i) (h2 : i < 2 ^ 63) (hk : seqIndex? i xs.length = some k) (h : ∀ s', Inv X pins σ (upd H l (.lst (xs.eraseIdx k))) s' → Q () s') :
    wpAny (model X.prog X.w) X.A (delItem (.ref l) (.int i t)) Q X.xe s := by
  obtain ⟨z, its, n, r, hl, e⟩ := I.lstM hH
  refine PySem.P.delItem_list (k := k) e (fitsIndex_both h1 h2) (by rw [List.size_toArray, ← hl]; exact hk) (h _ ?_) (by rw [List.size_toArray]; omega)
  refine I.lset (its' := its.eraseIdx k) (t' := s.toks) hH e ?_ (r.eraseIdx k) ?_
  · show its.toArray.eraseIdxIfInBounds k = (its.eraseIdx k).toArray
    rw [List.eraseIdxIfInBounds_toArray]
  · have := len_erase xs k
    omega
end

/-! ### xs[a:b] = ys -/
section
variable {prog : Program} {w : World} {A : Around} {E : Value → Shared → Prop} {s : Shared}
theorem splice_eq (its its2 : List Value) (a c : Nat) : its.toArray.extract 0 a ++ its2.toArray ++ its.toArray.extract c its.toArray.size = (its.take a ++ its2 ++ its.drop c).toArray := by
  apply Array.toList_inj.mp
  first
    | (simp
       exact List.take_of_length_le (by simp))
    | simp [List.take_of_length_le]
    | simp
theorem bounds_run {a c n : Nat} (hac : a ≤ c) (hc : c ≤ n) : sliceBounds (some (a : Int)) (some (c : Int)) none n = ((a : Int), (c : Int), 1) := by
  simp only [sliceBounds, Option.getD_none]
  have h1 : ¬ ((a : Int) < 0) := by omega
  have h2 : ¬ ((c : Int) < 0) := by omega
  simp only [h1, h2, if_false, show (1 : Int) > 0 by decide, if_true]
  congr 1
  · omega
  · congr 1; omega
set_option maxRecDepth 100000 in
/-- list.__setitem__ with a slice of step one and another list -/
theorem setItem_slice {l b sl : Addr} {items new : Array Value} {n n2 : Nat} {vl vu : Value} {a c : Nat} {Q : Unit → Shared → Prop}
    (e : s.heap.get? l = some { cls := .type "list", data := .seq items n }) (e2 : s.heap.get? b = some { cls := .type "list", data := .seq new n2 }) (hne : l ≠ b)
    (hs : s.heap.IsSliceOf sl vl vu .none) (pl : IsPart vl (some (a : Int))) (pu : IsPart vu (some (c : Int))) (hac : a ≤ c) (hc : c ≤ items.size)
    (hsz : items.size + new.size ≤ sizeLine) (h : Q () { s with heap := s.heap.update l (Obj.mapSeq fun xs => xs.extract 0 a ++ new ++ xs.extract c xs.size) }) :
    wpAny (model prog w) A (setItem (.ref l) (.ref sl) (.ref b)) Q E s := by
  have hl : s.heap.IsList l items := PySem.IsL.isList e
  have hb : s.heap.IsList b new := PySem.IsL.isList e2
  obtain ⟨os, hos, hcs, hds⟩ := id hs
  have hTs : s.TypeIs (.ref sl) "slice" := ⟨os, hos, hcs⟩
  have hstep : ¬ ((rawPart none == rawInt 0) = true) := Bool.false_ne_true
  have hsame : Builtin.List.listSameRef (.ref l) (.ref b) = false := by
    unfold Builtin.List.listSameRef
    exact beq_eq_false_iff_ne.mpr hne
  have hmax : (max (a : Int) (c : Int)).toNat = c := by omega
  have hz' : ((fun xs : Array Value => xs.extract 0 a ++ new ++ xs.extract c xs.size) items).size ≤ sizeLine + 1 := by
    simp only [Array.size_append, Array.size_extract]
    omega
  unfold setItem
  try with_reducible refine wpAny_holding ?_
  first | refine wpAny_bind (wpAny_pure ?_) | skip
  refine wpAny_bind (wpAny_sequenceKey hl.typeIs (by decide) ?_)
  refine wpAny_bind (wpAny_callSpecial?_slot (name := Str.ofString "__setitem__") hl.typeIs slot_list_setitem
    (wpAny_call_entry slot_list_setitem hl.typeIs entry_list_setitem ?_ (args_list_setitem _ _ _)))
  show wpAny _ _ (Builtin.List.listSubscript? (.ref sl) >>= _) _ _ s
  refine wpAny_bind ?_
  unfold Builtin.List.listSubscript?
  refine wpAny_bind (wpAny_specialOf hTs slice_no_index ?_)
  simp only [Option.isNone_none, if_true]
  refine wpAny_pure ?_
  show wpAny _ _ (typeOf (.ref sl) >>= _) _ _ s
  refine wpAny_bind (wpAny_typeOf hTs ?_)
  first
    | rw [if_neg (by decide)]
    | refine PySem.W.KFB.if_not (by decide) ?_
  rw [listSliceParts_eq]
  refine wpAny_bind (wpAny_bind (wpAny_field hos hds (x := .none) rfl (wpAny_bind (wpAny_listPart .none ?_))))
  rw [if_neg hstep]
  refine wpAny_bind (wpAny_field hos hds (x := vl) rfl (wpAny_bind (wpAny_listPart pl ?_)))
  refine wpAny_bind (wpAny_field hos hds (x := vu) rfl (wpAny_bind (wpAny_listPart pu (wpAny_pure ?_))))
  first
    | simp only [hsame, Bool.false_eq_true, if_false]
    | refine PySem.W.KFB.if_not hsame ?_
    | (dsimp only
       rw [if_neg (by rw [hsame]; exact Bool.false_ne_true)])
  refine wpAny_bind (m := Builtin.List.listAllItems (.ref b) "must assign iterable to extended slice") ?_
  unfold Builtin.List.listAllItems
  refine wpAny_bind (wpAny_typeOf hb.typeIs ?_)
  first
    | refine PySem.W.KFB.if_so (by decide) ?_
    | rw [if_pos (by decide)]
    | simp only [beq_self_eq_true, Bool.true_or, if_true]
  unfold Builtin.List.listItems
  refine wpAny_bind (wpAny_seqItems e2 rfl (wpAny_pure ?_))
  refine wpAny_bind (wpAny_bind (wpAny_seqItems e rfl (wpAny_pure ?_)))
  refine wpAny_bind (wpAny_of_eq ((sliceIndices_raw (some (a : Int)) (some (c : Int)) none items.size (by simp)).trans (congrArg (pure : Int × Int × Int → Sem (Int × Int × Int)) (bounds_run hac hc))) ?_)
  show wpAny _ _ (if ((1 : Int) == 1) = true then _ else _) _ _ s
  rw [if_pos (by decide)]
  refine wpAny_bind (wpAny_rule ?_)
  first
    | simp only [notLongL hsz, Bool.false_eq_true, if_false]
    | refine PySem.W.KFB.if_not (notLongL hsz) ?_
  first | refine wpAny_bind (wpAny_pure ?_) | skip
  show wpAny _ _ (updateSeq l (fun xs => xs.extract 0 ((a : Int)).toNat ++ new ++ xs.extract (max (a : Int) (c : Int)).toNat xs.size) >>= _) _ _ s
  rw [hmax, Int.toNat_natCast]
  refine wpAny_bind (wpAny_updateSeq (hz := Nat.le_trans (Nat.le_add_right _ _) hsz) (_hz' := hz') e rfl ?_)
  refine wpAny_bind (wpAny_letGo ?_)
  first
    | exact wpAny_bind (wpAny_pure (wpAny_pure ⟨.none, rfl, wpAny_pure h⟩))
    | exact wpAny_pure ⟨.none, rfl, wpAny_pure h⟩
end

section
variable {X : Cx}
/-- xs[a:c] = ys of another list, at the value level: sl is the slice object that was just made -/
theorem set_slice {pins : List (Addr × Obj)} {s : Shared} {σ : St} {H : Hp} {l b sl : Addr} {xs ys : List V} {a c : Int} {vl vu : Value} {Q : Unit → Shared → Prop} (I : Inv X pins σ H s)
    (hH : H l = some (.lst xs)) (hB : H b = some (.lst ys)) (hne : l ≠ b) (hs : s.heap.IsSliceOf sl vl vu .none) (ra : RelV (.int a) vl) (rc : RelV (.int c) vu) (h0 : 0 ≤ a) (hac : a ≤ c) (hc : c ≤ xs.length)
    (hz : xs.length + ys.length ≤ sizeLine) (h : ∀ s', Inv X pins σ (upd H l (.lst (xs.take a.toNat ++ ys ++ xs.drop c.toNat))) s' → Q () s') :
    wpAny (model X.prog X.w) X.A (setItem (.ref l) (.ref sl) (.ref b)) Q X.xe s := by
  obtain ⟨ta, rfl⟩ := ra
  obtain ⟨tc, rfl⟩ := rc
  obtain ⟨z, its, n, r, hl, e⟩ := I.lstM hH
  obtain ⟨z2, its2, n2, r2, hl2, e2⟩ := I.lstM hB
  obtain ⟨a', rfl⟩ := Int.eq_ofNat_of_zero_le h0
  obtain ⟨c', rfl⟩ := Int.eq_ofNat_of_zero_le (Int.le_trans h0 hac)
  simp only [Int.toNat_natCast] at h
  refine setItem_slice (a := a') (c := c') e e2 hne hs (.int _ _) (.int _ _) (by omega) (by rw [List.size_toArray]; omega) (by rw [List.size_toArray, List.size_toArray]; omega) (h _ ?_)
  refine I.lset (its' := its.take a' ++ its2 ++ its.drop c') (t' := s.toks) hH e ?_ (Vals.append (Vals.append (r.take _) r2) (r.drop _)) ?_
  · exact splice_eq its its2 a' c'
  · rw [List.length_append, List.length_append, List.length_take, List.length_drop]
    omega
end
end L2

namespace Att
open PySem PySem.W PySem.Calls PyProof.Rows

/-! ### the script -/
theorem ints_of_wellAll {P : Params} {h : Heap} : ∀ (ns : List Int) (vs : List Value), WellAll P h vs (ns.map WData.int) → IntsAre vs ns := by
  intro ns
  induction ns with
  | nil =>
    intro vs w
    rw [List.map_nil] at w
    cases w
    exact .nil
  | cons n ns ih =>
    intro vs w
    rw [List.map_cons] at w
    cases w with
    | cons a b =>
      cases a
      exact .cons _ _ (ih _ b)

theorem script_of {l : OpenLaw} {n : Nat} (hn : l.most = some n) {P : Params} {h : Heap} {args : List WData} {vals : List Value}
    (hpre : l.row.toRowW.claim.pre args = true) (hwl : WellAll P h vals args) :
    ∃ a vs ns, vals = [Value.ref a] ∧ args = [WData.list (ns.map WData.int)] ∧ h.get? a = some { cls := .type "list", data := .seq vs.toArray } ∧ IntsAre vs ns ∧ ns.length ≤ n := by
  have hsh : WShape.hasAll [] args [.list .int] = true := (pre_splitW hpre).1
  have hc : l.pre.holds [] { args := args } = true := (pre_splitW hpre).2
  obtain ⟨d, r, rfl, h1, h2⟩ := hasAllW_cons hsh
  obtain rfl := hasAllW_nil h2
  obtain ⟨xs, rfl, h3⟩ := hasW_list h1
  obtain ⟨ns, rfl⟩ := items_int h3
  have hlen : ns.length ≤ n := by
    unfold OpenLaw.pre at hc
    have h4 : (WTm.not (.lt (.lit (.int (n : Int))) (.len (.arg 0)))).holds [] { args := [.list (ns.map .int)] } = true := by
      have h4 := (holds_andW hc).1
      rw [hn] at h4
      exact h4
    have h5 := condW_of h4 (w_not (w_lt w_lit (w_len_list (w_arg rfl))))
    rw [List.length_map] at h5
    refine Nat.le_of_not_lt fun q => ?_
    have q' : (n : Int) < ((ns.length : Nat) : Int) := by omega
    first
      | (rw [decide_eq_true q'] at h5; exact absurd h5 (by decide))
      | (simp at h5; omega)
  cases hwl with
  | cons w1 w2 =>
    cases w2
    cases w1 with
    | list ho hall => exact ⟨_, _, ns, rfl, rfl, ho, ints_of_wellAll ns _ hall, hlen⟩

theorem post_true (l : OpenLaw) (args : List WData) : l.row.toRowW.claim.post args (.bool true) args = true :=
  postW_of (r := l.row.toRowW) (X := (true == true))
    (show WShape.has [] (.bool true) .bool = true by first | rfl | decide | simp [WShape.has, WShape.arms, WShape.armsAll])
    (show (WTm.eq .res (.lit (.bool true))).value [] { args := args, res := some (.bool true), after := args } = some (.bool (true == true)) from w_eq_bool (w_res rfl) w_lit) rfl

/-! ### the attachment: holds_open's last premise (the goal 'hc' behind k_head) from a wpAny of the law's body -/
theorem attach {l : OpenLaw} {n : Nat} {q : Program} {loose : List Str} {XP : (Str → Option Value) → Heap → Prop} {YP : World → Heap → Prop} {d : DefRec} {x : Str}
    (hn : l.most = some n) (hdf : d.params.defaults = [])
    (hbind : ∀ pm cd doc v : Value, bindArgs (docDef d.name d.params d.body d.scope pm cd doc) ⟨[v], []⟩ = pure [(x, v)])
    (hx : d.scope.names.lookup x = some .local ∨ d.scope.names.lookup x = some .cell)
    (hk : d.scope.kind = .function) (hco : d.scope.isCoroutine = false) (hgen : d.scope.isGenerator = false)
    (body : ∀ (w : World) (s₀ s₁ s : Shared) (mg mb : Str → Option Value) (fa : Addr) (o : Obj) (pm cd doc : Value) (a : Addr) (vs : List Value) (ns : List Int),
      Ground q loose [] XP w s₀ mg mb s₁.heap → YP w s₁.heap →
      s₁.heap.get? fa = some o → o.data = .func (docDef d.name d.params d.body d.scope pm cd doc) → s₁.heap.CodeRec cd d.name → mg d.name = some (.ref fa) →
      s₁.heap.get? a = some { cls := .type "list", data := .seq vs.toArray } → IntsAre vs ns → ns.length ≤ n →
      s.gens = #[] → s.os = s₁.os →
      Fr s₁.heap s₁.heap.objs.size s.heap (bindL (envOfC d.name d.scope s₁.heap.objs.size fa cd).kindOf [(x, .ref a)] fun _ => none) →
      Cl s₁.heap.objs.size (cellsFrom (s₁.heap.objs.size + 1) d.scope.names []) s.heap (bindC (envOfC d.name d.scope s₁.heap.objs.size fa cd).kindOf [(x, .ref a)] fun _ => none) →
      wpAny (model l.prog w) (callerA.deeper (envOfC d.name d.scope s₁.heap.objs.size fa cd)) (execs d.body (envOfC d.name d.scope s₁.heap.objs.size fa cd))
        (fun f s' => f = .ret (.bool true) ∧ OldK s₁.heap s'.heap ∧ s'.os = s₁.os ∧ AllBare s'.gens) (fun _ _ => False) s) :
    WalkO q loose XP YP l.row.toRowW d [] (fun f vs => PySem.call f vs) := by
  intro w s₀ s₁ mg mb G Y fa o pm cd doc dV kV ho hd hcd hD hmg hg args vals as hpre hlay hrd hwl hlo
  obtain rfl : dV = .none := Dflts.none hD hdf
  obtain rfl : kV = .none := Dflts.noKw hD
  obtain ⟨a, vs, ns, rfl, rfl, hobj, hints, hlen⟩ := script_of hn hpre hwl
  refine enter_call ?_
  refine call_cells_ret (o := o) (by rw [depth_caller]; decide) ho (fd_plain hd) G.T.nolimit hcd (hbind pm cd doc (.ref a)) (fun y hy => ?_) (fun h₁ tk F X => ?_) hco hgen hk
  · obtain rfl : y = (x, Value.ref a) := List.mem_singleton.mp hy
    rcases hx with e | e
    · exact .inl e
    · exact .inr ⟨e, cellsFrom_some _ _ _ (.inl e)⟩
  · refine wpAny_mono (body w s₀ s₁ { s₁ with heap := h₁, toks := tk } mg mb fa o pm cd doc a vs ns G Y ho (fd_plain hd) hcd hmg hobj hints hlen hg rfl F X) (fun f s' hq => ?_) (fun _ _ hq => hq)
    obtain ⟨rfl, h2, h3, h4⟩ := hq
    exact ⟨.inl ⟨.bool true, .bool true, [], rfl, fun _ => rfl, .bool true, post_true l _, fun _ => ⟨List.Pairwise.nil, fun _ hm => (nomatch hm)⟩⟩, h2, h3, h4⟩

/-- the same from a codeAny of the CALL (for a layer whose function contracts speak of calls) -/
theorem attach_call {l : OpenLaw} {n : Nat} {q : Program} {loose : List Str} {XP : (Str → Option Value) → Heap → Prop} {YP : World → Heap → Prop} {d : DefRec}
    (hn : l.most = some n) (hdf : d.params.defaults = [])
    (call : ∀ (w : World) (s₀ s₁ : Shared) (mg mb : Str → Option Value) (fa : Addr) (o : Obj) (pm cd doc : Value) (a : Addr) (vs : List Value) (ns : List Int),
      Ground q loose [] XP w s₀ mg mb s₁.heap → YP w s₁.heap →
      s₁.heap.get? fa = some o → o.data = .func (docDef d.name d.params d.body d.scope pm cd doc) → s₁.heap.CodeRec cd d.name → mg d.name = some (.ref fa) →
      s₁.heap.get? a = some { cls := .type "list", data := .seq vs.toArray } → IntsAre vs ns → ns.length ≤ n → s₁.gens = #[] →
      codeAny (model l.prog w) callerA (.call (.ref fa) ⟨[.ref a], []⟩) (fun r s' => r = .ok (.ret (.bool true)) ∧ OldK s₁.heap s'.heap ∧ s'.os = s₁.os ∧ AllBare s'.gens) s₁) :
    WalkO q loose XP YP l.row.toRowW d [] (fun f vs => PySem.call f vs) := by
  intro w s₀ s₁ mg mb G Y fa o pm cd doc dV kV ho hd hcd hD hmg hg args vals as hpre hlay hrd hwl hlo
  obtain rfl : dV = .none := Dflts.none hD hdf
  obtain rfl : kV = .none := Dflts.noKw hD
  obtain ⟨a, vs, ns, rfl, rfl, hobj, hints, hlen⟩ := script_of hn hpre hwl
  refine enter_call (codeAny_mono (call w s₀ s₁ mg mb fa o pm cd doc a vs ns G Y ho (fd_plain hd) hcd hmg hobj hints hlen hg) fun r s' hq => ?_)
  obtain ⟨rfl, h2, h3, h4⟩ := hq
  exact ⟨.inl ⟨.bool true, .bool true, [], rfl, fun _ => rfl, .bool true, post_true l _, fun _ => ⟨List.Pairwise.nil, fun _ hm => (nomatch hm)⟩⟩, h2, h3, h4⟩

/-- the same where the top left finished generators (o_head chose holds_openN): nothing may have changed at all and no generator may be left -/
theorem attachN {l : OpenLaw} {n : Nat} {q : Program} {loose : List Str} {XP : (Str → Option Value) → Heap → Prop} {YP : World → Heap → Prop} {d : DefRec} {x : Str}
    (hn : l.most = some n) (hdf : d.params.defaults = [])
    (hbind : ∀ pm cd doc v : Value, bindArgs (docDef d.name d.params d.body d.scope pm cd doc) ⟨[v], []⟩ = pure [(x, v)])
    (hx : d.scope.names.lookup x = some .local ∨ d.scope.names.lookup x = some .cell)
    (hk : d.scope.kind = .function) (hco : d.scope.isCoroutine = false) (hgen : d.scope.isGenerator = false)
    (body : ∀ (w : World) (s₀ s₁ s : Shared) (mg mb : Str → Option Value) (fa : Addr) (o : Obj) (pm cd doc : Value) (a : Addr) (vs : List Value) (ns : List Int),
      Ground q loose [] XP w s₀ mg mb s₁.heap → YP w s₁.heap →
      s₁.heap.get? fa = some o → o.data = .func (docDef d.name d.params d.body d.scope pm cd doc) → s₁.heap.CodeRec cd d.name → mg d.name = some (.ref fa) →
      s₁.heap.get? a = some { cls := .type "list", data := .seq vs.toArray } → IntsAre vs ns → ns.length ≤ n →
      s.gens = #[] → s.os = s₁.os →
      Fr s₁.heap s₁.heap.objs.size s.heap (bindL (envOfC d.name d.scope s₁.heap.objs.size fa cd).kindOf [(x, .ref a)] fun _ => none) →
      Cl s₁.heap.objs.size (cellsFrom (s₁.heap.objs.size + 1) d.scope.names []) s.heap (bindC (envOfC d.name d.scope s₁.heap.objs.size fa cd).kindOf [(x, .ref a)] fun _ => none) →
      wpAny (model l.prog w) (callerA.deeper (envOfC d.name d.scope s₁.heap.objs.size fa cd)) (execs d.body (envOfC d.name d.scope s₁.heap.objs.size fa cd))
        (fun f s' => f = .ret (.bool true) ∧ (∀ b o, s₁.heap.get? b = some o → s'.heap.get? b = some o) ∧ s'.os = s₁.os ∧ s'.gens = #[]) (fun _ _ => False) s) :
    WalkN q loose XP YP l.row.toRowW d [] (fun f vs => PySem.call f vs) := by
  intro w s₀ s₁ mg mb G Y fa o pm cd doc dV kV ho hd hcd hD hmg hg args vals as hpre hlay hrd hwl hlo
  obtain rfl : dV = .none := Dflts.none hD hdf
  obtain rfl : kV = .none := Dflts.noKw hD
  obtain ⟨a, vs, ns, rfl, rfl, hobj, hints, hlen⟩ := script_of hn hpre hwl
  refine enter_callW ?_
  refine call_cells_ret (o := o) (by rw [depth_caller]; decide) ho (fd_plain hd) G.T.nolimit hcd (hbind pm cd doc (.ref a)) (fun y hy => ?_) (fun h₁ tk F X => ?_) hco hgen hk
  · obtain rfl : y = (x, Value.ref a) := List.mem_singleton.mp hy
    rcases hx with e | e
    · exact .inl e
    · exact .inr ⟨e, cellsFrom_some _ _ _ (.inl e)⟩
  · refine wpAny_mono (body w s₀ s₁ { s₁ with heap := h₁, toks := tk } mg mb fa o pm cd doc a vs ns G Y ho (fd_plain hd) hcd hmg hobj hints hlen hg rfl F X) (fun f s' hq => ?_) (fun _ _ hq => hq)
    obtain ⟨rfl, h2, h3, h4⟩ := hq
    exact ⟨.inl ⟨.bool true, .bool true, [], rfl, fun _ => rfl, .bool true, post_true l _, fun _ => ⟨List.Pairwise.nil, fun _ hm => (nomatch hm)⟩⟩, h2, h3, h4⟩

/-! ### rules over ANY heap (no ledger) from facts about the written part K: the library's own take a ledger (News) for what they write -/
section
variable {prog : Program} {w : World} {A : Around} {E : Value → Shared → Prop} {s : Shared} {K : Frag}

/-- a def of the module, or a method (qual 'C.m'), entered: the frame is the next address; cells behind it -/
theorem call_fn {R : Result → Shared → Prop} {name qual : Str} {params : Arguments} {body : List Stmt} {scope : Scope} {dV kV doc pm cdv ct oc : Value} {an od : Option Addr} {osl : Array (Option Value)} {f : Addr} {args : Args} {binds : List (Str × Value)}
    (X : K.In s.heap) (hlim : s.heap.NoLimit) (ho : K.lookup f = some ⟨oc, od, .func (fnOf name qual params body scope dV kV doc pm an cdv ct), osl⟩) (hcd : codeIn K cdv qual = true) (hroom : A.depth < recursionLimit)
    (hbind : BindsTo s (fnOf name qual params body scope dV kV doc pm an cdv ct) args binds)
    (hkind : (binds.all fun y => scope.names.lookup y.1 == some .local || scope.names.lookup y.1 == some .cell) = true)
    (h : ∀ s₁, InCallC s s.heap.objs.size (bindL (envOfC qual scope s.heap.objs.size f cdv).kindOf binds fun _ => none) (cellsFrom (s.heap.objs.size + 1) scope.names [])
        (bindC (envOfC qual scope s.heap.objs.size f cdv).kindOf binds fun _ => none) s₁ →
      wpAny (model prog w) (A.deeper (envOfC qual scope s.heap.objs.size f cdv)) (execs body (envOfC qual scope s.heap.objs.size f cdv))
        (fun fl s' => R (.ok (.ret (match fl with | .ret v => v | _ => .none))) s')
        (fun e s' => wpAny (model prog w) (A.deeper (envOfC qual scope s.heap.objs.size f cdv)) (leaving (envOfC qual scope s.heap.objs.size f cdv) e) (fun _ s'' => R (.error e) s'') (fun e' s'' => R (.error e') s'') s') s₁)
    (hco : scope.isCoroutine = false) (hgen : scope.isGenerator = false) (hk : scope.kind = .function) : codeAny (model prog w) A (.call (.ref f) args) R s := by
  refine codeAny_call_function hroom (X _ _ ho) rfl hco hgen rfl (codeRec_of X hcd) (hbind _ _ _ _ ?_)
  refine wpAny_newFunctionEnv_cells hk (kindsX hkind _) fun env he s₁ x => ?_
  subst he
  exact ⟨hlim.keeps x.toInCall.keep, codeAny_func (h s₁ x)⟩

/-- C(..): dict at size, instance at size + 1, then __init__ -/
theorem make_obj {R : Result → Shared → Prop} {C fI : Addr} {rest : List Value} {kw : List (Str × Value)}
    (X : K.In s.heap) (hm : makesIn K C = true) (hi : findIn K (.ref C) "__init__" = some (some (.ref fI))) (hf : isFn K (.ref fI) = true)
    (h : codeAny (model prog w) (A.under (.builtin "type.__call__" ⟨.ref C :: rest, kw⟩)) (.call (.ref fI) ⟨.ref (s.heap.objs.size + 1) :: rest, kw⟩) (InitBack (s.heap.objs.size + 1) R)
      { s with heap := (s.heap.push emptyDict).push (instObj C s.heap.objs.size) }) : codeAny (model prog w) A (.call (.ref C) ⟨rest, kw⟩) R s := by
  obtain ⟨hh, g, d, t, os⟩ := s
  exact make_core (makes_of X hm) (looks_findIn X hi) (fun self => bind_fn X self (beq_iff_eq.mp hf)) (.inl rfl) h

/-- x.name where the instance's dict holds the name and the class does not -/
theorem get_field {x C : Addr} {ox : Obj} {es : List DictEntry} {n : Nat} {name : Str} {expr : Bool} {v : Value} {Q : Value → Shared → Prop}
    (X : K.In s.heap) (I : PySem.W.InstAt s.heap x ox C (some (dictOf es n))) (hg : plainGet K C name = true) (hh : hasDictIn K C = true) (ha : findIn K (.ref C) name = some none)
    (hl : getL name es = some (some v)) (hv : handedIn v = true) (h : Q v { s with toks := s.toks + 1 }) : wpAny (model prog w) A (getAttr (.ref x) name expr) Q E s :=
  get_value X I (plainGet_of hg).1 (findObj_own hh ha rfl hl) hv h

/-- x.m(..): the method found in the class -/
theorem get_method {x C f : Addr} {ox : Obj} {es : List DictEntry} {n : Nat} {name : Str} {pl : Sem Bool} {Q : Value × List Value → Shared → Prop}
    (X : K.In s.heap) (I : PySem.W.InstAt s.heap x ox C (some (dictOf es n))) (hg : plainGet K C name = true) (hf : findIn K (.ref C) name = some (some (.ref f))) (ht : isFn K (.ref f) = true)
    (hl : getL name es = some none) (h : Q (.ref f, [.ref x]) s) : wpAny (model prog w) A (getMethod (.ref x) name pl) Q E s :=
  method_fn X I (plainGet_of hg).1 (plainGet_of hg).2 hf (beq_iff_eq.mp ht) (by show (lookIn name (dictOf es n)).map _ = _; rw [lookIn_dict, hl]; rfl) h

/-! the whole heap as the ledger: makes every rule that writes through a ledger a rule over any heap -/
def noObjs (h : Heap) : Heap := { h with objs := #[] }
theorem noObjs_get (h : Heap) (b : Addr) : (noObjs h).get? b = none := by
  cases e : (noObjs h).get? b with
  | none => rfl
  | some o => exact absurd (Heap.lt_size e) (Nat.not_lt_zero _)
def ledger (h : Heap) (L d : Addr) : List (Addr × Obj) := (List.range h.objs.size).filterMap fun a => if a = L ∨ a = d then none else (h.get? a).map fun o => (a, o)
theorem mem_ledger {h : Heap} {L d a : Addr} {o : Obj} : (a, o) ∈ ledger h L d ↔ a ≠ L ∧ a ≠ d ∧ h.get? a = some o := by
  unfold ledger
  rw [List.mem_filterMap]
  constructor
  · rintro ⟨b, _, e⟩
    split at e
    · cases e
    · rename_i hb
      obtain ⟨o', ho, e'⟩ := Option.map_eq_some_iff.mp e
      cases e'
      exact ⟨fun q => hb (.inl q), fun q => hb (.inr q), ho⟩
  · rintro ⟨n1, n2, ho⟩
    refine ⟨a, List.mem_range.mpr (Heap.lt_size ho), ?_⟩
    rw [if_neg (show ¬ (a = L ∨ a = d) from fun q => q.elim n1 n2), ho] <;> rfl
theorem news_ledger {h : Heap} {L d : Addr} {od : Obj} (hne : d ≠ L) (ho : h.get? d = some od) : News (noObjs h) L h ([] ++ (d, od) :: ledger h L d) := by
  rintro ⟨a, o⟩ hp
  rcases List.mem_cons.mp hp with e | hp
  · cases e
    exact ⟨ho, hne, noObjs_get _ _⟩
  · obtain ⟨n1, n2, e⟩ := mem_ledger.mp hp
    exact ⟨e, n1, noObjs_get _ _⟩
theorem fr_all {h : Heap} {L : Addr} {m : Str → Option Value} (n : h.Ns L m) : Fr (noObjs h) L h m :=
  ⟨n, fun b o e => (by rw [noObjs_get] at e; cases e), Nat.zero_le _⟩
/-- Upd of the head entry (for append_K, setItem_K ..) -/
theorem upd_ledger {h : Heap} {L d : Addr} {o o' : Obj} : Upd d o o' ((d, o) :: ledger h L d) ((d, o') :: ledger h L d) :=
  .head fun ⟨_, _⟩ hp => (mem_ledger.mp hp).2.1

/-- x.name = v over any heap: L is any namespace of the heap (the frame's, say): its map stays, its object is not told; all else but the dict stays -/
theorem set_field {x C dx L : Addr} {ox : Obj} {m : Str → Option Value} {es es' : List DictEntry} {n n' : Nat} {name : Str} {v : Value} {Q : Unit → Shared → Prop}
    (X : K.In s.heap) (I : PySem.W.InstAt s.heap x ox C (some (dictOf es n))) (hd : ox.dict = some dx) (hL : s.heap.Ns L m) (hne : dx ≠ L)
    (hs : findIn K (.ref C) "__setattr__" = some (some (.builtin "object.__setattr__"))) (hp : plainOver K C = true) (ht : takerIn K C name = some none) (hh : hasDictIn K C = true) (hl : (getL name es).isSome = true)
    (e : (putL name (PyData.keyHash w.params name) (.str name (s.toks + 1)) v es, putN name es n) = (es', n')) (hz : es'.length ≤ 1000)
    (h : ∀ h' : Heap, h'.Ns L m → h'.get? dx = some (dictOf es' n') → (∀ b o, b ≠ dx → b ≠ L → s.heap.get? b = some o → h'.get? b = some o) → Q () { s with heap := h', toks := s.toks + 2 }) :
    wpAny (model prog w) A (setAttr (.ref x) name v) Q E s := by
  obtain ⟨e1, e2⟩ := Prod.mk.inj e
  have hdx : s.heap.get? dx = some (dictOf es n) := by
    have := I.dict
    rw [hd] at this
    exact this
  refine set_plain X I hs (osa_dict (s := { s with toks := s.toks + 1 }) (h₀ := noObjs s.heap) (L := L) (m := m) (od := dictOf es n) (od' := dictOf es' n') (es := es') (n := n') (pre := []) (post := ledger s.heap L dx)
    (fr_all hL) (news_ledger hne hdx) X I hd hp ht hh hl (fun _ q => nomatch q) (fun ⟨_, _⟩ q => (mem_ledger.mp q).2.1) (by rw [putName_dict, e1, e2]) rfl hz fun h' F' N' => ?_)
  exact h h' F'.ns (N'.get (List.Mem.head _)) fun b o n1 n2 ho => N'.get (List.Mem.tail _ (mem_ledger.mpr ⟨n2, n1, ho⟩))
end
end Att

namespace L2
open PySem PySem.Spec PyProof.Rows

theorem vals_ints : ∀ {vs : List Value} {ns : List Int}, IntsAre vs ns → Vals (ns.map V.int) vs
  | _, _, .nil => .nil
  | _, _, .cons n t h => .cons ⟨t, rfl⟩ (vals_ints h)

/-- nothing is tracked but the script, known to the object (or it is an object of the module) -/
def Only (H : Hp) : Prop := ∀ b, H b = none ∨ ∃ o xs, H b = some (.frz o (.lst xs))

/-- THE HEAD: the law's promise, at the heap behind the top. F, the promise of the law's def, may use that base is part of the heap (so K.In base, base.Ns mainGlobals mg stand in Mod) -/
theorem law_call {P : Program} {w : World} {K : PySem.W.Frag} {mg mb : Str → Option Value} {CX : CXT} {k : Nat} {fa a : Addr} {fd : FuncData} {x : Str} {sp : Sp} {s₁ : Shared} {vs : List Value} {ns : List Int}
    (KX : K.In s₁.heap) (hns : s₁.heap.Ns mainGlobals mg) (hb : s₁.heap.Ns builtinsNs mb) (hbb : ∀ x : Str, x ≠ "__name__" → mb x = bootBuiltins x) (hlim : s₁.heap.NoLimit) (hg : s₁.gens = #[])
    (ha : s₁.heap.get? a = some { cls := .type "list", data := .seq vs.toArray }) (hi : IntsAre vs ns) (hl : ns.length ≤ sizeLine) (hr : Room k callerA)
    (F : ∀ base : Heap, K.In base → base.Ns mainGlobals mg → FnOk P w K mg base CX k fa fd [x] sp) (hbind : ∀ (s : Shared) (u : Value), BindsTo s fd ⟨[u], []⟩ [(x, u)])
    (hsp : ∀ H : Hp, Only H → SqL K H a (ns.map V.int) → sp [.ref a] H (fun v _ => v = .bl true) fun _ _ _ => False)
    (hCX : ∀ H e s', CX [] H s₁ (fun _ _ _ => False) e s' → False) :
    codeAny (model P w) callerA (.call (.ref fa) ⟨[.ref a], []⟩) (fun r s' => r = .ok (.ret (.bool true)) ∧ OldK s₁.heap s'.heap ∧ s'.os = s₁.os ∧ AllBare s'.gens) s₁ := by
  have rv := vals_ints hi
  have lenV := hi.length
  -- from an abstract heap in which nothing but the script may be tracked
  have core : ∀ H : Hp, Only H → SqL K H a (ns.map V.int) → HOk P w H s₁.heap → (∀ b, H b ≠ none → b = a) → (H a ≠ none → K.lookup a = none) →
      codeAny (model P w) callerA (.call (.ref fa) ⟨[.ref a], []⟩) (fun r s' => r = .ok (.ret (.bool true)) ∧ OldK s₁.heap s'.heap ∧ s'.os = s₁.os ∧ AllBare s'.gens) s₁ := by
    intro H hO hS hok hA hK
    have base_of : ∀ {b : Addr} {o : Obj}, s₁.heap.get? b = some o → H b = none → (hidT s₁.heap H).get? b = some o := fun e n => hidT_get e n
    have noA : ∀ {b : Addr} {o : Obj} {es : Array DictEntry} {ep : Nat}, s₁.heap.get? b = some o → o.data = .dict es ep → H b = none := fun {b o es ep} e d => by
      cases q : H b with
      | none => rfl
      | some u =>
        have e' : b = a := hA b (by rw [q]; simp)
        subst e'
        rw [ha] at e; cases e
        have d' : Data.seq vs.toArray _ = Data.dict es ep := d
        cases d'
    have nsK : ∀ {b : Addr} {m : Str → Option Value}, s₁.heap.Ns b m → (hidT s₁.heap H).Ns b m := fun {b m} ⟨o, es, ep, e, d, r⟩ => ⟨o, es, ep, base_of e (noA e d), d, r⟩
    have hKb : K.In (hidT s₁.heap H) := fun b o e => base_of (KX b o e) (by
      cases q : H b with
      | none => rfl
      | some u =>
        have e' : b = a := hA b (by rw [q]; simp)
        subst e'
        rw [hK (by rw [q]; simp)] at e; cases e)
    have hM : Mod K mg (hidT s₁.heap H) := ⟨hKb, nsK hns, ⟨mb, nsK hb, hbb⟩, let ⟨mc, h1, h2⟩ := hlim; ⟨mc, nsK h1, h2⟩⟩
    have e0 : Env0 P w K mg (hidT s₁.heap H) callerA [] s₁ H := ⟨rfl, hM, fun b o e => of_hidT e, Nat.le_of_eq (hidT_size _ _), trivial, fun b hb => absurd (show b ∈ ([] : List Addr) from hb) (by simp), hok, .of_eq hg⟩
    refine codeAny_mono ((F _ hKb (nsK hns)).run callerA [] s₁ H ⟨[.ref a], []⟩ [.ref a] [.ref a] _ _ hr e0 (hbind s₁ (.ref a)) (.cons rfl .nil) (hsp H hO hS)) fun r s' h => ?_
    cases r with
    | error e => exact (hCX H e s' h).elim
    | ok fl =>
      cases fl with
      | next => exact False.elim h
      | brk => exact False.elim h
      | cont => exact False.elim h
      | ret u =>
        obtain ⟨v, H', os, bare, un, hok', r', q⟩ := h
        have q' : v = .bl true := q
        subst q'
        obtain rfl : u = Value.bool true := r'
        refine ⟨rfl, OldK.of_keep fun b o e => ?_, os, bare⟩
        cases q : H b with
        | none => exact un.keep b o e q (by intro z; exact absurd (show b ∈ ([] : List Addr) from z) (by simp)) (by simp)
        | some u =>
          rcases hO b with z | ⟨ob, xs, z⟩
          · rw [q] at z; cases z
          · have z2 := un.frzs b ob _ z
            obtain ⟨e1, _⟩ := hok b _ z
            obtain ⟨e2, _⟩ := hok' b _ z2
            rw [e] at e1; cases e1
            exact e2
  cases hk : K.lookup a with
  | some o =>
    -- the script is one of the module's own objects
    have e := KX a o hk
    rw [ha] at e
    cases e
    refine core (fun _ => none) (fun _ => .inl rfl) (.inr ⟨_, vs.toArray, _, hk, rfl, rfl, rfl, by rw [List.size_toArray, lenV]; exact hl, by simpa using rv⟩) (fun b u z => by have z' : (none : Option HO) = some u := z; cases z') (fun b z => absurd rfl z) fun z => absurd rfl z
  | none =>
    refine core (fun b => if b = a then some (.frz { cls := .type "list", data := .seq vs.toArray } (.lst (ns.map V.int))) else none) (fun b => ?_) (.inl (.inr ⟨{ cls := .type "list", data := .seq vs.toArray }, if_pos rfl⟩)) (fun b u z => ?_) (fun b z => ?_) fun _ => hk
    · by_cases hb : b = a
      · exact .inr ⟨_, _, if_pos hb⟩
      · exact .inl (if_neg hb)
    · by_cases hb : b = a
      · have z' := (if_pos hb).symm.trans z
        cases z'
        subst hb
        exact ⟨ha, by rw [List.length_map]; exact hl, vs, _, rv, ha⟩
      · have z' := (if_neg hb).symm.trans z
        cases z'
    · by_cases hb : b = a
      · exact hb
      · exact absurd (if_neg hb) z
end L2

namespace L2
open PySem PySem.Spec PyProof.Rows

abbrev KOf {K : PySem.W.Frag} {h : Heap} (_ : K.In h) : PySem.W.Frag := K

/-- the goal that k_head leaves (case hc), from the law's promise. F gives the function object fd (K's own) once, then the promise over every base -/
theorem walk_of {l : PySem.W.OpenLaw} {n k : Nat} {q : Program} {loose : List Str} {XP : (Str → Option Value) → Heap → Prop} {YP : World → Heap → Prop} {d : DefRec} {K : Params → PySem.W.Frag} {CX : World → CXT} {sp : World → Sp} {x : Str}
    (hn : l.most = some n) (hn2 : n ≤ sizeLine) (hdf : d.params.defaults = []) (hr : Room k callerA)
    (hY : ∀ (w : World) (h : Heap), YP w h → (K w.params).In h)
    (F : ∀ (w : World) (mg : Str → Option Value) (fa : Addr) (h : Heap), (K w.params).In h → h.Ns mainGlobals mg → mg d.name = some (.ref fa) →
      ∃ fd : FuncData, (∀ (s : Shared) (u : Value), BindsTo s fd ⟨[u], []⟩ [(x, u)]) ∧
        ∀ base : Heap, (K w.params).In base → base.Ns mainGlobals mg → FnOk l.prog w (K w.params) mg base (CX w) k fa fd [x] (sp w))
    (hsp : ∀ (w : World) (H : Hp) (a : Addr) (ns : List Int), ns.length ≤ n → Only H → SqL (K w.params) H a (ns.map V.int) → sp w [.ref a] H (fun v _ => v = .bl true) fun _ _ _ => False)
    (hCX : ∀ (w : World) (H : Hp) (s : Shared) (e : Value) (s' : Shared), CX w [] H s (fun _ _ _ => False) e s' → False) :
    PySem.W.WalkO q loose XP YP l.row.toRowW d [] (fun f vs => PySem.call f vs) := by
  refine Att.attach_call hn hdf fun w s₀ s₁ mg mb fa o pm cd doc a vs ns G Y ho hd hcd hmg hobj hints hlen hg => ?_
  have KX := hY w _ Y
  obtain ⟨fd, hb, hF⟩ := F w mg fa _ KX G.T.g hmg
  exact law_call KX G.T.g G.T.b G.T.builtins G.T.nolimit hg hobj hints (Nat.le_trans hlen hn2) hr hF hb (fun H hO hS => hsp w H a ns hlen hO hS) fun H e s' => hCX w H s₁ e s'
/-- the same where the promise hangs on the written part alone: (sp := My.sp_law), no hole under a binder -/
theorem walk_ofK {l : PySem.W.OpenLaw} {n k : Nat} {q : Program} {loose : List Str} {XP : (Str → Option Value) → Heap → Prop} {YP : World → Heap → Prop} {d : DefRec} {K : Params → PySem.W.Frag} {CX : CXT} {sp : PySem.W.Frag → Sp} {x : Str}
    (hn : l.most = some n) (hn2 : n ≤ sizeLine) (hdf : d.params.defaults = []) (hr : Room k callerA)
    (hY : ∀ (w : World) (h : Heap), YP w h → (K w.params).In h)
    (F : ∀ (w : World) (mg : Str → Option Value) (fa : Addr) (h : Heap), (K w.params).In h → h.Ns mainGlobals mg → mg d.name = some (.ref fa) →
      ∃ fd : FuncData, (∀ (s : Shared) (u : Value), BindsTo s fd ⟨[u], []⟩ [(x, u)]) ∧
        ∀ base : Heap, (K w.params).In base → base.Ns mainGlobals mg → FnOk l.prog w (K w.params) mg base CX k fa fd [x] (sp (K w.params)))
    (hsp : ∀ (K : PySem.W.Frag) (H : Hp) (a : Addr) (ns : List Int), ns.length ≤ n → Only H → SqL K H a (ns.map V.int) → sp K [.ref a] H (fun v _ => v = .bl true) fun _ _ _ => False)
    (hCX : ∀ (H : Hp) (s : Shared) (e : Value) (s' : Shared), CX [] H s (fun _ _ _ => False) e s' → False) :
    PySem.W.WalkO q loose XP YP l.row.toRowW d [] (fun f vs => PySem.call f vs) :=
  walk_of (K := K) (CX := fun _ => CX) (sp := fun w => sp (K w.params)) hn hn2 hdf hr hY F (fun w H a ns h1 h2 h3 => hsp (K w.params) H a ns h1 h2 h3) fun _ H s e s' => hCX H s e s'
end L2

/- THE LAST THEOREM (shape; LID, My.* are yours):
   My.Adr: a structure of the addresses that your layer names (classes, functions); My.Txt K t: a structure (Prop) of the equations over K;
   My.txt_mk : {K} {implicit addresses ..} (e1 : nsIn K mainGlobals "law" = some (some (.ref f))) (e2 : K.lookup f = some ⟨oc, od, .func (fnOf "law" "law" params body scope dV kV doc pm an cdv ct), sl⟩) (e3 : codeIn K cdv "law" = true) .. : ∃ t, My.Txt K t

set_option maxRecDepth 100000 in
set_option maxHeartbeats 0 in
theorem PySem.Challenge.cw_LID_holds : PySem.Challenge.rw_LID.Holds := by
  w_on; o_law; k_head; (case hw => w_witness2)
  k_fill
  refine L2.walk_of (l := PySem.Challenge.rw_LID) (n := 63) (k := 40) (x := "script") (CX := fun w => ..) (sp := fun _ => My.sp_law) rfl (by decide) rfl ⟨rfl, by decide, by decide⟩ (fun w h Y => PySem.W.kIn_of Y) ?F ?S ?C
  case F =>
    intro w mg fa h KX G hmg
    have T : ∃ t, My.Txt (L2.KOf KX) t := by
      dsimp only [L2.KOf]                          -- K must stand as «<heap const> w.params» for k_is
      refine' My.txt_mk ?e1 ?e2 ?e3 ..
      (case e1 => PySem.W.k_is)                    -- in the order: a name -> its address -> its object -> its parts
      (case e2 => PySem.W.k_is)
      ..
    obtain ⟨t, T⟩ := T
    have e0 := hmg.symm.trans (PySem.W.mg_of KX G T.law)
    cases e0                                       -- fa is the law's own address
    exact ⟨_, fun s u => .of_eq rfl, fun base kb nb => My.law_fn T kb nb⟩     -- if «.of_eq rfl» comes too early: refine' ⟨_, ?b, fun base kb nb => My.law_fn T kb nb⟩; exact fun s u => .of_eq rfl
  case S => exact fun w H a ns hl hO hS => ..
  case C => exact ..
(the tactic k_is has no namespace: write k_is) -/

/-! SHORT WORDS over the layer: a def of the text, its body, what a loop and a test want. -/
namespace L2
open PySem PySem.Spec PyProof.Rows

/-! ### the text by places -/
/-- the j-th statement of a class's body -/
def inClass (s : Stmt) (j : Nat) : Stmt := match s with
  | .ClassDef _ _ _ body _ _ _ _ _ _ _ => body.getD j (.Pass ⟨0, 0, 0, 0⟩)
  | _ => .Pass ⟨0, 0, 0, 0⟩
def defArgs (s : Stmt) : Arguments := match s with
  | .FunctionDef _ a _ _ _ _ _ _ _ _ => a
  | _ => { posonlyargs := [], args := [], vararg := none, kwonlyargs := [], kw_defaults := [], kwarg := none, defaults := [] }
def defBody (s : Stmt) : List Stmt := match s with
  | .FunctionDef _ _ b _ _ _ _ _ _ _ => b
  | _ => []
def defScope (s : Stmt) : Scope := match s with
  | .FunctionDef _ _ _ _ _ _ sc _ _ _ => sc
  | _ => { kind := .function, names := [], isGenerator := false, isCoroutine := false }

/-! ### no exception leaves a def -/
abbrev CX0 : CXT := fun _ _ _ _ _ _ => False
abbrev E0 : XK := fun _ _ _ => False
theorem pass0 {X : Cx} : Passes CX0 X E0 := fun _ _ _ _ _ _ _ h => h.elim

/-! ### a def (or method) of the text as it stands behind the top -/
structure Fun (K : PySem.W.Frag) (x qual : Str) (st : Stmt) (f : Addr) (fd : FuncData) : Prop where
  ex : ∃ (oc : Value) (od : Option Addr) (kV doc pm : Value) (an : Option Addr) (cdv ct : Value) (osl : Array (Option Value)),
    fd = PySem.W.fnOf x qual (defArgs st) (defBody st) (defScope st) .none kV doc pm an cdv ct ∧ K.lookup f = some ⟨oc, od, .func fd, osl⟩ ∧ PySem.W.codeIn K cdv qual = true
  kp : PySem.W.keepIn K (.ref f) = true
section
variable {P : Program} {w : World} {K : PySem.W.Frag} {mg : Str → Option Value} {base : Heap}
/-- THE RULE for a def: its body as a term of rules, and the reading of that term -/
theorem Fun.ok {x qual : Str} {st : Stmt} {f : Addr} {fd : FuncData} {N ps : List Str} {k : Nat} {sp : Sp} (F : Fun K x qual st f fd) (S : FnScope N ps (defScope st)) (len : ∀ vs H Q E, sp vs H Q E → vs.length = ps.length)
    (hbody : ∀ (cdv : Value) (A : Around) (outer : List Env) (s : Shared) (H : Hp) (vs : List V) (Q : VK) (E : XK), Room k (A.deeper (envOfC qual (defScope st) s.heap.objs.size f cdv)) → sp vs H Q E →
      ∃ t, PSs (cxOf CX0 P w K mg base N qual (defScope st) f cdv A outer s H E).nox (defBody st) t ∧ t { nx := fun _ H' => Q .non H', rt := Q } (start N vs) H) : FnOk P w K mg base CX0 (k + 1) f fd ps sp := by
  obtain ⟨oc, od, kV, doc, pm, an, cdv, ct, osl, rfl, lk, hcd⟩ := F.ex
  refine fn_of lk hcd S len fun A outer s H vs Q E hr hsp => ?_
  obtain ⟨t, h, q⟩ := hbody cdv A outer s H vs Q E hr hsp
  exact ⟨t, h.nox, q⟩
/-- how its arguments bind (no defaults): h is «fun _ _ _ _ _ _ us hl => match us, hl with | [_, _], _ => rfl», one _ a parameter -/
theorem Fun.binds {x qual : Str} {st : Stmt} {f : Addr} {fd : FuncData} {ps : List Str} (F : Fun K x qual st f fd)
    (h : ∀ (kV doc pm : Value) (an : Option Addr) (cdv ct : Value) (us : List Value), us.length = ps.length → bindArgs (PySem.W.fnOf x qual (defArgs st) (defBody st) (defScope st) .none kV doc pm an cdv ct) ⟨us, []⟩ = pure (ps.zip us)) : Binds K fd ps [] := by
  obtain ⟨oc, od, kV, doc, pm, an, cdv, ct, osl, rfl, lk, hcd⟩ := F.ex
  exact .all (h kV doc pm an cdv ct)
theorem fun_mk {x qual : Str} {st : Stmt} {f : Addr} {oc : Value} {od an : Option Addr} {osl : Array (Option Value)} {kV doc pm cdv ct : Value} (l : K.lookup f = some ⟨oc, od, .func (PySem.W.fnOf x qual (defArgs st) (defBody st) (defScope st) .none kV doc pm an cdv ct), osl⟩)
    (c : PySem.W.codeIn K cdv qual = true) (k : PySem.W.keepIn K (.ref f) = true) : Fun K x qual st f (PySem.W.fnOf x qual (defArgs st) (defBody st) (defScope st) .none kV doc pm an cdv ct) := ⟨⟨oc, od, kV, doc, pm, an, cdv, ct, osl, rfl, l, c⟩, k⟩
end
theorem hu_of {A : Around} {k : Nat} (hr : Room k A) : A.units + 1 < cLine := Nat.lt_of_le_of_lt (Nat.add_le_add_left (by decide : 1 ≤ 64) _) hr.units
theorem small1000 {n : Nat} (h : n ≤ 1000) : n < sizeLine := Nat.lt_of_le_of_lt h (by decide)

/-! ### expressions in short: the name that stands in the i-th slot -/
section
variable {X : Cx}
theorem pv (i : Nat) {x : Str} {pos : Pos} (hN : X.N[i]? = some x := by rfl) (hv : Vis X.env.scope x := by first | exact Or.inl rfl | exact Or.inr (Or.inl rfl) | exact Or.inr (Or.inr rfl)) (hd : (x == ("__debug__" : Str)) = false := by decide)
    (hcd : (x == ("__classdict__" : Str)) = false := by decide) : PE X (.Name x pos) (tVar i) := pe_var hN hv hd hcd
end

/-! ### tests -/
theorem iteF {A B : Prop} (h : B) : if false = true then A else B := by
  rw [if_neg Bool.false_ne_true]
  exact h
theorem iteT {A B : Prop} (h : A) : if true = true then A else B := by
  rw [if_pos rfl]
  exact h
theorem ite2 {c A B : Prop} [Decidable c] (h1 : c → A) (h2 : ¬ c → B) : if c then A else B := by
  by_cases h : c
  · rw [if_pos h]
    exact h1 h
  · rw [if_neg h]
    exact h2 h
theorem iteNS {c A B : Prop} [Decidable c] (hc : c) (h : B) : if (!decide c) = true then A else B := by
  rw [decide_eq_true hc]
  exact iteF h

/-! ### heaps -/
/-- all that was tracked is as it was -/
def Same (H H' : Hp) : Prop := ∀ b o, H b = some o → H' b = some o
theorem Same.refl (H : Hp) : Same H H := fun _ _ h => h
theorem Same.trans {H H1 H2 : Hp} (a : Same H H1) (b : Same H1 H2) : Same H H2 := fun c o h => b c o (a c o h)
theorem Same.free {H H' : Hp} (e : Same H H') {l : Addr} (h : H' l = Option.none) : H l = Option.none := by
  cases q : H l with
  | none => rfl
  | some o =>
    rw [e l o q] at h
    cases h
theorem Same.seq {K : PySem.W.Frag} {H H' : Hp} {a : Addr} {xs : List V} (e : Same H H') (h : SqL K H a xs) : SqL K H' a xs := by
  rcases h with (h | ⟨o, h⟩) | h
  · exact .inl (.inl (e _ _ h))
  · exact .inl (.inr ⟨o, e _ _ h⟩)
  · exact .inr h

end L2

namespace Dl
open PySem PySem.Spec PyProof.Rows L2

/-! ## Data without the heap -/
inductive D where
  | non | bl (b : Bool) | int (i : Int) | str (x : Str) | tup (l : List D) | lst (l : List D)
  deriving Inhabited

mutual
inductive Den (K : PySem.W.Frag) (G : Hp) : V → D → Prop
  | non : Den K G .non .non
  | bl (b : Bool) : Den K G (.bl b) (.bl b)
  | int (i : Int) : Den K G (.int i) (.int i)
  | str (x : Str) : Den K G (.str x) (.str x)
  | tup {a : Addr} {vs : List V} {ds : List D} : SqT K G a vs → DenL K G vs ds → Den K G (.ref a) (.tup ds)
  | lst {a : Addr} {vs : List V} {ds : List D} : SqL K G a vs → DenL K G vs ds → Den K G (.ref a) (.lst ds)
inductive DenL (K : PySem.W.Frag) (G : Hp) : List V → List D → Prop
  | nil : DenL K G [] []
  | cons {v : V} {d : D} {vs : List V} {ds : List D} : Den K G v d → DenL K G vs ds → DenL K G (v :: vs) (d :: ds)
end

theorem Same.tupS {K : PySem.W.Frag} {H H' : Hp} {a : Addr} {xs : List V} (e : Same H H') (h : SqT K H a xs) : SqT K H' a xs := by
  rcases h with (h | ⟨o, h⟩) | h
  · exact .inl (.inl (e _ _ h))
  · exact .inl (.inr ⟨o, e _ _ h⟩)
  · exact .inr h

section
variable {K : PySem.W.Frag} {G G' : Hp}
mutual
theorem Den.up (e : Same G G') : ∀ {v : V} {d : D}, Den K G v d → Den K G' v d
  | _, _, .non => .non
  | _, _, .bl b => .bl b
  | _, _, .int i => .int i
  | _, _, .str x => .str x
  | _, _, .tup h l => .tup (Same.tupS e h) (DenL.up e l)
  | _, _, .lst h l => .lst (e.seq h) (DenL.up e l)
theorem DenL.up (e : Same G G') : ∀ {vs : List V} {ds : List D}, DenL K G vs ds → DenL K G' vs ds
  | _, _, .nil => .nil
  | _, _, .cons h t => .cons (Den.up e h) (DenL.up e t)
end
theorem DenL.length : ∀ {vs : List V} {ds : List D}, DenL K G vs ds → vs.length = ds.length
  | _, _, .nil => rfl
  | _, _, .cons _ t => by simp [DenL.length t]
theorem DenL.get : ∀ {vs : List V} {ds : List D} {i : Nat} {d : D}, DenL K G vs ds → ds[i]? = some d → ∃ v, vs[i]? = some v ∧ Den K G v d
  | _, _, _, _, .nil, e => by simp at e
  | _, _, 0, _, .cons h _, e => by simp at e; subst e; exact ⟨_, rfl, h⟩
  | _, _, i + 1, _, .cons _ t, e => by
    obtain ⟨v, h1, h2⟩ := DenL.get (i := i) t (by simpa using e)
    exact ⟨v, by simpa using h1, h2⟩
theorem DenL.getV : ∀ {vs : List V} {ds : List D} {i : Nat} {v : V}, DenL K G vs ds → vs[i]? = some v → ∃ d, ds[i]? = some d ∧ Den K G v d
  | _, _, _, _, .nil, e => by simp at e
  | _, _, 0, _, .cons h _, e => by simp at e; subst e; exact ⟨_, rfl, h⟩
  | _, _, i + 1, _, .cons _ t, e => by
    obtain ⟨v, h1, h2⟩ := DenL.getV (i := i) t (by simpa using e)
    exact ⟨v, by simpa using h1, h2⟩
theorem DenL.append : ∀ {vs ws : List V} {ds es : List D}, DenL K G vs ds → DenL K G ws es → DenL K G (vs ++ ws) (ds ++ es)
  | _, _, _, _, .nil, h => h
  | _, _, _, _, .cons a t, h => .cons a (DenL.append t h)
theorem DenL.take : ∀ {vs : List V} {ds : List D} (n : Nat), DenL K G vs ds → DenL K G (vs.take n) (ds.take n)
  | _, _, 0, _ => .nil
  | _, _, _ + 1, .nil => .nil
  | _, _, n + 1, .cons a t => .cons a (DenL.take n t)
theorem DenL.drop : ∀ {vs : List V} {ds : List D} (n : Nat), DenL K G vs ds → DenL K G (vs.drop n) (ds.drop n)
  | _, _, 0, h => h
  | _, _, _ + 1, .nil => .nil
  | _, _, n + 1, .cons _ t => DenL.drop n t
theorem DenL.ints : ∀ (ns : List Int), DenL K G (ns.map V.int) (ns.map D.int)
  | [] => .nil
  | _ :: r => .cons (.int _) (DenL.ints r)
theorem Den.int_inv {v : V} {i : Int} (h : Den K G v (.int i)) : v = .int i := by cases h; rfl
theorem Den.bl_inv {v : V} {i : Bool} (h : Den K G v (.bl i)) : v = .bl i := by cases h; rfl
theorem Den.str_inv {v : V} {i : Str} (h : Den K G v (.str i)) : v = .str i := by cases h; rfl
theorem Den.non_inv {v : V} (h : Den K G v .non) : v = .non := by cases h; rfl
theorem Den.tup_inv {v : V} {l : List D} (h : Den K G v (.tup l)) : ∃ a vs, v = .ref a ∧ SqT K G a vs ∧ DenL K G vs l := by
  cases h with | tup h t => exact ⟨_, _, rfl, h, t⟩
theorem Den.lst_inv {v : V} {l : List D} (h : Den K G v (.lst l)) : ∃ a vs, v = .ref a ∧ SqL K G a vs ∧ DenL K G vs l := by
  cases h with | lst h t => exact ⟨_, _, rfl, h, t⟩
theorem Den.isNon {v : V} {d : D} (h : Den K G v d) : decide (v = .non) = (match d with | .non => true | _ => false) := by
  cases h <;> simp
end

/-! ## The environment: what each name holds -/
/-- what an attribute holds: a value, a list of its own -/
inductive Fl where
  | sh (d : D) | ow (l : List D)
  deriving Inhabited
/-- ow: a list of one's own; mu: a list that was handed in to be changed; ob: an instance, by its class and attributes (h: where it was handed in); pt: an address of which nothing more is known -/
inductive Sl where
  | no | sh (d : D) | ow (l : List D) | mu (a : Nat) (l : List D) | ob (h : Option Nat) (C : Nat) (fs : List (Str × Fl)) | pt (a : Nat)
abbrev Ev := List Sl

/-- the entry of the def that runs: what was known and stays, the heap then, what may be changed -/
structure En where
  G : Hp
  H : Hp
  M : Addr → Prop

/-- who owns what: a slot, and an attribute of it -/
abbrev Ow := Addr → Option (Nat × Str)
def FlW (K : PySem.W.Frag) (G H : Hp) (ow : Ow) (i : Nat) (f : Str) (v : V) : Fl → Prop
  | .sh d => Den K G v d
  | .ow l => ∃ q vs, v = .ref q ∧ H q = some (.lst vs) ∧ ow q = some (i, f) ∧ DenL K G vs l
structure FsW (K : PySem.W.Frag) (G H : Hp) (ow : Ow) (i : Nat) (vfs : List (Str × V)) (fs : List (Str × Fl)) : Prop where
  keys : vfs.map (·.1) = fs.map (·.1)
  at_ : ∀ f s, fs.lookup f = some s → ∃ v, vfs.lookup f = some v ∧ FlW K G H ow i f v s
def SlW (K : PySem.W.Frag) (n : En) (G H : Hp) (ow : Ow) (i : Nat) (o : Option (Option V)) : Sl → Prop
  | .no => True
  | .sh d => ∃ v, o = some (some v) ∧ Den K G v d
  | .ow l => ∃ p vs, o = some (some (.ref p)) ∧ H p = some (.lst vs) ∧ n.H p = none ∧ ow p = some (i, ("" : Str)) ∧ DenL K G vs l
  | .mu a l => ∃ vs, o = some (some (.ref a)) ∧ H a = some (.lst vs) ∧ ow a = some (i, ("" : Str)) ∧ DenL K G vs l
  | .ob h C fs => ∃ a dx vfs, o = some (some (.ref a)) ∧ (∀ a0, h = some a0 → a = a0) ∧ H a = some (.ins C dx vfs) ∧ H dx = some (.own a) ∧ ow a = some (i, ("" : Str)) ∧ ow dx = some (i, ("" : Str)) ∧ FsW K G H ow i vfs fs
  | .pt a => o = some (some (.ref a))
def SlOk (K : PySem.W.Frag) (n : En) (G H : Hp) (o : Option (Option V)) : Sl → Prop
  | .no => True
  | .sh d => ∃ v, o = some (some v) ∧ Den K G v d
  | .ow l => ∃ p vs, o = some (some (.ref p)) ∧ H p = some (.lst vs) ∧ G p = none ∧ n.H p = none ∧ DenL K G vs l
  | .mu a l => ∃ vs, o = some (some (.ref a)) ∧ H a = some (.lst vs) ∧ G a = none ∧ DenL K G vs l
  | .ob h C fs => ∃ a dx vfs, o = some (some (.ref a)) ∧ (∀ a0, h = some a0 → a = a0) ∧ H a = some (.ins C dx vfs) ∧ H dx = some (.own a) ∧ ∃ ow i, FsW K G H ow i vfs fs
  | .pt a => o = some (some (.ref a))

structure OwOk (n : En) (G H : Hp) (ow : Ow) : Prop where
  is : ∀ p k, ow p = some k → G p = none ∧ H p ≠ none ∧ (n.H p = none ∨ n.M p)
structure Rel (K : PySem.W.Frag) (n : En) (δ : Ev) (σ : L2.St) (G H : Hp) : Prop where
  sub : Same G H
  eg : Same n.G G
  eh : ∀ b o, n.H b = some o → ¬ n.M b → H b = some o
  al : ∀ b, H b = none → n.H b = none
  fr : ∀ b o, G b = some o → n.G b = none → n.H b = none
  gh : ∃ ow : Ow, OwOk n G H ow ∧ ∀ (i : Nat) (s : Sl), δ[i]? = some s → SlW K n G H ow i σ[i]? s
  len : δ.length = σ.length

section
variable {K : PySem.W.Frag} {n : En} {δ δ' : Ev} {σ σ' : L2.St} {G H G' H' : Hp} {p : Addr} {o : HO} {ow ow' : Ow} {i i' : Nat}
theorem FlW.keep {f : Str} {v : V} {s : Fl} (hG : Same G G') (hO : ∀ p f, ow p = some (i, f) → ow' p = some (i', f)) (hH : ∀ p f o, ow p = some (i, f) → H p = some o → H' p = some o) (h : FlW K G H ow i f v s) : FlW K G' H' ow' i' f v s := by
  cases s with
  | sh d => exact Den.up hG h
  | ow l => obtain ⟨q, vs, h1, h2, h3, h4⟩ := h; exact ⟨q, vs, h1, hH _ _ _ h3 h2, hO _ _ h3, h4.up hG⟩
theorem FsW.keep {vfs : List (Str × V)} {fs : List (Str × Fl)} (hG : Same G G') (hO : ∀ p f, ow p = some (i, f) → ow' p = some (i', f)) (hH : ∀ p f o, ow p = some (i, f) → H p = some o → H' p = some o) (h : FsW K G H ow i vfs fs) : FsW K G' H' ow' i' vfs fs :=
  ⟨h.keys, fun f s e => let ⟨v, h1, h2⟩ := h.at_ f s e; ⟨v, h1, h2.keep hG hO hH⟩⟩
theorem SlW.keep {s : Sl} {x : Option (Option V)} (hG : Same G G') (hO : ∀ p f, ow p = some (i, f) → ow' p = some (i', f)) (hH : ∀ p f o, ow p = some (i, f) → H p = some o → H' p = some o) (h : SlW K n G H ow i x s) : SlW K n G' H' ow' i' x s := by
  cases s with
  | no => trivial
  | sh d => obtain ⟨v, h1, h2⟩ := h; exact ⟨v, h1, h2.up hG⟩
  | ow l => obtain ⟨p, vs, h1, h2, h3, h4, h5⟩ := h; exact ⟨p, vs, h1, hH _ _ _ h4 h2, h3, hO _ _ h4, h5.up hG⟩
  | mu a l => obtain ⟨vs, h1, h2, h4, h5⟩ := h; exact ⟨vs, h1, hH _ _ _ h4 h2, hO _ _ h4, h5.up hG⟩
  | ob q C fs => obtain ⟨a, dx, vfs, h1, h2, h3, h4, h5, h6, h7⟩ := h; exact ⟨a, dx, vfs, h1, h2, hH _ _ _ h5 h3, hH _ _ _ h6 h4, hO _ _ h5, hO _ _ h6, h7.keep hG hO hH⟩
  | pt a => exact h
theorem Rel.sl (R : Rel K n δ σ G H) (i : Nat) (s : Sl) (hs : δ[i]? = some s) : SlOk K n G H σ[i]? s := by
  obtain ⟨ow, ok, gh⟩ := R.gh
  have h := gh i s hs
  cases s with
  | no => trivial
  | sh d => exact h
  | ow l => obtain ⟨p, vs, h1, h2, h3, h4, h5⟩ := h; exact ⟨p, vs, h1, h2, (ok.is _ _ h4).1, h3, h5⟩
  | mu a l => obtain ⟨vs, h1, h2, h4, h5⟩ := h; exact ⟨vs, h1, h2, (ok.is _ _ h4).1, h5⟩
  | ob q C fs => obtain ⟨a, dx, vfs, h1, h2, h3, h4, h5, h6, h7⟩ := h; exact ⟨a, dx, vfs, h1, h2, h3, h4, ow, i, h7⟩
  | pt a => exact h
end

/-- from one heap to a later one: all that was is as it was, what is known now is new -/
structure Ext (G H G' H' : Hp) : Prop where
  gg : Same G G'
  gh : Same G' H'
  hh : Same H H'
  fr : ∀ b o, G' b = some o → G b = none → H b = none

theorem same_upd {H : Hp} {p : Addr} (h : H p = none) (o : HO) : Same H (upd H p o) := fun b u q => by rw [upd_ne (ne_of_none q h)]; exact q
theorem Ext.refl {G H : Hp} (s : Same G H) : Ext G H G H := ⟨Same.refl _, s, Same.refl _, fun b o e e0 => (by rw [e0] at e; cases e)⟩
theorem Ext.laid {G H : Hp} {p : Addr} (s : Same G H) (h : H p = none) (o : HO) : Ext G H (upd G p o) (upd H p o) := by
  have hG : G p = none := s.free h
  refine ⟨same_upd hG o, fun b u e => ?_, same_upd h o, fun b u e e0 => ?_⟩
  · by_cases hb : b = p
    · subst hb; rw [upd_same] at e ⊢; exact e
    · rw [upd_ne hb] at e ⊢; exact s b u e
  · by_cases hb : b = p
    · subst hb; exact h
    · rw [upd_ne hb, e0] at e; cases e
theorem Ext.trans {G H G1 H1 G2 H2 : Hp} (a : Ext G H G1 H1) (b : Ext G1 H1 G2 H2) : Ext G H G2 H2 := by
  refine ⟨a.gg.trans b.gg, b.gh, a.hh.trans b.hh, fun c o e e0 => ?_⟩
  cases q : G1 c with
  | none => exact a.hh.free (b.fr c o e q)
  | some u => exact a.fr c u q e0
theorem upd_some {H : Hp} {p b : Addr} {o : HO} (h : H b ≠ none) : upd H p o b ≠ none := by
  by_cases hb : b = p
  · subst hb; rw [upd_same]; exact fun z => by cases z
  · rw [upd_ne hb]; exact h
theorem same_some {H H' : Hp} (s : Same H H') {b : Addr} (h : H b ≠ none) : H' b ≠ none := fun z => h (s.free z)
def owSet (ow : Ow) (p : Addr) (k : Option (Nat × Str)) : Ow := fun b => if b = p then k else ow b
theorem owSet_same {ow : Ow} {p : Addr} {k : Option (Nat × Str)} : owSet ow p k p = k := if_pos rfl
theorem owSet_ne {ow : Ow} {p b : Addr} {k : Option (Nat × Str)} (h : b ≠ p) : owSet ow p k b = ow b := if_neg h

section
variable {K : PySem.W.Frag} {n : En} {δ δ' : Ev} {σ σ' : L2.St} {G H G' H' : Hp} {p : Addr} {o : HO}
theorem Rel.ext (R : Rel K n δ σ G H) (e : Ext G H G' H') : Rel K n δ σ G' H' := by
  obtain ⟨ow, ok, gh⟩ := R.gh
  refine ⟨e.gh, R.eg.trans e.gg, fun b u q m => e.hh b u (R.eh b u q m), fun b q => R.al b (e.hh.free q), fun b u q q0 => ?_, ⟨ow, ⟨fun p k hk => ?_⟩, fun i s hs => (gh i s hs).keep e.gg (fun _ _ z => z) fun p f u _ z => e.hh p u z⟩, R.len⟩
  · cases h : G b with
    | none => exact R.al b (e.fr b u q h)
    | some w => exact R.fr b w h q0
  · obtain ⟨h1, h2, h3⟩ := ok.is p k hk
    refine ⟨?_, same_some e.hh h2, h3⟩
    cases q : G' p with
    | none => rfl
    | some w => exact absurd (e.fr p w q h1) h2
theorem Rel.laid (R : Rel K n δ σ G H) (h : H p = none) (o : HO) : Rel K n δ σ (upd G p o) (upd H p o) := R.ext (.laid R.sub h o)
theorem set_get {α : Type} {l : List α} {i j : Nat} {a b : α} (h : (l.set i a)[j]? = some b) : (i = j ∧ b = a ∧ i < l.length) ∨ (i ≠ j ∧ l[j]? = some b) := by
  by_cases e : i = j
  · subst e
    rw [List.getElem?_set_self'] at h
    cases q : l[i]? with
    | none => rw [q] at h; cases h
    | some w =>
      rw [q] at h
      have hb : a = b := by simpa using h
      have := List.getElem?_eq_some_iff.mp q
      exact .inl ⟨rfl, hb.symm, this.1⟩
  · rw [List.getElem?_set_ne e] at h
    exact .inr ⟨e, h⟩
/-- a name gets a value -/
theorem Rel.set (R : Rel K n δ σ G H) {v : V} {d : D} (i : Nat) (hv : Den K G v d) : Rel K n (δ.set i (.sh d)) (σ.set i (some v)) G H := by
  obtain ⟨ow, ok, gh⟩ := R.gh
  refine ⟨R.sub, R.eg, R.eh, R.al, R.fr, ⟨ow, ok, fun j s hs => ?_⟩, by rw [List.length_set, List.length_set]; exact R.len⟩
  rcases set_get hs with ⟨e, rfl, hl⟩ | ⟨e, hs⟩
  · subst e
    refine ⟨v, ?_, hv⟩
    rw [List.getElem?_set_self (Nat.lt_of_lt_of_le hl (Nat.le_of_eq R.len))]
  · rw [List.getElem?_set_ne e]
    exact gh j s hs
/-- a slot is forgotten -/
theorem Rel.forget (R : Rel K n δ σ G H) (i : Nat) : Rel K n (δ.set i .no) σ G H := by
  obtain ⟨ow, ok, gh⟩ := R.gh
  refine ⟨R.sub, R.eg, R.eh, R.al, R.fr, ⟨ow, ok, fun j s hs => ?_⟩, by rw [List.length_set]; exact R.len⟩
  rcases set_get hs with ⟨e, rfl, hl⟩ | ⟨e, hs⟩
  · trivial
  · exact gh j s hs
/-- a name gets a new list of its own -/
theorem Rel.own (R : Rel K n δ σ G H) {vs : List V} {ds : List D} (i : Nat) (hp : H p = none) (hv : DenL K G vs ds) : Rel K n (δ.set i (.ow ds)) (σ.set i (some (.ref p))) G (upd H p (.lst vs)) := by
  obtain ⟨ow, ok, gh⟩ := R.gh
  have hG : G p = none := R.sub.free hp
  have hne : ∀ b k, ow b = some k → b ≠ p := fun b k hk z => by subst z; exact (ok.is _ _ hk).2.1 hp
  refine ⟨R.sub.trans (same_upd hp _), R.eg, fun b u q m => same_upd hp _ b u (R.eh b u q m), fun b q => R.al b ((same_upd hp _).free q), R.fr, ⟨owSet ow p (some (i, ("" : Str))), ⟨fun b k hk => ?_⟩, fun j s hs => ?_⟩, by rw [List.length_set, List.length_set]; exact R.len⟩
  · by_cases hb : b = p
    · subst hb; exact ⟨hG, by rw [upd_same]; exact (fun z => by cases z), .inl (R.al _ hp)⟩
    · rw [owSet_ne hb] at hk
      obtain ⟨h1, h2, h3⟩ := ok.is b k hk
      exact ⟨h1, upd_some h2, h3⟩
  · rcases set_get hs with ⟨e, rfl, hl⟩ | ⟨e, hs⟩
    · subst e
      exact ⟨p, vs, List.getElem?_set_self (Nat.lt_of_lt_of_le hl (Nat.le_of_eq R.len)), upd_same, R.al p hp, owSet_same, hv⟩
    · rw [List.getElem?_set_ne e]
      exact (gh j s hs).keep (Same.refl _) (fun b f z => by rw [owSet_ne (hne _ _ z)]; exact z) fun b f u z q => by rw [upd_ne (hne _ _ z)]; exact q
/-- a list of one's own is a value from now on -/
theorem Rel.freeze (R : Rel K n δ σ G H) {l : List D} {i : Nat} (hi : δ[i]? = some (.ow l)) : ∃ G', Rel K n (δ.set i (.sh (.lst l))) σ G' H ∧ Same G G' := by
  obtain ⟨ow, ok, gh⟩ := R.gh
  obtain ⟨p, vs, g1, g2, g4, g6, g5⟩ := gh i _ hi
  have g3 := (ok.is _ _ g6).1
  have s1 : Same G (upd G p (.lst vs)) := same_upd g3 _
  refine ⟨upd G p (.lst vs), ⟨fun b u e => ?_, R.eg.trans s1, R.eh, R.al, fun b u e e0 => ?_, ⟨owSet ow p none, ⟨fun b k hk => ?_⟩, fun j s hs => ?_⟩, by rw [List.length_set]; exact R.len⟩, s1⟩
  · by_cases hb : b = p
    · subst hb; rw [upd_same] at e; rw [g2]; exact e
    · rw [upd_ne hb] at e; exact R.sub b u e
  · by_cases hb : b = p
    · subst hb; exact g4
    · rw [upd_ne hb] at e; exact R.fr b u e e0
  · by_cases hb : b = p
    · subst hb; rw [owSet_same] at hk; cases hk
    · rw [owSet_ne hb] at hk; rw [upd_ne hb]; exact ok.is b k hk
  · rcases set_get hs with ⟨e, rfl, hl⟩ | ⟨e, hs⟩
    · subst e
      exact ⟨.ref p, g1, .lst (SqL.of upd_same) (g5.up s1)⟩
    · refine (gh j s hs).keep s1 (fun b f z => ?_) fun _ _ _ _ q => q
      have : b ≠ p := fun w => by subst w; rw [g6] at z; cases z; exact e rfl
      rw [owSet_ne this]; exact z
/-- a list of one's own is changed -/
theorem Rel.change (R : Rel K n δ σ G H) {l : List D} {i : Nat} (hi : δ[i]? = some (.ow l)) (hp : σ[i]? = some (some (.ref p))) {vs : List V} {ds : List D} (hv : DenL K G vs ds) :
    Rel K n (δ.set i (.ow ds)) σ G (upd H p (.lst vs)) := by
  obtain ⟨ow, ok, gh⟩ := R.gh
  obtain ⟨q, ws, g1, g2, g4, g6, g5⟩ := gh i _ hi
  have g3 := (ok.is _ _ g6).1
  rw [hp] at g1; cases g1
  have ne : ∀ b u, G b = some u → b ≠ p := fun b u e z => by subst z; rw [g3] at e; cases e
  refine ⟨fun b u e => by rw [upd_ne (ne b u e)]; exact R.sub b u e, R.eg, fun b u q m => ?_, fun b q => ?_, R.fr, ⟨ow, ⟨fun b k hk => ?_⟩, fun j s hs => ?_⟩, by rw [List.length_set]; exact R.len⟩
  · have : b ≠ p := fun z => by subst z; rw [g4] at q; cases q
    rw [upd_ne this]; exact R.eh b u q m
  · by_cases hb : b = p
    · subst hb; exact g4
    · rw [upd_ne hb] at q; exact R.al b q
  · obtain ⟨h1, h2, h3⟩ := ok.is b k hk; exact ⟨h1, upd_some h2, h3⟩
  · rcases set_get hs with ⟨e, rfl, hl⟩ | ⟨e, hs⟩
    · subst e
      exact ⟨p, vs, hp, upd_same, g4, g6, hv⟩
    · refine (gh j s hs).keep (Same.refl _) (fun _ _ z => z) fun b f u z q => ?_
      have : b ≠ p := fun w => by subst w; rw [g6] at z; cases z; exact e rfl
      rw [upd_ne this]; exact q
/-- the same of a list that was handed in -/
theorem Rel.changeM (R : Rel K n δ σ G H) {l : List D} {i : Nat} (hi : δ[i]? = some (.mu p l)) {vs : List V} {ds : List D} (hv : DenL K G vs ds) :
    Rel K n (δ.set i (.mu p ds)) σ G (upd H p (.lst vs)) := by
  obtain ⟨ow, ok, gh⟩ := R.gh
  obtain ⟨ws, g1, g2, g6, g5⟩ := gh i _ hi
  obtain ⟨g3, g7, g8⟩ := ok.is _ _ g6
  have ne : ∀ b u, G b = some u → b ≠ p := fun b u e z => by subst z; rw [g3] at e; cases e
  refine ⟨fun b u e => by rw [upd_ne (ne b u e)]; exact R.sub b u e, R.eg, fun b u q m => ?_, fun b q => ?_, R.fr, ⟨ow, ⟨fun b k hk => ?_⟩, fun j s hs => ?_⟩, by rw [List.length_set]; exact R.len⟩
  · have : b ≠ p := fun z => by
      subst z
      rcases g8 with g8 | g8
      · rw [g8] at q; cases q
      · exact m g8
    rw [upd_ne this]; exact R.eh b u q m
  · by_cases hb : b = p
    · subst hb; rw [upd_same] at q; cases q
    · rw [upd_ne hb] at q; exact R.al b q
  · obtain ⟨h1, h2, h3⟩ := ok.is b k hk; exact ⟨h1, upd_some h2, h3⟩
  · rcases set_get hs with ⟨e, rfl, hl⟩ | ⟨e, hs⟩
    · subst e
      exact ⟨vs, g1, upd_same, g6, hv⟩
    · refine (gh j s hs).keep (Same.refl _) (fun _ _ z => z) fun b f u z q => ?_
      have : b ≠ p := fun w => by subst w; rw [g6] at z; cases z; exact e rfl
      rw [upd_ne this]; exact q
/-- from here on: what is known now stays -/
theorem Rel.rebase (R : Rel K n δ σ G H) : Rel K ⟨G, n.H, n.M⟩ δ σ G H := by
  obtain ⟨ow, ok, gh⟩ := R.gh
  refine ⟨R.sub, Same.refl _, R.eh, R.al, fun b o e (e0 : G b = none) => (by rw [e0] at e; cases e), ⟨ow, ⟨ok.is⟩, fun i s hs => ?_⟩, R.len⟩
  have h := gh i s hs
  cases s <;> exact h
theorem Rel.unbase (R : Rel K n δ σ G H) (S : Rel K ⟨G, n.H, n.M⟩ δ' σ' G' H') : Rel K n δ' σ' G' H' := by
  obtain ⟨ow, ok, gh⟩ := S.gh
  refine ⟨S.sub, R.eg.trans S.eg, S.eh, S.al, fun b o e e0 => (by
    cases q : G b with
    | none => exact S.fr b o e q
    | some w => exact R.fr b w q e0), ⟨ow, ⟨ok.is⟩, fun i s hs => ?_⟩, S.len⟩
  have h := gh i s hs
  cases s <;> exact h
end
section
variable {K : PySem.W.Frag} {n : En} {δ : Ev} {σ : L2.St} {G H : Hp} {D₀ : Addr} {o u : HO}
theorem Rel.notOwn (R : Rel K n δ σ G H) (h : H D₀ = none) : H D₀ = none := h
/-- a thing that is new -/
theorem Rel.other (R : Rel K n δ σ G H) (hG : G D₀ = none) (hn : n.H D₀ = none) (ho : H D₀ = none) (o : HO) : Rel K n δ σ G (upd H D₀ o) :=
  R.ext ⟨Same.refl _, R.sub.trans (same_upd ho o), same_upd ho o, fun b v e e0 => (by rw [e0] at e; cases e)⟩
/-- the heap without a thing -/
def del (H : Hp) (D₀ : Addr) : Hp := fun b => if b = D₀ then none else H b
theorem del_same : del H D₀ D₀ = none := if_pos rfl
theorem del_ne {b : Addr} (h : b ≠ D₀) : del H D₀ b = H b := if_neg h
theorem del_none (h : H D₀ = none) : del H D₀ = H := by
  funext b
  by_cases hb : b = D₀
  · subst hb; rw [del_same, h]
  · exact del_ne hb
theorem del_upd : del (upd H D₀ o) D₀ = del H D₀ := by
  funext b
  by_cases hb : b = D₀
  · subst hb; rw [del_same, del_same]
  · rw [del_ne hb, del_ne hb, upd_ne hb]
theorem upd_del (h : H D₀ = some o) : upd (del H D₀) D₀ o = H := by
  funext b
  by_cases hb : b = D₀
  · subst hb; rw [upd_same, h]
  · rw [upd_ne hb, del_ne hb]
theorem Ext.del {G' H' : Hp} (e : Ext G H G' H') (h : G' D₀ = none) : Ext G (del H D₀) G' (Dl.del H' D₀) := by
  refine ⟨e.gg, fun b v q => ?_, fun b v q => ?_, fun b v q q0 => ?_⟩
  · rw [del_ne (ne_of_none q h)]; exact e.gh b v q
  · by_cases hb : b = D₀
    · subst hb; rw [del_same] at q; cases q
    · rw [del_ne hb] at q ⊢; exact e.hh b v q
  · rw [del_ne (ne_of_none q h)]; exact e.fr b v q q0
/-- a thing that no name owns is known from now on -/
theorem Rel.know (R : Rel K n δ σ G (del H D₀)) (hH : H D₀ = some o) : Rel K n δ σ (upd G D₀ o) H := by
  have z := R.laid (p := D₀) del_same o
  rwa [upd_del hH] at z
theorem Rel.undel (R : Rel K n δ σ G (del H D₀)) (hH : H D₀ = some o) : Rel K n δ σ G H := by
  have z := R.other (R.sub.free del_same) (R.al _ del_same) del_same o
  rwa [upd_del hH] at z
def dropOw (δ : Ev) : Ev := δ.map fun s => match s with
  | .sh d => .sh d
  | _ => .no
/-- what an inner block may read: all but what is owned -/
theorem Rel.inner (R : Rel K n δ σ G H) (k : Nat) : Rel K ⟨G, H, fun _ => False⟩ (dropOw δ ++ List.replicate k .no) (σ ++ List.replicate k none) G H := by
  refine ⟨R.sub, Same.refl _, fun b o e _ => e, fun b e => e, fun b o e (e0 : G b = none) => (by rw [e0] at e; cases e), ⟨fun _ => none, ⟨fun _ _ z => by cases z⟩, fun i s hs => ?_⟩, ?_⟩
  · by_cases hi : i < (dropOw δ).length
    · have hi' : i < σ.length := by rw [← R.len]; simpa [dropOw] using hi
      rw [List.getElem?_append_left hi, dropOw, List.getElem?_map] at hs
      rw [List.getElem?_append_left hi']
      cases q : δ[i]? with
      | none => rw [q] at hs; cases hs
      | some s' =>
        rw [q] at hs
        have h := R.sl i s' q
        cases s' with
        | sh d => cases hs; exact h
        | no => cases hs; trivial
        | ow l => cases hs; trivial
        | mu a l => cases hs; trivial
        | ob h C fs => cases hs; trivial
        | pt a => cases hs; trivial
    · rw [List.getElem?_append_right (by omega), List.getElem?_replicate] at hs
      split at hs
      · cases hs; trivial
      · cases hs
  · rw [List.length_append, List.length_append, List.length_replicate, List.length_replicate, dropOw, List.length_map, R.len]
theorem Rel.toExt {G' H' : Hp} (R : Rel K ⟨G, H, fun _ => False⟩ δ σ G' H') : Ext G H G' H' := ⟨R.eg, R.sub, fun b o e => R.eh b o e (fun z => z), fun b o e e0 => R.fr b o e e0⟩
end
end Dl

namespace Dl
open PySem PySem.Spec PyProof.Rows L2

/-! ## Judgements over data -/
abbrev QE := D → Ev → Prop
abbrev TEd := Ev → QE → Prop
abbrev TAd := Ev → (List D → Ev → Prop) → Prop
abbrev TTd := Ev → (Bool → Ev → Prop) → Prop
def lE (K : PySem.W.Frag) (t : TEd) : TE := fun σ H Q2 => ∃ (n : En) (δ : Ev) (G : Hp) (Q : QE), Rel K n δ σ G H ∧ t δ Q ∧
  ∀ (v : V) (G' H' : Hp) (d : D) (δ' : Ev), Rel K n δ' σ G' H' → Same G G' → Den K G' v d → Q d δ' → Q2 v H'
def lA (K : PySem.W.Frag) (t : TAd) : TA := fun σ H Q2 => ∃ (n : En) (δ : Ev) (G : Hp) (Q : List D → Ev → Prop), Rel K n δ σ G H ∧ t δ Q ∧
  ∀ (v : List V) (G' H' : Hp) (d : List D) (δ' : Ev), Rel K n δ' σ G' H' → Same G G' → DenL K G' v d → Q d δ' → Q2 v H'
def lT (K : PySem.W.Frag) (t : TTd) : TT := fun σ H Q2 => ∃ (n : En) (δ : Ev) (G : Hp) (Q : Bool → Ev → Prop), Rel K n δ σ G H ∧ t δ Q ∧
  ∀ (b : Bool) (G' H' : Hp) (δ' : Ev), Rel K n δ' σ G' H' → Same G G' → Q b δ' → Q2 b H'
abbrev DE (X : Cx) (e : Expr) (t : TEd) : Prop := PE X e (lE X.K t)
abbrev DA (X : Cx) (es : List Expr) (t : TAd) : Prop := PA X es (lA X.K t)
abbrev DT (X : Cx) (e : Expr) (t : TTd) : Prop := PT X e (lT X.K t)
abbrev DW (X : Cx) (e : Expr) (t : TTd) : Prop := PW X e (lT X.K t)

theorem pe_imp {X : Cx} {e : Expr} {t t' : TE} (h : PE X e t) (hi : ∀ σ H Q, t' σ H Q → t σ H Q) : PE X e t' := fun pins s σ H Q I q => h pins s σ H Q I (hi σ H Q q)
theorem pt_imp {X : Cx} {e : Expr} {t t' : TT} (h : PT X e t) (hi : ∀ σ H Q, t' σ H Q → t σ H Q) : PT X e t' := fun pins s σ H Q I q => h pins s σ H Q I (hi σ H Q q)
theorem pw_imp {X : Cx} {e : Expr} {t t' : TT} (h : PW X e t) (hi : ∀ σ H Q, t' σ H Q → t σ H Q) : PW X e t' := fun wh pins s σ H Q I q => h wh pins s σ H Q I (hi σ H Q q)
theorem pa_imp {X : Cx} {es : List Expr} {t t' : TA} (h : PA X es t) (hi : ∀ σ H Q, t' σ H Q → t σ H Q) : PA X es t' := fun pos pins s σ H Q I q => h pos pins s σ H Q I (hi σ H Q q)
theorem ps_imp {X : Cx} {st : Stmt} {t t' : TS} (h : PS X st t) (hi : ∀ D σ H, t' D σ H → t D σ H) : PS X st t' := fun pins s σ H D I q => h pins s σ H D I (hi D σ H q)
theorem pss_imp {X : Cx} {st : List Stmt} {t t' : TS} (h : PSs X st t) (hi : ∀ D σ H, t' D σ H → t D σ H) : PSs X st t' := fun pins s σ H D I q => h pins s σ H D I (hi D σ H q)

/-! ### names and constants -/
def dVar (i : Nat) : TEd := fun δ Q => match δ[i]? with
  | some (.sh d) => Q d δ
  | _ => False
def dC (d : D) : TEd := fun δ Q => Q d δ
section
variable {X : Cx} {a b c : Expr} {ta tb tc : TEd} {pos : Pos}
theorem dv (i : Nat) {x : Str} {pos : Pos} (hN : X.N[i]? = some x := by rfl) (hv : Vis X.env.scope x := by first | exact Or.inl rfl | exact Or.inr (Or.inl rfl) | exact Or.inr (Or.inr rfl)) (hd : (x == ("__debug__" : Str)) = false := by decide)
    (hcd : (x == ("__classdict__" : Str)) = false := by decide) : DE X (.Name x pos) (dVar i) :=
  pe_imp (pe_var hN hv hd hcd) fun σ H Q2 ⟨n, δ, G, Q, R, h, k⟩ => by
    unfold dVar at h
    split at h
    · rename_i d e
      obtain ⟨v, h1, h2⟩ := R.sl i _ e
      exact ⟨v, h1, k v G H d δ R (Same.refl _) h2 h⟩
    · exact h.elim
theorem dc_of {d : D} {v : V} {e : Expr} (h : PE X e (tC v)) (hd : ∀ G, Den X.K G v d) : DE X e (dC d) :=
  pe_imp h fun σ H Q2 ⟨n, δ, G, Q, R, h, k⟩ => k v G H d δ R (Same.refl _) (hd G) h
theorem de_int {i j pos} : DE X (.Constant (.int i) j pos) (dC (.int i)) := dc_of pe_int fun _ => .int i
theorem de_bl {i j pos} : DE X (.Constant (.bool i) j pos) (dC (.bl i)) := dc_of pe_bl fun _ => .bl i
theorem de_non {j pos} : DE X (.Constant .none j pos) (dC .non) := dc_of pe_non fun _ => .non
theorem de_str {x j pos} : DE X (.Constant (.str x) j pos) (dC (.str x)) := dc_of pe_str fun _ => .str x
/-- a constant of the module: an int -/
theorem de_gint {x : Str} {i : Int} {t : Tok} {pos : Pos} (hm : X.mg x = some (.int i t)) (hg : Gl X x := by rfl) (hd : (x == ("__debug__" : Str)) = false := by decide) : DE X (.Name x pos) (dC (.int i)) :=
  dc_of (v := .int i) (pe_glob hg hm ⟨t, rfl⟩ hd) fun _ => .int i

/-! ### operations -/
abbrev RD := D → D → (D → Prop) → Prop
def dOp (r : RD) (ta tb : TEd) : TEd := fun δ Q => ta δ fun x δ1 => tb δ1 fun y δ2 => r x y fun d => Q d δ2
def OpS (K : PySem.W.Frag) (r2 : R2) (r : RD) : Prop := ∀ (G H : Hp) (x y : V) (dx dy : D) (Q : D → Prop) (Q2 : VK), Same G H → Den K G x dx → Den K G y dy → r dx dy Q →
  (∀ (v : V) (G' H' : Hp) (d : D), Ext G H G' H' → Den K G' v d → Q d → Q2 v H') → r2 x y H Q2
theorem OpR.or {f : Value → Value → Sem Value} {r r' : R2} (h : OpR X f r) (h' : OpR X f r') : OpR X f (fun x y H Q => r x y H Q ∨ r' x y H Q) :=
  fun pins s σ H x y v u Q I rx ry q => q.elim (h pins s σ H x y v u Q I rx ry) (h' pins s σ H x y v u Q I rx ry)
theorem op_lift {r2 : R2} {r : RD} (hs : OpS X.K r2 r) : ∀ σ H Q, lE X.K (dOp r ta tb) σ H Q → tOp r2 (lE X.K ta) (lE X.K tb) σ H Q := fun σ H Q2 ⟨n, δ, G, Q, R, h, k⟩ =>
  ⟨n, δ, G, _, R, h, fun v G1 H1 x δ1 R1 s1 d1 h1 => ⟨n, δ1, G1, _, R1, h1, fun w G2 H2 y δ2 R2 s2 d2 h2 =>
    hs G2 H2 v w x y _ Q2 R2.sub (d1.up s2) d2 h2 fun u G3 H3 d e3 d3 q3 => k u G3 H3 d δ2 (R2.ext e3) (s1.trans (s2.trans e3.gg)) d3 q3⟩⟩
theorem de_bin {op : Operator} {r2 : R2} {r : RD} (ho : OpR X (binaryOp op) r2) (hs : OpS X.K r2 r) (ha : DE X a ta) (hb : DE X b tb) : DE X (.BinOp a op b pos) (dOp r ta tb) :=
  pe_imp (pe_op ho ha hb) (op_lift hs)
theorem de_cmp {op : CmpOp} {r2 : R2} {r : RD} (ho : OpR X (compareOp op) r2) (hs : OpS X.K r2 r) (ha : DE X a ta) (hb : DE X b tb) (hm : behindInMarks op b = false) : DE X (.Compare a [op] [b] pos) (dOp r ta tb) :=
  pe_imp (pe_cmpR ho ha hb hm) (op_lift hs)
theorem de_ixG {r2 : R2} {r : RD} (ho : IxR X r2) (hs : OpS X.K r2 r) (ha : DE X a ta) (hb : DE X b tb) (hp : PlainIx b) : DE X (.Subscript a b pos) (dOp r ta tb) :=
  pe_imp (pe_ix ho ha hb hp) (op_lift hs)

/-! ### tests -/
/-- a test by a bool value -/
def dB (t : TEd) : TTd := fun δ Q => t δ fun x δ1 => match x with
  | .bl c => Q c δ1
  | _ => False
theorem dt_cmp {op : CmpOp} {r2 : R2} {r : RD} (ho : OpR X (compareOp op) r2) (hs : OpS X.K r2 r) (ha : DE X a ta) (hb : DE X b tb) (hm : behindInMarks op b = false) : DT X (.Compare a [op] [b] pos) (dB (dOp r ta tb)) :=
  pt_imp (pt_cmpR ho ha hb hm) fun σ H Q2 ⟨n, δ, G, Q, R, h, k⟩ => op_lift hs σ H _ ⟨n, δ, G, _, R, h, fun v G1 H1 d δ1 R1 s1 d1 h1 => by
    cases d with
    | bl c => exact ⟨c, d1.bl_inv, k c G1 H1 δ1 R1 s1 h1⟩
    | _ => exact h1.elim⟩
def truD : D → (Bool → Prop) → Prop
  | .non, Q => Q false
  | .bl b, Q => Q b
  | .int i, Q => Q (i != 0)
  | .str y, Q => y.length ≤ sizeLine ∧ Q ((y.length : Int) != 0)
  | .tup l, Q => Q (!l.isEmpty)
  | .lst l, Q => Q (!l.isEmpty)
def dTru (t : TEd) : TTd := fun δ Q => t δ fun x δ1 => truD x fun b => Q b δ1
theorem truV_of {K : PySem.W.Frag} {G H : Hp} {x : V} {d : D} (s : Same G H) (h : Den K G x d) {Q : Bool → Prop} (q : truD d Q) : ∃ k, TruV K x H k ∧ Q k := by
  cases h with
  | non => exact ⟨_, rfl, q⟩
  | bl b => exact ⟨_, rfl, q⟩
  | int i => exact ⟨_, rfl, q⟩
  | str y => exact ⟨_, ⟨q.1, rfl⟩, q.2⟩
  | tup h l => refine ⟨_, .inr (.inl ⟨_, Same.tupS s h, rfl⟩), ?_⟩; cases l <;> exact q
  | lst h l => refine ⟨_, .inl ⟨_, s.seq h, rfl⟩, ?_⟩; cases l <;> exact q
theorem dt_tru (ha : DE X a ta) (he : ∀ whole, isTrue a X.env whole = (do let v ← whole; standAt a.pos; holding [v] (truthy v)) := by intro _; rfl) : DT X a (dTru ta) :=
  pt_imp (pt_truth ha he) fun σ H Q2 ⟨n, δ, G, Q, R, h, k⟩ => ⟨n, δ, G, _, R, h, fun v G1 H1 d δ1 R1 s1 d1 h1 => by
    obtain ⟨b, hb, hq⟩ := truV_of R1.sub d1 h1
    exact ⟨b, hb, k b G1 H1 δ1 R1 s1 hq⟩⟩
def dAnd (t u : TTd) : TTd := fun δ Q => t δ fun c δ1 => if c = true then u δ1 Q else Q false δ1
def dOr (t u : TTd) : TTd := fun δ Q => t δ fun c δ1 => if c = true then Q true δ1 else u δ1 Q
def dNot (t : TTd) : TTd := fun δ Q => t δ fun c δ1 => Q (!c) δ1
variable {tA tB' : TTd} {rest : List Expr}
theorem dw_and1 (ha : DT X a tA) : DW X (.BoolOp .And [a] pos) tA := pw_and1 ha
theorem dw_or1 (ha : DT X a tA) : DW X (.BoolOp .Or [a] pos) tA := pw_or1 ha
theorem dw_and (ha : DT X a tA) (hb : DW X (.BoolOp .And (b :: rest) pos) tB') : DW X (.BoolOp .And (a :: b :: rest) pos) (dAnd tA tB') :=
  pw_imp (pw_and ha hb) fun σ H Q2 ⟨n, δ, G, Q, R, h, k⟩ => ⟨n, δ, G, _, R, h, fun c G1 H1 δ1 R1 s1 h1 => by
    cases c with
    | true => exact iteT ⟨n, δ1, G1, Q, R1, h1, fun b G2 H2 δ2 R2 s2 h2 => k b G2 H2 δ2 R2 (s1.trans s2) h2⟩
    | false => exact iteF (k false G1 H1 δ1 R1 s1 h1)⟩
theorem dw_or (ha : DT X a tA) (hb : DW X (.BoolOp .Or (b :: rest) pos) tB') : DW X (.BoolOp .Or (a :: b :: rest) pos) (dOr tA tB') :=
  pw_imp (pw_or ha hb) fun σ H Q2 ⟨n, δ, G, Q, R, h, k⟩ => ⟨n, δ, G, _, R, h, fun c G1 H1 δ1 R1 s1 h1 => by
    cases c with
    | false => exact iteF ⟨n, δ1, G1, Q, R1, h1, fun b G2 H2 δ2 R2 s2 h2 => k b G2 H2 δ2 R2 (s1.trans s2) h2⟩
    | true => exact iteT (k true G1 H1 δ1 R1 s1 h1)⟩
theorem dt_w {e : Expr} (h : DW X e tA) : DT X e tA := h.pt
theorem dt_not (ha : DT X a tA) : DT X (.UnaryOp .Not a pos) (dNot tA) :=
  pt_imp (pt_not ha) fun σ H Q2 ⟨n, δ, G, Q, R, h, k⟩ => ⟨n, δ, G, _, R, h, fun c G1 H1 δ1 R1 s1 h1 => k (!c) G1 H1 δ1 R1 s1 h1⟩
/-- the value of and, or, not: bools ahead -/
def dAndV (ta tb : TEd) : TEd := fun δ Q => ta δ fun x δ1 => match x with
  | .bl c => if c = true then tb δ1 Q else Q (.bl false) δ1
  | _ => False
def dOrV (ta tb : TEd) : TEd := fun δ Q => ta δ fun x δ1 => match x with
  | .bl c => if c = true then Q (.bl true) δ1 else tb δ1 Q
  | _ => False
def dNotV (ta : TEd) : TEd := fun δ Q => ta δ fun x δ1 => match x with
  | .bl c => Q (.bl (!c)) δ1
  | _ => False
theorem de_one {op} (h : DE X a ta) : DE X (.BoolOp op [a] pos) ta := pe_one h
theorem de_and (ha : DE X a ta) (hb : DE X (.BoolOp .And (b :: rest) pos) tb) : DE X (.BoolOp .And (a :: b :: rest) pos) (dAndV ta tb) :=
  pe_imp (L2.pe_and ha hb) fun σ H Q2 ⟨n, δ, G, Q, R, h, k⟩ => ⟨n, δ, G, _, R, h, fun v G1 H1 d δ1 R1 s1 d1 h1 => by
    cases d with
    | bl c =>
      refine ⟨c, d1.bl_inv, ?_⟩
      cases c with
      | true => exact iteT ⟨n, δ1, G1, Q, R1, h1, fun b G2 H2 d δ2 R2 s2 d2 h2 => k b G2 H2 d δ2 R2 (s1.trans s2) d2 h2⟩
      | false => exact iteF (k _ G1 H1 _ δ1 R1 s1 (.bl false) h1)
    | _ => exact h1.elim⟩
theorem de_or (ha : DE X a ta) (hb : DE X (.BoolOp .Or (b :: rest) pos) tb) : DE X (.BoolOp .Or (a :: b :: rest) pos) (dOrV ta tb) :=
  pe_imp (L2.pe_or ha hb) fun σ H Q2 ⟨n, δ, G, Q, R, h, k⟩ => ⟨n, δ, G, _, R, h, fun v G1 H1 d δ1 R1 s1 d1 h1 => by
    cases d with
    | bl c =>
      refine ⟨c, d1.bl_inv, ?_⟩
      cases c with
      | false => exact iteF ⟨n, δ1, G1, Q, R1, h1, fun b G2 H2 d δ2 R2 s2 d2 h2 => k b G2 H2 d δ2 R2 (s1.trans s2) d2 h2⟩
      | true => exact iteT (k _ G1 H1 _ δ1 R1 s1 (.bl true) h1)
    | _ => exact h1.elim⟩
theorem de_not (ha : DE X a ta) : DE X (.UnaryOp .Not a pos) (dNotV ta) :=
  pe_imp (L2.pe_not ha) fun σ H Q2 ⟨n, δ, G, Q, R, h, k⟩ => ⟨n, δ, G, _, R, h, fun v G1 H1 d δ1 R1 s1 d1 h1 => by
    cases d with
    | bl c => exact ⟨c, d1.bl_inv, k _ G1 H1 _ δ1 R1 s1 (.bl _) h1⟩
    | _ => exact h1.elim⟩
def dIf (t : TTd) (ta tb : TEd) : TEd := fun δ Q => t δ fun c δ1 => if c = true then ta δ1 Q else tb δ1 Q
theorem de_if (hc : DT X c tA) (ha : DE X a ta) (hb : DE X b tb) : DE X (.IfExp c a b pos) (dIf tA ta tb) :=
  pe_imp (pe_ifExp hc ha hb) fun σ H Q2 ⟨n, δ, G, Q, R, h, k⟩ => ⟨n, δ, G, _, R, h, fun c G1 H1 δ1 R1 s1 h1 => by
    cases c with
    | true => exact iteT ⟨n, δ1, G1, Q, R1, h1, fun v G2 H2 d δ2 R2 s2 d2 h2 => k v G2 H2 d δ2 R2 (s1.trans s2) d2 h2⟩
    | false => exact iteF ⟨n, δ1, G1, Q, R1, h1, fun v G2 H2 d δ2 R2 s2 d2 h2 => k v G2 H2 d δ2 R2 (s1.trans s2) d2 h2⟩⟩

/-! ### argument lists, displays -/
variable {e : Expr} {es : List Expr} {te : TEd} {t : TAd}
def dNil : TAd := fun δ Q => Q [] δ
def dCons (ta : TEd) (tr : TAd) : TAd := fun δ Q => ta δ fun x δ1 => tr δ1 fun xs δ2 => Q (x :: xs) δ2
theorem da_nil : DA X [] dNil := pa_imp pa_nil fun σ H Q2 ⟨n, δ, G, Q, R, h, k⟩ => k [] G H [] δ R (Same.refl _) .nil h
theorem da_cons (ha : DE X e te) (hr : DA X es t) (hs : starEach (e :: es) X.env = (false, eval e X.env) :: starEach es X.env := by rfl) : DA X (e :: es) (dCons te t) :=
  pa_imp (pa_cons ha hr hs) fun σ H Q2 ⟨n, δ, G, Q, R, h, k⟩ => ⟨n, δ, G, _, R, h, fun v G1 H1 d δ1 R1 s1 d1 h1 => ⟨n, δ1, G1, _, R1, h1, fun vs G2 H2 ds δ2 R2 s2 d2 h2 =>
    k (v :: vs) G2 H2 (d :: ds) δ2 R2 (s1.trans s2) (.cons (d1.up s2) d2) h2⟩⟩
def dTup (t : TAd) : TEd := fun δ Q => t δ fun xs δ1 => xs.length ≤ sizeLine ∧ Q (.tup xs) δ1
def dLst (t : TAd) : TEd := fun δ Q => t δ fun xs δ1 => xs.length ≤ sizeLine ∧ Q (.lst xs) δ1
theorem de_tup {x1} (h : DA X es t) : DE X (.Tuple es x1 pos) (dTup t) :=
  pe_imp (L2.pe_tup h) fun σ H Q2 ⟨n, δ, G, Q, R, h, k⟩ => ⟨n, δ, G, _, R, h, fun vs G1 H1 ds δ1 R1 s1 d1 h1 => ⟨by rw [d1.length]; exact h1.1, fun p hp =>
    k _ _ _ _ δ1 (R1.laid hp _) (s1.trans (same_upd (R1.sub.free hp) _)) (.tup (SqT.of upd_same) (d1.up (same_upd (R1.sub.free hp) _))) h1.2⟩⟩
theorem de_lst (h : DA X es t) : DE X (.List es pos) (dLst t) :=
  pe_imp (L2.pe_lst h) fun σ H Q2 ⟨n, δ, G, Q, R, h, k⟩ => ⟨n, δ, G, _, R, h, fun vs G1 H1 ds δ1 R1 s1 d1 h1 => ⟨by rw [d1.length]; exact h1.1, fun p hp =>
    k _ _ _ _ δ1 (R1.laid hp _) (s1.trans (same_upd (R1.sub.free hp) _)) (.lst (SqL.of upd_same) (d1.up (same_upd (R1.sub.free hp) _))) h1.2⟩⟩

/-! ### calls of built-ins -/
abbrev RC := List D → (D → Prop) → Prop
def CallS (K : PySem.W.Frag) (r2 : List V → Hp → VK → Prop) (r : RC) : Prop := ∀ (G H : Hp) (xs : List V) (ds : List D) (Q : D → Prop) (Q2 : VK), Same G H → DenL K G xs ds → r ds Q →
  (∀ (v : V) (G' H' : Hp) (d : D), Ext G H G' H' → Den K G' v d → Q d → Q2 v H') → r2 xs H Q2
def dCall (r : RC) (t : TAd) : TEd := fun δ Q => t δ fun ds δ1 => r ds fun d => Q d δ1
theorem CallR.or {f : Value} {r r' : List V → Hp → VK → Prop} (h : CallR X f r) (h' : CallR X f r') : CallR X f (fun xs H Q => r xs H Q ∨ r' xs H Q) :=
  fun pins s σ H xs us Q I rx q => q.elim (h pins s σ H xs us Q I rx) (h' pins s σ H xs us Q I rx)
theorem call_lift {r2 : List V → Hp → VK → Prop} {r : RC} (hs : CallS X.K r2 r) : ∀ σ H Q, lE X.K (dCall r t) σ H Q → tCB r2 (lA X.K t) σ H Q := fun σ H Q2 ⟨n, δ, G, Q, R, h, k⟩ =>
  ⟨n, δ, G, _, R, h, fun vs G1 H1 ds δ1 R1 s1 d1 h1 => hs G1 H1 vs ds _ Q2 R1.sub d1 h1 fun u G3 H3 d e3 d3 q3 => k u G3 H3 d δ1 (R1.ext e3) (s1.trans e3.gg) d3 q3⟩
variable {x : Str} {p : Pos} {id T : String}
theorem de_callB {r2 : List V → Hp → VK → Prop} {r : RC} (hc : CallR X (.builtin id) r2) (hs : CallS X.K r2 r) (hm : X.mg x = none) (hv : bootBuiltins x = some (.builtin id)) (ha : DA X (e :: es) t) (hg : Gl X x := by rfl) (hn : x ≠ "__name__" := by decide) (hdb : (x == ("__debug__" : Str)) = false := by decide)
    (he : starEach (e :: es) X.env = (false, eval e X.env) :: starEach es X.env := by rfl) (hpl : (backTo pos (starEach es X.env)).any (·.1) = false := by rfl) : DE X (.Call (.Name x p) (e :: es) [] pos) (dCall r t) :=
  pe_imp (pe_callB hc hg hm hv ha hn hdb he hpl) (call_lift hs)
theorem de_callTy {r2 : List V → Hp → VK → Prop} {r : RC} (hc : CallR X (.type T) r2) (hs : CallS X.K r2 r) (hm : X.mg x = none) (hv : bootBuiltins x = some (.type T)) (ha : DA X (e :: es) t) (hg : Gl X x := by rfl) (hn : x ≠ "__name__" := by decide) (hdb : (x == ("__debug__" : Str)) = false := by decide)
    (he : starEach (e :: es) X.env = (false, eval e X.env) :: starEach es X.env := by rfl) (hpl : (backTo pos (starEach es X.env)).any (·.1) = false := by rfl) : DE X (.Call (.Name x p) (e :: es) [] pos) (dCall r t) :=
  pe_imp (pe_callTy hc hg hm hv ha hn hdb he hpl) (call_lift hs)
end

/-! ### a def's promise over data -/
abbrev SpD := List D → (D → Prop) → Prop
def spOf (K : PySem.W.Frag) (S : SpD) : Sp := fun vs H Q _ => ∃ (G : Hp) (ds : List D) (Qd : D → Prop), Same G H ∧ DenL K G vs ds ∧ S ds Qd ∧
  ∀ (v : V) (G' H' : Hp) (d : D), Ext G H G' H' → Den K G' v d → Qd d → Q v H'
section
variable {X : Cx} {k : Nat} {f : Addr} {fd : FuncData} {ps : List Str} {S : SpD} {x : Str} {p pos : Pos} {e : Expr} {es : List Expr} {t : TAd}
theorem de_call (F : FnOk X.prog X.w X.K X.mg X.base CX0 k f fd ps (spOf X.K S)) (hr : Room k X.A) (hm : X.mg x = some (.ref f)) (hk : PySem.W.keepIn X.K (.ref f) = true) (hb : Binds X.K fd ps [])
    (ha : DA X (e :: es) t) (hg : Gl X x := by rfl) (hdb : (x == ("__debug__" : Str)) = false := by decide) (he : starEach (e :: es) X.env = (false, eval e X.env) :: starEach es X.env := by rfl) (hpl : (backTo pos (starEach es X.env)).any (·.1) = false := by rfl) :
    DE X (.Call (.Name x p) (e :: es) [] pos) (dCall S t) :=
  pe_imp (pe_call F hr hg hm hk hb .nil pass0 ha hdb he hpl) fun σ H Q2 ⟨n, δ, G, Q, R, h, kk⟩ => ⟨n, δ, G, _, R, h, fun vs G1 H1 ds δ1 R1 s1 d1 h1 => by
    show spOf X.K S (vs ++ []) H1 Q2 E0
    rw [List.append_nil]
    exact ⟨G1, ds, _, R1.sub, d1, h1, fun v G2 H2 d e2 d2 q2 => kk v G2 H2 d δ1 (R1.ext e2) (s1.trans e2.gg) d2 q2⟩⟩
theorem de_call0 (F : FnOk X.prog X.w X.K X.mg X.base CX0 k f fd ps (spOf X.K S)) (hr : Room k X.A) (hm : X.mg x = some (.ref f)) (hk : PySem.W.keepIn X.K (.ref f) = true) (hb : Binds X.K fd ps [])
    (hg : Gl X x := by rfl) (hdb : (x == ("__debug__" : Str)) = false := by decide) : DE X (.Call (.Name x p) [] [] pos) (dCall S dNil) :=
  pe_imp (pe_call0 F hr hg hm hk hb .nil pass0 hdb) fun σ H Q2 ⟨n, δ, G, Q, R, h, kk⟩ =>
    ⟨G, [], _, R.sub, .nil, h, fun v G2 H2 d e2 d2 q2 => kk v G2 H2 d δ (R.ext e2) e2.gg d2 q2⟩
end
end Dl

namespace Dl
open PySem PySem.Spec PyProof.Rows L2

/-! ## Statements over data -/
structure EndsD where
  nx : Ev → Prop
  rt : D → Ev → Prop
  bk : Ev → Prop := fun _ => False
  ct : Ev → Prop := fun _ => False
abbrev TSd := EndsD → Ev → Prop
/-- what is wanted behind, over data and over the heap -/
structure EndsOk (K : PySem.W.Frag) (n : En) (E : EndsD) (F : Ends) : Prop where
  nx : ∀ δ σ G H, Rel K n δ σ G H → E.nx δ → F.nx σ H
  rt : ∀ v d δ σ G H, Rel K n δ σ G H → Den K G v d → E.rt d δ → F.rt v H
  bk : ∀ δ σ G H, Rel K n δ σ G H → E.bk δ → F.bk σ H
  ct : ∀ δ σ G H, Rel K n δ σ G H → E.ct δ → F.ct σ H
def lS (K : PySem.W.Frag) (t : TSd) : TS := fun F σ H => ∃ (n : En) (δ : Ev) (G : Hp) (E : EndsD), Rel K n δ σ G H ∧ t E δ ∧ EndsOk K n E F
abbrev DS (X : Cx) (st : Stmt) (t : TSd) : Prop := PS X st (lS X.K t)
abbrev DSs (X : Cx) (st : List Stmt) (t : TSd) : Prop := PSs X st (lS X.K t)

section
variable {X : Cx} {st : Stmt} {rest : List Stmt} {t u : TSd} {pos : Pos} {e : Expr} {te : TEd}
def dNext : TSd := fun E δ => E.nx δ
def dSeq (t u : TSd) : TSd := fun E δ => t { E with nx := u E } δ
theorem dss_nil : DSs X [] dNext := pss_imp pss_nil fun F σ H ⟨n, δ, G, E, R, h, k⟩ => k.nx δ σ G H R h
theorem dss_cons (h1 : DS X st t) (h2 : DSs X rest u) : DSs X (st :: rest) (dSeq t u) :=
  pss_imp (pss_cons h1 h2) fun F σ H ⟨n, δ, G, E, R, h, k⟩ => ⟨n, δ, G, _, R, h, ⟨fun δ' σ' G' H' R' h' => ⟨n, δ', G', E, R', h', k⟩, k.rt, k.bk, k.ct⟩⟩
theorem dss_one (h1 : DS X st t) : DSs X [st] t := pss_one h1
theorem ds_pass : DS X (.Pass pos) dNext := ps_imp ps_pass fun F σ H ⟨n, δ, G, E, R, h, k⟩ => k.nx δ σ G H R h
def dBreak : TSd := fun E δ => E.bk δ
def dCont : TSd := fun E δ => E.ct δ
theorem ds_break : DS X (.Break pos) dBreak := ps_imp ps_break fun F σ H ⟨n, δ, G, E, R, h, k⟩ => k.bk δ σ G H R h
theorem ds_continue : DS X (.Continue pos) dCont := ps_imp ps_continue fun F σ H ⟨n, δ, G, E, R, h, k⟩ => k.ct δ σ G H R h
def dDrop (te : TEd) : TSd := fun E δ => te δ fun _ δ1 => E.nx δ1
theorem ds_expr (he : DE X e te) (hs : swapsWith e none pos.line X.env = pure false := by rfl) : DS X (.Expr e pos) (dDrop te) :=
  ps_imp (ps_expr he hs) fun F σ H ⟨n, δ, G, E, R, h, k⟩ => ⟨n, δ, G, _, R, h, fun v G1 H1 d δ1 R1 s1 d1 h1 => k.nx δ1 σ G1 H1 R1 h1⟩
def dRet (te : TEd) : TSd := fun E δ => te δ E.rt
theorem ds_ret (he : DE X e te) : DS X (.Return (some e) pos) (dRet te) :=
  ps_imp (ps_ret he) fun F σ H ⟨n, δ, G, E, R, h, k⟩ => ⟨n, δ, G, _, R, h, fun v G1 H1 d δ1 R1 s1 d1 h1 => k.rt v d δ1 σ G1 H1 R1 d1 h1⟩
def dRetN : TSd := fun E δ => E.rt .non δ
theorem ds_retN : DS X (.Return none pos) dRetN := ps_imp ps_retN fun F σ H ⟨n, δ, G, E, R, h, k⟩ => k.rt .non .non δ σ G H R .non h
def dIfS (c : TTd) (t u : TSd) : TSd := fun E δ => c δ fun b δ1 => if b = true then t E δ1 else u E δ1
theorem ds_if {c : Expr} {a b : List Stmt} {tc : TTd} (hc : DT X c tc) (ha : DSs X a t) (hb : DSs X b u) : DS X (.If c a b pos) (dIfS tc t u) :=
  ps_imp (ps_if hc ha hb) fun F σ H ⟨n, δ, G, E, R, h, k⟩ => ⟨n, δ, G, _, R, h, fun c G1 H1 δ1 R1 s1 h1 => by
    cases c with
    | true => exact iteT ⟨n, δ1, G1, E, R1, h1, k⟩
    | false => exact iteF ⟨n, δ1, G1, E, R1, h1, k⟩⟩
def dNever : TSd := fun _ _ => False
theorem ds_never : DS X st dNever := fun _ _ _ _ _ _ ⟨_, _, _, _, _, h, _⟩ => h.elim
theorem dss_never {sts : List Stmt} : DSs X sts dNever := fun _ _ _ _ _ _ ⟨_, _, _, _, _, h, _⟩ => h.elim
/-- x = e -/
def dSet (i : Nat) (te : TEd) : TSd := fun E δ => te δ fun d δ1 => E.nx (δ1.set i (.sh d))
theorem ds_set (i : Nat) {x : Str} {pos' : Pos} (hN : X.N.Nodup) (he : DE X e te) (hi : X.N[i]? = some x := by rfl) (hx : Loc X.env.scope x := by first | exact Or.inl rfl | exact Or.inr rfl) (hs : swapsWith e (some (.Name x pos')) pos.line X.env = pure false := by rfl)
    (hf : X.fn x = true ∨ X.env.scope.names.lookup x = some .local := by first | exact .inl rfl | exact .inr rfl | assumption) : DS X (.Assign [.Name x pos'] e pos) (dSet i te) :=
  ps_imp (ps_set (i := i) hN hi hx he hs hf) fun F σ H ⟨n, δ, G, E, R, h, k⟩ => ⟨n, δ, G, _, R, h, fun v G1 H1 d δ1 R1 s1 d1 h1 => k.nx _ _ G1 H1 (R1.set i d1) h1⟩
/-- x = [..], a list of one's own -/
def dOwn (i : Nat) (ta : TAd) : TSd := fun E δ => ta δ fun ds δ1 => ds.length ≤ sizeLine ∧ E.nx (δ1.set i (.ow ds))
theorem ds_own (i : Nat) {x : Str} {pos' lp : Pos} {es : List Expr} {ta : TAd} (hN : X.N.Nodup) (he : DA X es ta) (hi : X.N[i]? = some x := by rfl) (hx : Loc X.env.scope x := by first | exact Or.inl rfl | exact Or.inr rfl) (hs : swapsWith (.List es lp) (some (.Name x pos')) pos.line X.env = pure false := by rfl)
    (hf : X.fn x = true ∨ X.env.scope.names.lookup x = some .local := by first | exact .inl rfl | exact .inr rfl | assumption) : DS X (.Assign [.Name x pos'] (.List es lp) pos) (dOwn i ta) :=
  ps_imp (ps_set (i := i) hN hi hx (L2.pe_lst he) hs hf) fun F σ H ⟨n, δ, G, E, R, h, k⟩ => ⟨n, δ, G, _, R, h, fun vs G1 H1 ds δ1 R1 s1 d1 h1 => ⟨by rw [d1.length]; exact h1.1, fun p hp =>
    k.nx _ _ G1 _ (R1.own i hp d1) h1.2⟩⟩
/-- from here on the list is a value -/
def dFrz (i : Nat) (t : TSd) : TSd := fun E δ => match δ[i]? with
  | some (.ow l) => t E (δ.set i (.sh (.lst l)))
  | _ => False
theorem dss_frz (i : Nat) {sts : List Stmt} (h1 : DSs X sts t) : DSs X sts (dFrz i t) :=
  pss_imp h1 fun F σ H ⟨n, δ, G, E, R, h, k⟩ => by
    unfold dFrz at h
    split at h
    · rename_i l e
      obtain ⟨G', R', _⟩ := R.freeze e
      exact ⟨n, _, G', E, R', h, k⟩
    · exact h.elim
/-- xs.append(e) -/
def dApp (i : Nat) (te : TEd) : TSd := fun E δ => match δ[i]? with
  | some (.ow _) => te δ fun d δ1 => match δ1[i]? with
    | some (.ow l) => l.length < sizeLine ∧ E.nx (δ1.set i (.ow (l ++ [d])))
    | _ => False
  | _ => False
theorem ds_append (i : Nat) {x : Str} {e₀ : Expr} {np ap cp : Pos} {te : TEd} (he : DE X e₀ te) (hN : X.N[i]? = some x := by rfl) (hv : Vis X.env.scope x := by first | exact Or.inl rfl | exact Or.inr (Or.inl rfl) | exact Or.inr (Or.inr rfl))
    (hd : (x == ("__debug__" : Str)) = false := by decide) (hcd : (x == ("__classdict__" : Str)) = false := by decide)
    (hs : swapsWith (.Call (.Attribute (.Name x np) "append" ap) [e₀] [] cp) none pos.line X.env = pure false := by rfl)
    (hbase : attributeBase (.Name x np) "append" X.env (eval (.Name x np) X.env) = eval (.Name x np) X.env := by rfl)
    (hfew : ((backTo cp (starEach [e₀] X.env)).all (fun x => !x.1) && (backToKw cp (keywordEach [] X.env)).all (fun x => x.1.isSome)
      && decide ([e₀].length + ([] : List Keyword).length + (if ([] : List Keyword).isEmpty then 0 else 1) < 30)) = true := by rfl)
    (hline : (ap.endLine == cp.line) = true := by rfl) (hst : starEach [e₀] X.env = (false, eval e₀ X.env) :: starEach [] X.env := by rfl) (hplain : (backTo cp (starEach [] X.env)).any (·.1) = false := by rfl) :
    DS X (.Expr (.Call (.Attribute (.Name x np) "append" ap) [e₀] [] cp) pos) (dApp i te) :=
  ps_imp (ps_expr (pe_bm PySem.F.plainAttrs_list PySem.F.slot_list_append PySem.F.type_list_append mt_append (pe_var hN hv hd hcd) (pa_cons he pa_nil hst) hbase hfew hline hst hplain) hs) fun F σ H ⟨n, δ, G, E, R, h, k⟩ => by
    unfold dApp at h
    split at h
    · rename_i l0 e0
      obtain ⟨p, vs, g1, g2, g3, g4, g5⟩ := R.sl i _ e0
      refine ⟨.ref p, g1, .inl ⟨rfl, vs, SqL.of g2⟩, n, δ, G, _, R, h, fun v G1 H1 d δ1 R1 s1 d1 h1 => ?_⟩
      split at h1
      · rename_i l1 e1
        obtain ⟨q, ws, k1, k2, k3, k4, k5⟩ := R1.sl i _ e1
        rw [g1] at k1; cases k1
        refine ⟨p, ws, v, rfl, rfl, k2, by rw [k5.length]; exact h1.1, ?_⟩
        exact k.nx _ σ G1 _ (R1.change e1 g1 (k5.append (.cons d1 .nil))) h1.2
      · exact h1.elim
    · exact h.elim

/-! ### targets -/
abbrev TGd := D → Ev → (Ev → Prop) → Prop
def lG (K : PySem.W.Frag) (g : TGd) : TG := fun v σ H Q2 => ∃ (n : En) (δ : Ev) (G : Hp) (d : D) (Q : Ev → Prop), Rel K n δ σ G H ∧ Den K G v d ∧ g d δ Q ∧
  ∀ δ' σ', Rel K n δ' σ' G H → Q δ' → Q2 σ' H
abbrev DG (X : Cx) (tg : Expr) (g : TGd) : Prop := PG X tg (lG X.K g)
theorem pg_imp {tg : Expr} {g g' : TG} (h : PG X tg g) (hi : ∀ v σ H Q, g' v σ H Q → g v σ H Q) : PG X tg g' := fun pins s σ H x u Q I r q => h pins s σ H x u Q I r (hi x σ H Q q)
def gdName (i : Nat) : TGd := fun d δ Q => Q (δ.set i (.sh d))
theorem dg_name (i : Nat) {x : Str} (hN : X.N.Nodup) (hi : X.N[i]? = some x := by rfl) (hx : Loc X.env.scope x := by first | exact Or.inl rfl | exact Or.inr rfl) (hf : X.fn x = true ∨ X.env.scope.names.lookup x = some .local := by first | exact .inl rfl | exact .inr rfl | assumption) : DG X (.Name x pos) (gdName i) :=
  pg_imp (pg_name (i := i) hN hi hx hf) fun v σ H Q2 ⟨n, δ, G, d, Q, R, hv, h, k⟩ => k _ _ (R.set i hv) h

/-! ### loops -/
/-- J walks the items l, whatever is done between -/
structure JOk (K : PySem.W.Frag) (G : Hp) (J : It) (l : List D) : Prop where
  go : ∀ (i : Nat) (G1 H1 : Hp), Same G G1 → Same G1 H1 → i < l.length → J.go i H1
  yl : ∀ (i : Nat) (G1 H1 : Hp) (x : V) (H2 : Hp), Same G G1 → Same G1 H1 → i < l.length → J.yld i H1 x H2 → ∃ (G2 : Hp) (d : D), Ext G1 H1 G2 H2 ∧ l[i]? = some d ∧ Den K G2 x d
  st : ∀ (i : Nat) (G1 H1 : Hp), Same G G1 → Same G1 H1 → l.length ≤ i → J.stop i H1
abbrev TId := Ev → (List D → Ev → Prop) → Prop
def lI (K : PySem.W.Frag) (t : TId) : TI := fun σ H R2 => ∃ (n : En) (δ : Ev) (G : Hp) (Q : List D → Ev → Prop), Rel K n δ σ G H ∧ t δ Q ∧
  ∀ (J : It) (G' H' : Hp) (l : List D) (δ' : Ev), Rel K n δ' σ G' H' → Same G G' → JOk K G' J l → Q l δ' → R2 J H'
abbrev DI (X : Cx) (tg iter : Expr) (t : TId) : Prop := PI X tg iter (lI X.K t)
theorem pi_imp {tg iter : Expr} {t t' : TI} (h : PI X tg iter t) (hi : ∀ σ H Q, t' σ H Q → t σ H Q) : PI X tg iter t' := fun pins s σ H R I q => h pins s σ H R I (hi σ H R q)
theorem jok_list {K : PySem.W.Frag} {G : Hp} {a : Addr} {vs : List V} {l : List D} (h : SqL K G a vs) (hl : DenL K G vs l) : JOk K G (Itl K a) l := by
  have len := hl.length
  refine ⟨fun i G1 H1 s1 s2 hi => ⟨vs, vs[i]'(by omega), (s1.trans s2).seq h, by simp⟩, fun i G1 H1 x H2 s1 s2 hi y => ?_, fun i G1 H1 s1 s2 hi => ⟨vs, (s1.trans s2).seq h, by omega⟩⟩
  obtain ⟨e, y⟩ := y
  subst e
  obtain ⟨d, hd, hx⟩ := hl.getV (y vs ((s1.trans s2).seq h))
  exact ⟨G1, d, Ext.refl s2, hd, hx.up s1⟩
theorem jok_tup {K : PySem.W.Frag} {G : Hp} {a : Addr} {vs : List V} {l : List D} (h : SqT K G a vs) (hl : DenL K G vs l) : JOk K G (Itt K a) l := by
  have len := hl.length
  refine ⟨fun i G1 H1 s1 s2 hi => ⟨vs, vs[i]'(by omega), Same.tupS (s1.trans s2) h, by simp⟩, fun i G1 H1 x H2 s1 s2 hi y => ?_, fun i G1 H1 s1 s2 hi => ⟨vs, Same.tupS (s1.trans s2) h, by omega⟩⟩
  obtain ⟨e, y⟩ := y
  subst e
  obtain ⟨d, hd, hx⟩ := hl.getV (y vs (Same.tupS (s1.trans s2) h))
  exact ⟨G1, d, Ext.refl s2, hd, hx.up s1⟩
/-- lo, lo + 1, .. -/
def rangeL (lo : Int) (k : Nat) : List D := (List.range k).map fun i => D.int (lo + (i : Nat))
theorem jok_range {K : PySem.W.Frag} {G : Hp} {lo : Int} {k : Nat} : JOk K G (Itr lo k) (rangeL lo k) := by
  have len : (rangeL lo k).length = k := by simp [rangeL]
  refine ⟨fun i G1 H1 s1 s2 hi => by rw [len] at hi; exact hi, fun i G1 H1 x H2 s1 s2 hi y => ?_, fun i G1 H1 s1 s2 hi => by rw [len] at hi; exact hi⟩
  obtain ⟨e, e2⟩ := y
  subst e e2
  rw [len] at hi
  exact ⟨G1, .int (lo + (i : Nat)), Ext.refl s2, by simp [rangeL, hi], .int _⟩
/-- a list or a tuple is walked -/
def diList (te : TEd) : TId := fun δ Q => te δ fun d δ1 => match d with
  | .lst l => Q l δ1
  | _ => False
def diTup (te : TEd) : TId := fun δ Q => te δ fun d δ1 => match d with
  | .tup l => Q l δ1
  | _ => False
theorem di_list {tg l : Expr} (hl : DE X l te) : DI X tg l (diList te) :=
  pi_imp (pi_list hl) fun σ H R2 ⟨n, δ, G, Q, R, h, k⟩ => ⟨n, δ, G, _, R, h, fun v G1 H1 d δ1 R1 s1 d1 h1 => by
    cases d with
    | lst l =>
      obtain ⟨a, vs, rfl, hq, hl⟩ := d1.lst_inv
      exact ⟨a, rfl, ⟨vs, R1.sub.seq hq⟩, k _ G1 H1 l δ1 R1 s1 (jok_list hq hl) h1⟩
    | _ => exact h1.elim⟩
theorem di_tup {tg l : Expr} (hl : DE X l te) : DI X tg l (diTup te) :=
  pi_imp (pi_tup hl) fun σ H R2 ⟨n, δ, G, Q, R, h, k⟩ => ⟨n, δ, G, _, R, h, fun v G1 H1 d δ1 R1 s1 d1 h1 => by
    cases d with
    | tup l =>
      obtain ⟨a, vs, rfl, hq, hl⟩ := d1.tup_inv
      exact ⟨a, rfl, ⟨vs, Same.tupS R1.sub hq⟩, k _ G1 H1 l δ1 R1 s1 (jok_tup hq hl) h1⟩
    | _ => exact h1.elim⟩
def diRange1 (ta : TAd) : TId := fun δ Q => ta δ fun ds δ1 => match ds with
  | [.int j] => -(2 ^ 62) ≤ j ∧ j < 2 ^ 62 ∧ Q (rangeL 0 j.toNat) δ1
  | _ => False
def diRange2 (ta : TAd) : TId := fun δ Q => ta δ fun ds δ1 => match ds with
  | [.int i, .int j] => (-(2 ^ 62) ≤ i ∧ i < 2 ^ 62 ∧ -(2 ^ 62) ≤ j ∧ j < 2 ^ 62) ∧ Q (rangeL i (j - i).toNat) δ1
  | _ => False
theorem di_range1 {tg a : Expr} {ta : TAd} {p pos : Pos} (hm : X.mg "range" = none) (ha : DA X [a] ta) (hg : Gl X "range" := by rfl) (hs : starEach [a] X.env = [(false, eval a X.env)] := by rfl) : DI X tg (.Call (.Name "range" p) [a] [] pos) (diRange1 ta) :=
  pi_imp (pi_range1 hg hm ha hs) fun σ H R2 ⟨n, δ, G, Q, R, h, k⟩ => ⟨n, δ, G, _, R, h, fun vs G1 H1 ds δ1 R1 s1 d1 h1 => by
    split at h1
    · cases d1 with | cons d1 d2 => cases d2; cases d1.int_inv; exact ⟨_, rfl, h1.1, h1.2.1, k _ G1 H1 _ δ1 R1 s1 jok_range h1.2.2⟩
    · exact h1.elim⟩
theorem di_range2 {tg a b : Expr} {ta : TAd} {p pos : Pos} (hm : X.mg "range" = none) (ha : DA X [a, b] ta) (hg : Gl X "range" := by rfl) (hs : starEach [a, b] X.env = [(false, eval a X.env), (false, eval b X.env)] := by rfl) (hs2 : starEach [b] X.env = [(false, eval b X.env)] := by rfl) :
    DI X tg (.Call (.Name "range" p) [a, b] [] pos) (diRange2 ta) :=
  pi_imp (pi_range2 hg hm ha hs hs2) fun σ H R2 ⟨n, δ, G, Q, R, h, k⟩ => ⟨n, δ, G, _, R, h, fun vs G1 H1 ds δ1 R1 s1 d1 h1 => by
    split at h1
    · cases d1 with | cons d1 d2 => cases d2 with | cons d2 d3 => cases d3; cases d1.int_inv; cases d2.int_inv; exact ⟨_, _, rfl, h1.1, k _ G1 H1 _ δ1 R1 s1 jok_range h1.2⟩
    · exact h1.elim⟩
/-- W i: what holds ahead of the i-th turn -/
def dFor (ti : TId) (g : TGd) (tb : TSd) : TSd := fun E δ => ti δ fun items δ1 => ∃ W : Nat → Ev → Prop, W 0 δ1 ∧
  (∀ (i : Nat) (d : D) (δ2 : Ev), items[i]? = some d → W i δ2 → g d δ2 fun δ3 => tb { E with nx := W (i + 1), ct := W (i + 1), bk := E.nx } δ3) ∧ ∀ δ2, W items.length δ2 → E.nx δ2
theorem ds_for {tg iter : Expr} {body : List Stmt} {ti : TId} {g : TGd} {tb : TSd} (hp : PassesOwn (model X.prog X.w) X.A X.env X.xe) (hc : X.calm = true) (hi : DI X tg iter ti) (hg : DG X tg g) (hb : DSs X body tb)
    (hs : ∀ x, foldedSetIterable iter X.env x = pure x := by intro _; rfl) : DS X (.For tg iter body [] pos) (dFor ti g tb) :=
  ps_imp (ps_for hp hc hi hg hb hs) fun F σ H ⟨n, δ, G, E, R, h, k⟩ => ⟨n, δ, G, _, R, h, fun J G1 H1 items δ1 R1 s1 j1 ⟨W, w0, step, fin⟩ => by
    refine ⟨fun i m σ H => i ≤ items.length ∧ m = items.length - i ∧ ∃ δ G, Rel X.K n δ σ G H ∧ Same G1 G ∧ W i δ, ⟨_, Nat.zero_le _, rfl, δ1, G1, R1, Same.refl _, w0⟩, ?_⟩
    rintro i m σ2 H2 ⟨hi, rfl, δ2, G2, R2, s2, w2⟩
    by_cases hl : i < items.length
    · refine .inr ⟨j1.go i G2 H2 s2 R2.sub hl, fun σ' H' => ∃ δ G, Rel X.K n δ σ' G H' ∧ Same G1 G ∧ W (i + 1) δ, fun σ' H' ⟨δ', G', R', s', w'⟩ => ⟨items.length - (i + 1), by omega, hl, rfl, δ', G', R', s', w'⟩, fun x H3 y => ?_⟩
      obtain ⟨G3, d, e3, hd, dx⟩ := j1.yl i G2 H2 x H3 s2 R2.sub hl y
      have R3 := R2.ext e3
      have s3 : Same G1 G3 := s2.trans e3.gg
      refine ⟨⟨G3, n.H, n.M⟩, δ2, G3, d, _, R3.rebase, dx, step i d δ2 hd w2, fun δ4 σ4 R4 h4 => ?_⟩
      refine ⟨⟨G3, n.H, n.M⟩, δ4, G3, _, R4, h4, ⟨fun δ5 σ5 G5 H5 R5 h5 => ⟨δ5, G5, R3.unbase R5, s3.trans R5.eg, h5⟩, fun v d δ5 σ5 G5 H5 R5 d5 h5 => k.rt v d δ5 σ5 G5 H5 (R3.unbase R5) d5 h5,
        fun δ5 σ5 G5 H5 R5 h5 => k.nx δ5 σ5 G5 H5 (R3.unbase R5) h5, fun δ5 σ5 G5 H5 R5 h5 => ⟨δ5, G5, R3.unbase R5, s3.trans R5.eg, h5⟩⟩⟩
    · have e : i = items.length := by omega
      subst e
      exact .inl ⟨j1.st _ G2 H2 s2 R2.sub (Nat.le_refl _), k.nx δ2 σ2 G2 H2 R2 (fin δ2 w2)⟩⟩
/-- while: W m holds ahead of each turn, m falls -/
def dWhile (c : TTd) (tb : TSd) : TSd := fun E δ => ∃ W : Nat → Ev → Prop, (∃ m, W m δ) ∧ ∀ m δ1, W m δ1 →
  c δ1 fun b δ2 => if b = true then tb { E with nx := fun δ' => ∃ m', m' < m ∧ W m' δ', ct := fun δ' => ∃ m', m' < m ∧ W m' δ', bk := E.nx } δ2 else E.nx δ2
theorem ds_while {c : Expr} {body : List Stmt} {tc : TTd} {tb : TSd} (hp : PassesOwn (model X.prog X.w) X.A X.env X.xe) (hc : DT X c tc) (hb : DSs X body tb) : DS X (.While c body [] pos) (dWhile tc tb) :=
  ps_imp (ps_while hp hc hb) fun F σ H ⟨n, δ, G, E, R, ⟨W, ⟨m0, w0⟩, step⟩, k⟩ => by
    refine ⟨fun m σ H => ∃ δ G, Rel X.K n δ σ G H ∧ W m δ, ⟨m0, δ, G, R, w0⟩, ?_⟩
    rintro m σ2 H2 ⟨δ2, G2, R2, w2⟩
    refine ⟨n, δ2, G2, _, R2, step m δ2 w2, fun c G3 H3 δ3 R3 s3 h3 => ?_⟩
    cases c with
    | true =>
      refine iteT ⟨fun σ' H' => ∃ m', m' < m ∧ ∃ δ G, Rel X.K n δ σ' G H' ∧ W m' δ, fun σ' H' z => z, n, δ3, G3, _, R3, h3, ⟨fun δ5 σ5 G5 H5 R5 ⟨m', hm, w5⟩ => ⟨m', hm, δ5, G5, R5, w5⟩, k.rt, k.nx, fun δ5 σ5 G5 H5 R5 ⟨m', hm, w5⟩ => ⟨m', hm, δ5, G5, R5, w5⟩⟩⟩
    | false => exact iteF (k.nx δ3 σ2 G3 H3 R3 h3)
end

/-! ### a def by its body -/
/-- the names at the entry -/
def startD (N : List Str) (ds : List D) : Ev := ds.map Sl.sh ++ List.replicate (N.length - ds.length) Sl.no
theorem rel_start {K : PySem.W.Frag} {N : List Str} {G H : Hp} {vs : List V} {ds : List D} (s : Same G H) (h : DenL K G vs ds) : Rel K ⟨G, H, fun _ => False⟩ (startD N ds) (start N vs) G H := by
  have len := h.length
  refine ⟨s, Same.refl _, fun b o e _ => e, fun b e => e, fun b o e (e0 : G b = none) => (by rw [e0] at e; cases e), ⟨fun _ => none, ⟨fun _ _ z => by cases z⟩, fun i sl hs => ?_⟩, ?_⟩
  · unfold startD at hs
    by_cases hi : i < ds.length
    · rw [List.getElem?_append_left (by simpa using hi), List.getElem?_map] at hs
      cases q : ds[i]? with
      | none => rw [q] at hs; cases hs
      | some d =>
        rw [q] at hs; cases hs
        obtain ⟨v, hv, dv⟩ := h.get q
        refine ⟨v, ?_, dv⟩
        unfold L2.start
        rw [List.getElem?_append_left (by rw [List.length_map]; omega), List.getElem?_map, hv]; rfl
    · rw [List.getElem?_append_right (by simpa using hi), List.getElem?_replicate] at hs
      split at hs
      · cases hs; trivial
      · cases hs
  · simp [startD, L2.start, len]
section
variable {P : Program} {w : World} {K : PySem.W.Frag} {mg : Str → Option Value} {base : Heap}
theorem fnD {x qual : Str} {st : Stmt} {f : Addr} {fd : FuncData} {N ps : List Str} {k : Nat} {S : SpD} (F : Fun K x qual st f fd) (Sc : FnScope N ps (defScope st)) (len : ∀ ds Q, S ds Q → ds.length = ps.length)
    (hbody : ∀ (cdv : Value) (A : Around) (outer : List Env) (s : Shared) (H : Hp) (E : XK), Room k (A.deeper (envOfC qual (defScope st) s.heap.objs.size f cdv)) →
      ∃ t, DSs (cxOf CX0 P w K mg base N qual (defScope st) f cdv A outer s H E).nox (defBody st) t ∧ ∀ ds Q, S ds Q → t { nx := fun _ => Q .non, rt := fun d _ => Q d } (startD N ds)) : FnOk P w K mg base CX0 (k + 1) f fd ps (spOf K S) := by
  refine F.ok Sc (fun vs H Q E ⟨G, ds, Qd, sub, dn, h, _⟩ => ?_) (fun cdv A outer s H vs Q E hr ⟨G, ds, Qd, sub, dn, h, kk⟩ => ?_)
  · rw [dn.length]; exact len ds Qd h
  · obtain ⟨t, ht, hq⟩ := hbody cdv A outer s H E hr
    refine ⟨_, ht, ⟨G, H, fun _ => False⟩, _, G, _, rel_start (N := N) sub dn, hq ds Qd h, ⟨fun δ σ G' H' R' q => ?_, fun v d δ σ G' H' R' dv q => ?_, fun _ _ _ _ _ q => q.elim, fun _ _ _ _ _ q => q.elim⟩⟩
    · exact kk .non G' H' .non ⟨R'.eg, R'.sub, fun b o e => R'.eh b o e (fun z => z), fun b o e e0 => R'.fr b o e e0⟩ .non q
    · exact kk v G' H' d ⟨R'.eg, R'.sub, fun b o e => R'.eh b o e (fun z => z), fun b o e e0 => R'.fr b o e e0⟩ dv q
end
end Dl

namespace Dl
open PySem PySem.Spec PyProof.Rows L2

/-! ## Data as the library reads it -/
mutual
def D.py : D → PyData
  | .non => .none
  | .bl b => .bool b
  | .int i => .int i
  | .str x => .str x
  | .tup l => .tuple (D.pyL l)
  | .lst l => .list (D.pyL l)
def D.pyL : List D → List PyData
  | [] => []
  | d :: r => D.py d :: D.pyL r
end
mutual
def D.ok : D → Bool
  | .str x => PyData.strOk x
  | .tup l => D.okL l
  | .lst l => D.okL l
  | _ => true
def D.okL : List D → Bool
  | [] => true
  | d :: r => D.ok d && D.okL r
end
mutual
def D.dep : D → Nat
  | .tup l => D.depL l + 1
  | .lst l => D.depL l + 1
  | _ => 0
def D.depL : List D → Nat
  | [] => 0
  | d :: r => max (D.dep d) (D.depL r)
end
mutual
def eqD : D → D → Bool
  | .non, .non => true
  | .bl a, .bl b => a == b
  | .bl a, .int j => (if a then 1 else 0) == j
  | .int i, .bl b => i == (if b then 1 else 0)
  | .int i, .int j => i == j
  | .str x, .str y => x == y
  | .tup l, .tup m => eqDL l m
  | .lst l, .lst m => eqDL l m
  | _, _ => false
def eqDL : List D → List D → Bool
  | [], [] => true
  | a :: l, b :: m => eqD a b && eqDL l m
  | _, _ => false
end
mutual
theorem py_ok : ∀ d : D, d.ok = true → (D.py d).canLay0 = true
  | .non, _ => rfl
  | .bl _, _ => rfl
  | .int _, _ => rfl
  | .str _, h => h
  | .tup l, h => py_okL l h
  | .lst l, h => py_okL l h
theorem py_okL : ∀ l : List D, D.okL l = true → PyData.canLayAll0 (D.pyL l) = true
  | [], _ => rfl
  | d :: r, h => by
    have h' : (D.ok d && D.okL r) = true := h
    rw [Bool.and_eq_true] at h'
    show (PyData.canLay0 (D.py d) && PyData.canLayAll0 (D.pyL r)) = true
    rw [py_ok d h'.1, py_okL r h'.2]; rfl
end
mutual
theorem py_dep : ∀ d : D, (D.py d).depth = d.dep
  | .non => rfl
  | .bl _ => rfl
  | .int _ => rfl
  | .str _ => rfl
  | .tup l => by show PyData.depthAll (D.pyL l) + 1 = D.depL l + 1; rw [py_depL l]
  | .lst l => by show PyData.depthAll (D.pyL l) + 1 = D.depL l + 1; rw [py_depL l]
theorem py_depL : ∀ l : List D, PyData.depthAll (D.pyL l) = D.depL l
  | [] => rfl
  | d :: r => by show max (PyData.depth (D.py d)) (PyData.depthAll (D.pyL r)) = max (D.dep d) (D.depL r); rw [py_dep d, py_depL r]
end
mutual
theorem py_eq : ∀ d e : D, PyData.eqv (D.py d) (D.py e) = eqD d e
  | .tup l, .tup m => py_eqL l m
  | .lst l, .lst m => py_eqL l m
  | .non, e => by cases e <;> rfl
  | .bl _, e => by cases e <;> rfl
  | .int _, e => by cases e <;> rfl
  | .str _, e => by cases e <;> rfl
  | .tup _, .non => rfl
  | .tup _, .bl _ => rfl
  | .tup _, .int _ => rfl
  | .tup _, .str _ => rfl
  | .tup _, .lst _ => rfl
  | .lst _, .non => rfl
  | .lst _, .bl _ => rfl
  | .lst _, .int _ => rfl
  | .lst _, .str _ => rfl
  | .lst _, .tup _ => rfl
theorem py_eqL : ∀ l m : List D, PyData.eqvAll (D.pyL l) (D.pyL m) = eqDL l m
  | [], [] => rfl
  | [], _ :: _ => rfl
  | _ :: _, [] => rfl
  | d :: l, e :: m => by
    show (PyData.eqv (D.py d) (D.py e) && PyData.eqvAll (D.pyL l) (D.pyL m)) = (eqD d e && eqDL l m)
    rw [py_eq d e, py_eqL l m]
end
section
variable {X : Cx} {pins : List (Addr × Obj)} {σ : L2.St} {G H : Hp} {s : Shared}
mutual
theorem Den.reads (I : Inv X pins σ H s) (sub : Same G H) : ∀ {v : V} {d : D} {u : Value}, Den X.K G v d → RelV v u → ∃ as, Reads s.heap u (D.py d) as
  | _, _, _, .non, r => by cases r; exact ⟨_, .none⟩
  | _, _, _, .bl b, r => by cases r; exact ⟨_, .bool b⟩
  | _, _, _, .int i, r => by obtain ⟨t, rfl⟩ := r; exact ⟨_, .int i t⟩
  | _, _, _, .str x, r => by obtain ⟨t, rfl⟩ := r; exact ⟨_, .str x t⟩
  | _, _, _, .tup h l, r => by
    cases r
    obtain ⟨its, rv, ⟨o, ho, hc, n, hd⟩, _⟩ := I.tuple (Same.tupS sub h)
    obtain ⟨as, ra⟩ := DenL.reads I sub l rv
    exact ⟨as, .tuple ho hc hd (by simpa using ra)⟩
  | _, _, _, .lst h l, r => by
    cases r
    obtain ⟨its, rv, ⟨o, n, ho, hc, _, hd⟩, _⟩ := I.list (sub.seq h)
    obtain ⟨as, ra⟩ := DenL.reads I sub l rv
    exact ⟨_, .list ho hc hd (by simpa using ra)⟩
theorem DenL.reads (I : Inv X pins σ H s) (sub : Same G H) : ∀ {vs : List V} {ds : List D} {us : List Value}, DenL X.K G vs ds → Vals vs us → ∃ as, ReadsAll s.heap us (D.pyL ds) as
  | _, _, _, .nil, r => by cases r; exact ⟨_, .nil⟩
  | _, _, _, .cons h t, .cons r1 r2 => by
    obtain ⟨as, h1⟩ := Den.reads I sub h r1
    obtain ⟨bs, h2⟩ := DenL.reads I sub t r2
    exact ⟨_, .cons h1 h2⟩
end
end

/-! ## Comparisons -/
section
variable {X : Cx}
/-- two data that == may compare here -/
def okEq (d e : D) : Prop := d.ok = true ∧ e.ok = true ∧ min d.dep e.dep ≤ 60
def rDeep (K : PySem.W.Frag) (f : D → D → Bool) : R2 := fun x y H Q => ∃ G dx dy, Same G H ∧ Den K G x dx ∧ Den K G y dy ∧ okEq dx dy ∧ Q (.bl (f dx dy)) H
theorem op_eqDeep (hu : X.A.units + 64 < cLine) : OpR X (compareOp .Eq) (rDeep X.K eqD) := by
  rintro pins s σ H x y v u Q I rx ry ⟨G, dx, dy, sub, hx, hy, ⟨o1, o2, o3⟩, q⟩
  obtain ⟨as, ra⟩ := hx.reads I sub rx
  obtain ⟨bs, rb⟩ := hy.reads I sub ry
  refine PySem.SeqAt.compareEq_reads ra rb (py_ok _ o1) (py_ok _ o2) (by rw [py_dep, py_dep]; omega) ?_
  rw [py_eq]
  exact ⟨.bl _, H, I, rfl, q⟩
theorem op_neDeep (hu : X.A.units + 64 < cLine) : OpR X (compareOp .NotEq) (rDeep X.K fun d e => !eqD d e) := by
  rintro pins s σ H x y v u Q I rx ry ⟨G, dx, dy, sub, hx, hy, ⟨o1, o2, o3⟩, q⟩
  obtain ⟨as, ra⟩ := hx.reads I sub rx
  obtain ⟨bs, rb⟩ := hy.reads I sub ry
  refine PySem.SeqAt.compareNe_reads ra rb (py_ok _ o1) (py_ok _ o2) (by rw [py_dep, py_dep]; omega) ?_
  rw [py_eq]
  exact ⟨.bl _, H, I, rfl, q⟩
def rEqD : RD := fun x y Q => okEq x y ∧ Q (.bl (eqD x y))
def rNeD : RD := fun x y Q => okEq x y ∧ Q (.bl (!eqD x y))
theorem os_deep {K : PySem.W.Frag} {f : D → D → Bool} : OpS K (rDeep K f) (fun x y Q => okEq x y ∧ Q (.bl (f x y))) := fun G H x y dx dy Q Q2 s hx hy h k =>
  ⟨G, dx, dy, s, hx, hy, h.1, k _ G H _ (Ext.refl s) (.bl _) h.2⟩
variable {a b : Expr} {ta tb : TEd} {pos : Pos}
theorem de_eq (hu : X.A.units + 64 < cLine) (ha : DE X a ta) (hb : DE X b tb) (hm : behindInMarks .Eq b = false := by first | exact nomark _ | rfl) : DE X (.Compare a [.Eq] [b] pos) (dOp rEqD ta tb) := de_cmp (op_eqDeep hu) os_deep ha hb hm
theorem de_ne (hu : X.A.units + 64 < cLine) (ha : DE X a ta) (hb : DE X b tb) (hm : behindInMarks .NotEq b = false := by first | exact nomark _ | rfl) : DE X (.Compare a [.NotEq] [b] pos) (dOp rNeD ta tb) := de_cmp (op_neDeep hu) os_deep ha hb hm
theorem dt_eq (hu : X.A.units + 64 < cLine) (ha : DE X a ta) (hb : DE X b tb) (hm : behindInMarks .Eq b = false := by first | exact nomark _ | rfl) : DT X (.Compare a [.Eq] [b] pos) (dB (dOp rEqD ta tb)) := dt_cmp (op_eqDeep hu) os_deep ha hb hm
theorem dt_ne (hu : X.A.units + 64 < cLine) (ha : DE X a ta) (hb : DE X b tb) (hm : behindInMarks .NotEq b = false := by first | exact nomark _ | rfl) : DT X (.Compare a [.NotEq] [b] pos) (dB (dOp rNeD ta tb)) := dt_cmp (op_neDeep hu) os_deep ha hb hm
/-- ints by an operation -/
def rII (g : Int → Int → D) : RD := fun x y Q => match x, y with
  | .int i, .int j => Q (g i j)
  | _, _ => False
def rIC (C : Int → Int → Prop) (g : Int → Int → D) : RD := fun x y Q => match x, y with
  | .int i, .int j => C i j ∧ Q (g i j)
  | _, _ => False
theorem os_ii {K : PySem.W.Frag} {g : Int → Int → V} {gd : Int → Int → D} (hg : ∀ i j G, Den K G (g i j) (gd i j)) : OpS K (rI0 g) (rII gd) := fun G H x y dx dy Q Q2 s hx hy h k => by
  unfold rII at h
  split at h
  · cases hx.int_inv; cases hy.int_inv
    exact ⟨_, _, rfl, rfl, k _ G H _ (Ext.refl s) (hg _ _ _) h⟩
  · exact h.elim
theorem os_ic {K : PySem.W.Frag} {C : Int → Int → Prop} {g : Int → Int → V} {gd : Int → Int → D} (hg : ∀ i j G, Den K G (g i j) (gd i j)) : OpS K (rI C g) (rIC C gd) := fun G H x y dx dy Q Q2 s hx hy h k => by
  unfold rIC at h
  split at h
  · cases hx.int_inv; cases hy.int_inv
    exact ⟨_, _, rfl, rfl, h.1, k _ G H _ (Ext.refl s) (hg _ _ _) h.2⟩
  · exact h.elim
theorem de_sub (ha : DE X a ta) (hb : DE X b tb) : DE X (.BinOp a .Sub b pos) (dOp (rII fun i j => .int (i - j)) ta tb) := de_bin op_sub (os_ii fun _ _ _ => .int _) ha hb
theorem de_mod (ha : DE X a ta) (hb : DE X b tb) : DE X (.BinOp a .Mod b pos) (dOp (rIC (fun _ j => 0 < j) fun i j => .int (i % j)) ta tb) := de_bin op_mod (os_ic fun _ _ _ => .int _) ha hb
theorem de_fdiv (ha : DE X a ta) (hb : DE X b tb) : DE X (.BinOp a .FloorDiv b pos) (dOp (rIC CDiv fun i j => .int (i / j)) ta tb) := de_bin op_fdiv (os_ic fun _ _ _ => .int _) ha hb
theorem de_lt (ha : DE X a ta) (hb : DE X b tb) (hm : behindInMarks .Lt b = false := by first | exact nomark _ | rfl) : DE X (.Compare a [.Lt] [b] pos) (dOp (rII fun i j => .bl (decide (i < j))) ta tb) := de_cmp op_lt (os_ii fun _ _ _ => .bl _) ha hb hm
theorem de_le (ha : DE X a ta) (hb : DE X b tb) (hm : behindInMarks .LtE b = false := by first | exact nomark _ | rfl) : DE X (.Compare a [.LtE] [b] pos) (dOp (rII fun i j => .bl (decide (i ≤ j))) ta tb) := de_cmp op_le (os_ii fun _ _ _ => .bl _) ha hb hm
theorem de_gt (ha : DE X a ta) (hb : DE X b tb) (hm : behindInMarks .Gt b = false := by first | exact nomark _ | rfl) : DE X (.Compare a [.Gt] [b] pos) (dOp (rII fun i j => .bl (decide (j < i))) ta tb) := de_cmp op_gt (os_ii fun _ _ _ => .bl _) ha hb hm
theorem de_ge (ha : DE X a ta) (hb : DE X b tb) (hm : behindInMarks .GtE b = false := by first | exact nomark _ | rfl) : DE X (.Compare a [.GtE] [b] pos) (dOp (rII fun i j => .bl (decide (j ≤ i))) ta tb) := de_cmp op_ge (os_ii fun _ _ _ => .bl _) ha hb hm
theorem dt_lt (ha : DE X a ta) (hb : DE X b tb) (hm : behindInMarks .Lt b = false := by first | exact nomark _ | rfl) : DT X (.Compare a [.Lt] [b] pos) (dB (dOp (rII fun i j => .bl (decide (i < j))) ta tb)) := dt_cmp op_lt (os_ii fun _ _ _ => .bl _) ha hb hm
theorem dt_le (ha : DE X a ta) (hb : DE X b tb) (hm : behindInMarks .LtE b = false := by first | exact nomark _ | rfl) : DT X (.Compare a [.LtE] [b] pos) (dB (dOp (rII fun i j => .bl (decide (i ≤ j))) ta tb)) := dt_cmp op_le (os_ii fun _ _ _ => .bl _) ha hb hm
theorem dt_gt (ha : DE X a ta) (hb : DE X b tb) (hm : behindInMarks .Gt b = false := by first | exact nomark _ | rfl) : DT X (.Compare a [.Gt] [b] pos) (dB (dOp (rII fun i j => .bl (decide (j < i))) ta tb)) := dt_cmp op_gt (os_ii fun _ _ _ => .bl _) ha hb hm
theorem dt_ge (ha : DE X a ta) (hb : DE X b tb) (hm : behindInMarks .GtE b = false := by first | exact nomark _ | rfl) : DT X (.Compare a [.GtE] [b] pos) (dB (dOp (rII fun i j => .bl (decide (j ≤ i))) ta tb)) := dt_cmp op_ge (os_ii fun _ _ _ => .bl _) ha hb hm
/-- is None, is not None -/
def isNonD : D → Bool
  | .non => true
  | _ => false
def rIsN : RD := fun x y Q => match y with
  | .non => Q (.bl (isNonD x))
  | _ => False
def rNotN : RD := fun x y Q => match y with
  | .non => Q (.bl (!isNonD x))
  | _ => False
theorem isN_of {K : PySem.W.Frag} {G : Hp} {v : V} {d : D} (h : Den K G v d) : decide (v = .non) = isNonD d := by cases h <;> simp [isNonD]
theorem os_isN {K : PySem.W.Frag} : OpS K (fun x y H Q => y = .non ∧ Q (.bl (decide (x = .non))) H) rIsN := fun G H x y dx dy Q Q2 s hx hy h k => by
  unfold rIsN at h
  split at h
  · exact ⟨hy.non_inv, k _ G H _ (Ext.refl s) (by rw [isN_of hx]; exact .bl _) h⟩
  · exact h.elim
theorem os_notN {K : PySem.W.Frag} : OpS K (fun x y H Q => y = .non ∧ Q (.bl (!decide (x = .non))) H) rNotN := fun G H x y dx dy Q Q2 s hx hy h k => by
  unfold rNotN at h
  split at h
  · exact ⟨hy.non_inv, k _ G H _ (Ext.refl s) (by rw [isN_of hx]; exact .bl _) h⟩
  · exact h.elim
theorem de_is (ha : DE X a ta) (hb : DE X b tb) (hm : behindInMarks .Is b = false := by first | exact nomark _ | rfl) : DE X (.Compare a [.Is] [b] pos) (dOp rIsN ta tb) := de_cmp op_isN os_isN ha hb hm
theorem de_isnot (ha : DE X a ta) (hb : DE X b tb) (hm : behindInMarks .IsNot b = false := by first | exact nomark _ | rfl) : DE X (.Compare a [.IsNot] [b] pos) (dOp rNotN ta tb) := de_cmp op_notN os_notN ha hb hm
theorem dt_is (ha : DE X a ta) (hb : DE X b tb) (hm : behindInMarks .Is b = false := by first | exact nomark _ | rfl) : DT X (.Compare a [.Is] [b] pos) (dB (dOp rIsN ta tb)) := dt_cmp op_isN os_isN ha hb hm
theorem dt_isnot (ha : DE X a ta) (hb : DE X b tb) (hm : behindInMarks .IsNot b = false := by first | exact nomark _ | rfl) : DT X (.Compare a [.IsNot] [b] pos) (dB (dOp rNotN ta tb)) := dt_cmp op_notN os_notN ha hb hm
/-- + -/
def rAddD : RD := fun x y Q => match x, y with
  | .int i, .int j => Q (.int (i + j))
  | .tup l, .tup m => l.length + m.length ≤ sizeLine ∧ Q (.tup (l ++ m))
  | .lst l, .lst m => l.length + m.length ≤ sizeLine ∧ Q (.lst (l ++ m))
  | .str i, .str j => i.length + j.length ≤ sizeLine ∧ Q (.str (i ++ j))
  | _, _ => False
def rCatL (K : PySem.W.Frag) : R2 := fun x y H Q => ∃ l b xs zs, x = .ref l ∧ y = .ref b ∧ SqL K H l xs ∧ SqL K H b zs ∧ xs.length + zs.length ≤ sizeLine ∧ ∀ p, H p = none → Q (.ref p) (upd H p (.lst (xs ++ zs)))
def rCatT0 (K : PySem.W.Frag) : R2 := fun x y H Q => ∃ a b ys, x = .ref a ∧ y = .ref b ∧ SqT K H a [] ∧ SqT K H b ys ∧ Q (.ref b) H
theorem op_catL : OpR X (binaryOp .Add) (rCatL X.K) := by
  intro pins s σ H x y v u Q I rx ry h
  obtain ⟨l, b, xs, zs, rfl, rfl, hH, hB, hz, q⟩ := h
  cases rx
  cases ry
  obtain ⟨its, r, pl, z⟩ := I.list hH
  obtain ⟨its2, r2, pl2, z2⟩ := I.list hB
  obtain ⟨⟨cls, dd, data, sl⟩, ho, hc, n, hd⟩ := pl.isList
  obtain ⟨⟨cls2, dd2, data2, sl2⟩, ho2, hc2, n2, hd2⟩ := pl2.isList
  simp only at hc hd hc2 hd2
  subst hc hd hc2 hd2
  have e : its.toArray ++ its2.toArray = (its ++ its2).toArray := by simp
  refine concat_meets ⟨_, ho, rfl⟩ ⟨_, ho2, rfl⟩ noFill_list_add seq_list_add PySem.F.slot_list_add PySem.F.entry_list_add (PySem.F.args_list_add_2 _ _) (list_addW l b its.toArray its2.toArray n n2 dd dd2 sl sl2 (by rw [List.size_toArray, List.size_toArray, ← r.length, ← r2.length]; exact hz)) ⟨ho, ho2, ?_⟩
  rw [e]
  exact ⟨.ref _, _, I.lnew (t' := s.toks) (r.append r2) (by rw [List.length_append]; omega), rfl, q _ I.fresh⟩
theorem op_catT0 : OpR X (binaryOp .Add) (rCatT0 X.K) := by
  intro pins s σ H x y v u Q I rx ry h
  obtain ⟨a, b, ys, rfl, rfl, ha, hb, q⟩ := h
  cases rx
  cases ry
  obtain ⟨its, r1, p1, _⟩ := I.tuple ha
  obtain ⟨its2, r2, p2, _⟩ := I.tuple hb
  cases r1
  obtain ⟨⟨cls, dd, data, sl⟩, ho, hc, n, hd⟩ := id p1
  obtain ⟨⟨cls2, dd2, data2, sl2⟩, ho2, hc2, n2, hd2⟩ := id p2
  simp only at hc hd hc2 hd2
  subst hc hd hc2 hd2
  exact concat_meets ⟨_, ho, rfl⟩ ⟨_, ho2, rfl⟩ noFill_tuple_add seq_tuple_add PySem.F.slot_tuple_add PySem.F.entry_tuple_add (PySem.F.args_tuple_add_2 _ _)
      (tuple_addW0 a b #[] its2.toArray n n2 dd dd2 sl sl2 rfl) ⟨ho, ho2, ⟨.ref b, H, I, rfl, q⟩⟩
theorem op_addAll : OpR X (binaryOp .Add) (fun x y H Q => rI0 (fun i j => .int (i + j)) x y H Q ∨ rCatT0 X.K x y H Q ∨ rCatT X.K x y H Q ∨ rCatL X.K x y H Q ∨ ∃ i j, x = .str i ∧ y = .str j ∧ i.length + j.length ≤ sizeLine ∧ Q (.str (i ++ j)) H) :=
  OpR.or op_add (OpR.or op_catT0 (OpR.or op_catT (OpR.or op_catL op_add_str)))
theorem os_add {K : PySem.W.Frag} : OpS K (fun x y H Q => rI0 (fun i j => .int (i + j)) x y H Q ∨ rCatT0 K x y H Q ∨ rCatT K x y H Q ∨ rCatL K x y H Q ∨ ∃ i j, x = .str i ∧ y = .str j ∧ i.length + j.length ≤ sizeLine ∧ Q (.str (i ++ j)) H) rAddD := fun G H x y dx dy Q Q2 s hx hy h k => by
  unfold rAddD at h
  split at h
  · cases hx.int_inv; cases hy.int_inv
    exact .inl ⟨_, _, rfl, rfl, k _ G H _ (Ext.refl s) (.int _) h⟩
  · obtain ⟨a, vs, rfl, ha, la⟩ := hx.tup_inv
    obtain ⟨b, ws, rfl, hb, lb⟩ := hy.tup_inv
    cases la with
    | nil => exact .inr (.inl ⟨a, b, ws, rfl, rfl, Same.tupS s ha, Same.tupS s hb, k _ G H _ (Ext.refl s) hy h.2⟩)
    | @cons v d vs l d1 la =>
      refine .inr (.inr (.inl ⟨a, b, _, ws, rfl, rfl, Same.tupS s ha, Same.tupS s hb, by simp, by rw [(DenL.cons d1 la).length, lb.length]; exact h.1, fun e => ?_, fun _ p hp => ?_⟩))
      · subst e
        cases lb
        refine k _ G H _ (Ext.refl s) hx ?_
        have := h.2
        rwa [List.append_nil] at this
      · exact k _ _ _ _ (Ext.laid s hp _) (.tup (SqT.of upd_same) ((DenL.append (DenL.cons d1 la) lb).up (same_upd (s.free hp) _))) h.2
  · obtain ⟨a, vs, rfl, ha, la⟩ := hx.lst_inv
    obtain ⟨b, ws, rfl, hb, lb⟩ := hy.lst_inv
    exact .inr (.inr (.inr (.inl ⟨a, b, vs, ws, rfl, rfl, s.seq ha, s.seq hb, by rw [la.length, lb.length]; exact h.1, fun p hp =>
      k _ _ _ _ (Ext.laid s hp _) (.lst (SqL.of upd_same) ((la.append lb).up (same_upd (s.free hp) _))) h.2⟩)))
  · cases hx.str_inv; cases hy.str_inv
    exact .inr (.inr (.inr (.inr ⟨_, _, rfl, rfl, h.1, k _ G H _ (Ext.refl s) (.str _) h.2⟩)))
  · exact h.elim
theorem de_add (ha : DE X a ta) (hb : DE X b tb) : DE X (.BinOp a .Add b pos) (dOp rAddD ta tb) := de_bin op_addAll os_add ha hb
/-- * of ints -/
theorem de_mul (ha : DE X a ta) (hb : DE X b tb) : DE X (.BinOp a .Mult b pos) (dOp (rIC CMul fun i j => .int (i * j)) ta tb) := de_bin op_mul (os_ic fun _ _ _ => .int _) ha hb
/-- xs[i] -/
def rIxD : RD := fun x y Q => match x, y with
  | .tup l, .int i => match atI l i with
    | some d => Q d
    | none => False
  | .lst l, .int i => match atI l i with
    | some d => Q d
    | none => False
  | _, _ => False
theorem atI_den {K : PySem.W.Frag} {G : Hp} {vs : List V} {l : List D} {i : Int} {d : D} (h : DenL K G vs l) (e : atI l i = some d) : ∃ v, atI vs i = some v ∧ Den K G v d := by
  unfold atI at e ⊢
  rw [h.length]
  cases q : ixN l.length i with
  | none => (rw [q] at e; cases e)
  | some j =>
    rw [q] at e
    obtain ⟨v, h1, h2⟩ := h.get (i := j) e
    exact ⟨v, h1, h2⟩
theorem os_ix {K : PySem.W.Frag} : OpS K (rIx K) rIxD := fun G H x y dx dy Q Q2 s hx hy h k => by
  unfold rIxD at h
  split at h
  · obtain ⟨a, vs, rfl, ha, la⟩ := hx.tup_inv
    cases hy.int_inv
    split at h
    · rename_i d e
      obtain ⟨v, h1, h2⟩ := atI_den la e
      exact .inr (.inl ⟨a, vs, _, v, rfl, rfl, Same.tupS s ha, h1, k _ G H _ (Ext.refl s) h2 h⟩)
    · exact h.elim
  · obtain ⟨a, vs, rfl, ha, la⟩ := hx.lst_inv
    cases hy.int_inv
    split at h
    · rename_i d e
      obtain ⟨v, h1, h2⟩ := atI_den la e
      exact .inl ⟨a, vs, _, v, rfl, rfl, s.seq ha, h1, k _ G H _ (Ext.refl s) h2 h⟩
    · exact h.elim
  · exact h.elim
theorem de_ix (ha : DE X a ta) (hb : DE X b tb) (hp : PlainIx b := by exact fun _ _ => rfl) : DE X (.Subscript a b pos) (dOp rIxD ta tb) := de_ixG ix_seq os_ix ha hb hp
/-- slices -/
abbrev TOd := Ev → (Option Int → Ev → Prop) → Prop
def lO (K : PySem.W.Frag) (t : TOd) : TO := fun σ H Q2 => ∃ (n : En) (δ : Ev) (G : Hp) (Q : Option Int → Ev → Prop), Rel K n δ σ G H ∧ t δ Q ∧
  ∀ (o : Option Int) (G' H' : Hp) (δ' : Ev), Rel K n δ' σ G' H' → Same G G' → Q o δ' → Q2 o H'
abbrev DO (X : Cx) (e : Option Expr) (t : TOd) : Prop := PO X e (lO X.K t)
theorem po_imp {e : Option Expr} {t t' : TO} (h : PO X e t) (hi : ∀ σ H Q, t' σ H Q → t σ H Q) : PO X e t' := fun pins s σ H Q I q => h pins s σ H Q I (hi σ H Q q)
def dNoPart : TOd := fun δ Q => Q none δ
def dPart (t : TEd) : TOd := fun δ Q => t δ fun x δ1 => match x with
  | .int i => Q (some i) δ1
  | _ => False
theorem do_none : DO X none dNoPart := po_imp po_none fun σ H Q2 ⟨n, δ, G, Q, R, h, k⟩ => k none G H δ R (Same.refl _) h
theorem do_some (ha : DE X a ta) : DO X (some a) (dPart ta) := po_imp (po_some ha) fun σ H Q2 ⟨n, δ, G, Q, R, h, k⟩ => ⟨n, δ, G, _, R, h, fun v G1 H1 d δ1 R1 s1 d1 h1 => by
  cases d with
  | int i => exact ⟨i, d1.int_inv, k _ G1 H1 δ1 R1 s1 h1⟩
  | _ => exact h1.elim⟩
def cutD (xs : List D) (lo hi : Option Int) : List D := (xs.drop (HT.sIx xs.length 0 lo)).take (HT.sIx xs.length xs.length hi - HT.sIx xs.length 0 lo)
theorem cut_den {K : PySem.W.Frag} {G : Hp} {vs : List V} {l : List D} (h : DenL K G vs l) (lo hi : Option Int) : DenL K G (cutV vs lo hi) (cutD l lo hi) := by
  unfold cutV cutD
  rw [h.length]
  exact (h.drop _).take _
def rSlD : D → Option Int → Option Int → (D → Prop) → Prop := fun x lo hi Q => match x with
  | .lst l => Q (.lst (cutD l lo hi))
  | .tup l => ¬ (HT.sIx l.length 0 lo = 0 ∧ HT.sIx l.length l.length hi = l.length) ∧ Q (.tup (cutD l lo hi))
  | _ => False
theorem SlR.or {r r' : V → Option Int → Option Int → Hp → VK → Prop} (h : SlR X r) (h' : SlR X r') : SlR X (fun x l u H Q => r x l u H Q ∨ r' x l u H Q) :=
  fun pins s σ H x v vl vu lo hi sl Q I rx hs pl pu q => q.elim (h pins s σ H x v vl vu lo hi sl Q I rx hs pl pu) (h' pins s σ H x v vl vu lo hi sl Q I rx hs pl pu)
def dSl (te : TEd) (tl th : TOd) : TEd := fun δ Q => te δ fun x δ1 => tl δ1 fun l δ2 => th δ2 fun u δ3 => rSlD x l u fun d => Q d δ3
theorem de_slice {lo hi : Option Expr} {tl th : TOd} {p2 : Pos} (he : DE X a ta) (hl : DO X lo tl) (hu : DO X hi th) : DE X (.Subscript a (.Slice lo hi none p2) pos) (dSl ta tl th) :=
  pe_imp (pe_slice (SlR.or sl_list sl_tup) he hl hu) fun σ H Q2 ⟨n, δ, G, Q, R, h, k⟩ => ⟨n, δ, G, _, R, h, fun v G1 H1 d δ1 R1 s1 d1 h1 => ⟨n, δ1, G1, _, R1, h1, fun l G2 H2 δ2 R2 s2 h2 => ⟨n, δ2, G2, _, R2, h2, fun u G3 H3 δ3 R3 s3 h3 => by
    have d3 := d1.up (s2.trans s3)
    cases d with
    | lst m =>
      obtain ⟨a, vs, rfl, ha, la⟩ := d3.lst_inv
      exact .inl ⟨a, vs, rfl, R3.sub.seq ha, fun p hp => k _ _ _ _ δ3 (R3.laid hp _) (s1.trans (s2.trans (s3.trans (same_upd (R3.sub.free hp) _)))) (.lst (SqL.of upd_same) ((cut_den la l u).up (same_upd (R3.sub.free hp) _))) h3⟩
    | tup m =>
      obtain ⟨a, vs, rfl, ha, la⟩ := d3.tup_inv
      exact .inr ⟨a, vs, rfl, Same.tupS R3.sub ha, by rw [la.length]; exact h3.1, fun p hp => k _ _ _ _ δ3 (R3.laid hp _) (s1.trans (s2.trans (s3.trans (same_upd (R3.sub.free hp) _)))) (.tup (SqT.of upd_same) ((cut_den la l u).up (same_upd (R3.sub.free hp) _))) h3.2⟩
    | _ => exact h3.elim⟩⟩⟩
/-- in, not in -/
def inD (d : D) (l : List D) : Bool := l.any fun y => eqD y d
theorem any_py (d : D) : ∀ l : List D, ((D.pyL l).any fun y => PyData.eqv y (D.py d)) = inD d l
  | [] => rfl
  | e :: r => by
    show (PyData.eqv (D.py e) (D.py d) || (D.pyL r).any fun y => PyData.eqv y (D.py d)) = (eqD e d || r.any fun y => eqD y d)
    rw [py_eq, any_py d r]; rfl
def okIn (d : D) (l : List D) : Prop := d.ok = true ∧ D.okL l = true ∧ min (D.depL l) d.dep ≤ 60
def rInV (K : PySem.W.Frag) (neg : Bool) : R2 := fun x y H Q => ∃ G dx l, Same G H ∧ Den K G x dx ∧ (Den K G y (.lst l) ∨ Den K G y (.tup l)) ∧ okIn dx l ∧ Q (.bl (if neg then !inD dx l else inD dx l)) H
theorem op_inD (hu : X.A.units + 64 < cLine) : OpR X (compareOp .In) (rInV X.K false) := by
  rintro pins s σ H x y v u Q I rx ry ⟨G, dx, l, sub, hx, hy, ⟨o1, o2, o3⟩, q⟩
  obtain ⟨as, ra⟩ := hx.reads I sub rx
  have fin : EP X pins σ Q (.bool ((D.pyL l).any fun y => PyData.eqv y (D.py dx))) s := by rw [any_py]; exact ⟨.bl _, H, I, rfl, q⟩
  rcases hy with hy | hy
  · obtain ⟨bs, rb⟩ := hy.reads I sub ry
    exact PySem.SeqAt.in_list_reads rb ra (py_okL _ o2) (py_ok _ o1) (by rw [py_dep, py_depL]; omega) fin
  · obtain ⟨bs, rb⟩ := hy.reads I sub ry
    exact PySem.SeqAt.in_tuple_reads rb ra (py_okL _ o2) (py_ok _ o1) (by rw [py_dep, py_depL]; omega) fin
theorem op_notinD (hu : X.A.units + 64 < cLine) : OpR X (compareOp .NotIn) (rInV X.K true) := by
  rintro pins s σ H x y v u Q I rx ry ⟨G, dx, l, sub, hx, hy, ⟨o1, o2, o3⟩, q⟩
  obtain ⟨as, ra⟩ := hx.reads I sub rx
  have fin : EP X pins σ Q (.bool (!(D.pyL l).any fun y => PyData.eqv y (D.py dx))) s := by rw [any_py]; exact ⟨.bl _, H, I, rfl, q⟩
  rcases hy with hy | hy
  · obtain ⟨bs, rb⟩ := hy.reads I sub ry
    exact PySem.SeqAt.notIn_list_reads rb ra (py_okL _ o2) (py_ok _ o1) (by rw [py_dep, py_depL]; omega) fin
  · obtain ⟨bs, rb⟩ := hy.reads I sub ry
    exact PySem.SeqAt.notIn_tuple_reads rb ra (py_okL _ o2) (py_ok _ o1) (by rw [py_dep, py_depL]; omega) fin
def rInD (neg : Bool) : RD := fun x y Q => match y with
  | .lst l => okIn x l ∧ Q (.bl (if neg then !inD x l else inD x l))
  | .tup l => okIn x l ∧ Q (.bl (if neg then !inD x l else inD x l))
  | _ => False
theorem os_in {K : PySem.W.Frag} {neg : Bool} : OpS K (rInV K neg) (rInD neg) := fun G H x y dx dy Q Q2 s hx hy h k => by
  unfold rInD at h
  split at h
  · exact ⟨G, dx, _, s, hx, .inl hy, h.1, k _ G H _ (Ext.refl s) (.bl _) h.2⟩
  · exact ⟨G, dx, _, s, hx, .inr hy, h.1, k _ G H _ (Ext.refl s) (.bl _) h.2⟩
  · exact h.elim
theorem de_in (hu : X.A.units + 64 < cLine) (ha : DE X a ta) (hb : DE X b tb) (hm : behindInMarks .In b = false := by first | exact nomark _ | rfl) : DE X (.Compare a [.In] [b] pos) (dOp (rInD false) ta tb) := de_cmp (op_inD hu) os_in ha hb hm
theorem de_notin (hu : X.A.units + 64 < cLine) (ha : DE X a ta) (hb : DE X b tb) (hm : behindInMarks .NotIn b = false := by first | exact nomark _ | rfl) : DE X (.Compare a [.NotIn] [b] pos) (dOp (rInD true) ta tb) := de_cmp (op_notinD hu) os_in ha hb hm
theorem dt_in (hu : X.A.units + 64 < cLine) (ha : DE X a ta) (hb : DE X b tb) (hm : behindInMarks .In b = false := by first | exact nomark _ | rfl) : DT X (.Compare a [.In] [b] pos) (dB (dOp (rInD false) ta tb)) := dt_cmp (op_inD hu) os_in ha hb hm
theorem dt_notin (hu : X.A.units + 64 < cLine) (ha : DE X a ta) (hb : DE X b tb) (hm : behindInMarks .NotIn b = false := by first | exact nomark _ | rfl) : DT X (.Compare a [.NotIn] [b] pos) (dB (dOp (rInD true) ta tb)) := dt_cmp (op_notinD hu) os_in ha hb hm

/-! ## Built-in functions -/
variable {x : Str} {p : Pos} {e e2 : Expr} {es : List Expr} {t : TAd}
def cMax : RC := fun ds Q => match ds with
  | [.int i, .int j] => Q (.int (max i j))
  | _ => False
def cMin : RC := fun ds Q => match ds with
  | [.int i, .int j] => Q (.int (min i j))
  | _ => False
theorem denl2 {K : PySem.W.Frag} {G : Hp} {xs : List V} {i j : Int} (h : DenL K G xs [.int i, .int j]) : xs = [.int i, .int j] := by
  cases h with | cons h1 h2 => cases h2 with | cons h2 h3 => cases h3; cases h1; cases h2; rfl
theorem denl1 {K : PySem.W.Frag} {G : Hp} {xs : List V} {d : D} (h : DenL K G xs [d]) : ∃ v, xs = [v] ∧ Den K G v d := by
  cases h with | cons h1 h2 => cases h2; exact ⟨_, rfl, h1⟩
theorem cs_max {K : PySem.W.Frag} : CallS K (fun xs H Q => ∃ i j, xs = [.int i, .int j] ∧ Q (.int (if j > i then j else i)) H) cMax := fun G H xs ds Q Q2 s hd h k => by
  unfold cMax at h
  split at h
  · rename_i i j
    refine ⟨i, j, denl2 hd, k _ G H _ (Ext.refl s) ?_ h⟩
    have : (if j > i then j else i) = max i j := by split <;> omega
    rw [this]; exact .int _
  · exact h.elim
theorem cs_min {K : PySem.W.Frag} : CallS K (fun xs H Q => ∃ i j, xs = [.int i, .int j] ∧ Q (.int (if j < i then j else i)) H) cMin := fun G H xs ds Q Q2 s hd h k => by
  unfold cMin at h
  split at h
  · rename_i i j
    refine ⟨i, j, denl2 hd, k _ G H _ (Ext.refl s) ?_ h⟩
    have : (if j < i then j else i) = min i j := by split <;> omega
    rw [this]; exact .int _
  · exact h.elim
theorem de_max (hc : X.calm = true) (hm : X.mg "max" = none) (ha : DA X (e :: es) t) (hg : Gl X "max" := by rfl) (he : starEach (e :: es) X.env = (false, eval e X.env) :: starEach es X.env := by rfl) (hpl : (backTo pos (starEach es X.env)).any (·.1) = false := by rfl) : DE X (.Call (.Name "max" p) (e :: es) [] pos) (dCall cMax t) :=
  de_callB (call_max2 hc) cs_max hm (by rfl) ha hg (by decide) (by decide) he hpl
theorem de_min (hc : X.calm = true) (hm : X.mg "min" = none) (ha : DA X (e :: es) t) (hg : Gl X "min" := by rfl) (he : starEach (e :: es) X.env = (false, eval e X.env) :: starEach es X.env := by rfl) (hpl : (backTo pos (starEach es X.env)).any (·.1) = false := by rfl) : DE X (.Call (.Name "min" p) (e :: es) [] pos) (dCall cMin t) :=
  de_callB (call_min2 hc) cs_min hm (by rfl) ha hg (by decide) (by decide) he hpl
def cLen : RC := fun ds Q => match ds with
  | [.lst l] => Q (.int l.length)
  | [.tup l] => Q (.int l.length)
  | _ => False
theorem cs_len {K : PySem.W.Frag} : CallS K (fun xs H Q => ∃ p ys, xs = [.ref p] ∧ (SqL K H p ys ∨ SqT K H p ys) ∧ Q (.int ys.length) H) cLen := fun G H xs ds Q Q2 s hd h k => by
  unfold cLen at h
  split at h
  · obtain ⟨v, rfl, d1⟩ := denl1 hd
    obtain ⟨a, vs, rfl, ha, la⟩ := d1.lst_inv
    exact ⟨a, vs, rfl, .inl (s.seq ha), k _ G H _ (Ext.refl s) (by rw [la.length]; exact .int _) h⟩
  · obtain ⟨v, rfl, d1⟩ := denl1 hd
    obtain ⟨a, vs, rfl, ha, la⟩ := d1.tup_inv
    exact ⟨a, vs, rfl, .inr (Same.tupS s ha), k _ G H _ (Ext.refl s) (by rw [la.length]; exact .int _) h⟩
  · exact h.elim
theorem de_len (hm : X.mg "len" = none) (ha : DA X (e :: es) t) (hg : Gl X "len" := by rfl) (he : starEach (e :: es) X.env = (false, eval e X.env) :: starEach es X.env := by rfl) (hpl : (backTo pos (starEach es X.env)).any (·.1) = false := by rfl) : DE X (.Call (.Name "len" p) (e :: es) [] pos) (dCall cLen t) :=
  de_callB call_len_seq cs_len hm PySem.boot_len ha hg (by decide) (by decide) he hpl
def cInt : RC := fun ds Q => match ds with
  | [.int i] => Q (.int i)
  | [.bl b] => Q (.int (if b then 1 else 0))
  | _ => False
theorem cs_int {K : PySem.W.Frag} : CallS K (fun xs H Q => (∃ i, xs = [.int i] ∧ Q (.int i) H) ∨ ∃ k, xs = [.bl k] ∧ Q (.int (if k then 1 else 0)) H) cInt := fun G H xs ds Q Q2 s hd h k => by
  unfold cInt at h
  split at h
  · obtain ⟨v, rfl, d1⟩ := denl1 hd
    cases d1.int_inv
    exact .inl ⟨_, rfl, k _ G H _ (Ext.refl s) (.int _) h⟩
  · obtain ⟨v, rfl, d1⟩ := denl1 hd
    cases d1.bl_inv
    exact .inr ⟨_, rfl, k _ G H _ (Ext.refl s) (.int _) h⟩
  · exact h.elim
theorem de_intc (hm : X.mg "int" = none) (ha : DA X (e :: es) t) (hg : Gl X "int" := by rfl) (he : starEach (e :: es) X.env = (false, eval e X.env) :: starEach es X.env := by rfl) (hpl : (backTo pos (starEach es X.env)).any (·.1) = false := by rfl) : DE X (.Call (.Name "int" p) (e :: es) [] pos) (dCall cInt t) :=
  de_callTy call_int1 cs_int hm (by rfl) ha hg (by decide) (by decide) he hpl
/-- list(xs), tuple(xs) -/
def cList : RC := fun ds Q => match ds with
  | [.lst l] => Q (.lst l)
  | [.tup l] => Q (.lst l)
  | _ => False
theorem cs_list {K : PySem.W.Frag} : CallS K (fun xs H Q => ∃ p ys, xs = [.ref p] ∧ (SqL K H p ys ∨ SqT K H p ys) ∧ ∀ l, H l = none → Q (.ref l) (upd H l (.lst ys))) cList := fun G H xs ds Q Q2 s hd h k => by
  unfold cList at h
  split at h
  · obtain ⟨v, rfl, d1⟩ := denl1 hd
    obtain ⟨a, vs, rfl, ha, la⟩ := d1.lst_inv
    exact ⟨a, vs, rfl, .inl (s.seq ha), fun q hq => k _ _ _ _ (Ext.laid s hq _) (.lst (SqL.of upd_same) (la.up (same_upd (s.free hq) _))) h⟩
  · obtain ⟨v, rfl, d1⟩ := denl1 hd
    obtain ⟨a, vs, rfl, ha, la⟩ := d1.tup_inv
    exact ⟨a, vs, rfl, .inr (Same.tupS s ha), fun q hq => k _ _ _ _ (Ext.laid s hq _) (.lst (SqL.of upd_same) (la.up (same_upd (s.free hq) _))) h⟩
  · exact h.elim
theorem de_list (hm : X.mg "list" = none) (ha : DA X (e :: es) t) (hg : Gl X "list" := by rfl) (he : starEach (e :: es) X.env = (false, eval e X.env) :: starEach es X.env := by rfl) (hpl : (backTo pos (starEach es X.env)).any (·.1) = false := by rfl) : DE X (.Call (.Name "list" p) (e :: es) [] pos) (dCall cList t) :=
  de_callTy call_list_of cs_list hm (by rfl) ha hg (by decide) (by decide) he hpl
def cTuple : RC := fun ds Q => match ds with
  | [.lst l] => Q (.tup l)
  | [.tup l] => Q (.tup l)
  | _ => False
theorem cs_tuple {K : PySem.W.Frag} : CallS K (fun xs H Q => ∃ p ys, xs = [.ref p] ∧ ((SqL K H p ys ∧ ∀ l, H l = none → Q (.ref l) (upd H l (.tup ys))) ∨ (SqT K H p ys ∧ Q (.ref p) H))) cTuple := fun G H xs ds Q Q2 s hd h k => by
  unfold cTuple at h
  split at h
  · obtain ⟨v, rfl, d1⟩ := denl1 hd
    obtain ⟨a, vs, rfl, ha, la⟩ := d1.lst_inv
    exact ⟨a, vs, rfl, .inl ⟨s.seq ha, fun q hq => k _ _ _ _ (Ext.laid s hq _) (.tup (SqT.of upd_same) (la.up (same_upd (s.free hq) _))) h⟩⟩
  · obtain ⟨v, rfl, d1⟩ := denl1 hd
    obtain ⟨a, vs, rfl, ha, la⟩ := d1.tup_inv
    exact ⟨a, vs, rfl, .inr ⟨Same.tupS s ha, k _ G H _ (Ext.refl s) d1 h⟩⟩
  · exact h.elim
theorem de_tuple (hm : X.mg "tuple" = none) (ha : DA X (e :: es) t) (hg : Gl X "tuple" := by rfl) (he : starEach (e :: es) X.env = (false, eval e X.env) :: starEach es X.env := by rfl) (hpl : (backTo pos (starEach es X.env)).any (·.1) = false := by rfl) : DE X (.Call (.Name "tuple" p) (e :: es) [] pos) (dCall cTuple t) :=
  de_callTy call_tuple_of cs_tuple hm (by rfl) ha hg (by decide) (by decide) he hpl
end
end Dl

namespace Dl
open PySem PySem.Spec PyProof.Rows L2
/-! ### a list or a tuple is walked; a negative -/
section
variable {X : Cx} {te : TEd} {a : Expr} {ta : TEd} {pos : Pos}
def iSeq (K : PySem.W.Frag) (tl : TE) : TI := fun σ H R => tl σ H fun x H1 => ∃ a, x = .ref a ∧ (((∃ xs, SqL K H1 a xs) ∧ R (Itl K a) H1) ∨ ((∃ xs, SqT K H1 a xs) ∧ R (Itt K a) H1))
theorem pi_seq {tg l : Expr} {tl : TE} (hl : PE X l tl) : PI X tg l (iSeq X.K tl) := by
  intro pins s σ H R I h
  refine thn (hl pins s σ H _ I h) fun v s1 ⟨x, H1, I1, r1, q1⟩ => ?_
  obtain ⟨a, e, q⟩ := q1
  subst e
  cases r1
  have fp : ∀ b ∈ [s1.heap.objs.size], FpOk X pins H1 b := fun b hb => by
    have e : b = s1.heap.objs.size := by simpa using hb
    subst e
    exact I1.fpOk (Nat.le_refl _) (I1.hok.fresh (Nat.le_refl _))
  rcases q with ⟨⟨xs, hq⟩, q⟩ | ⟨⟨xs, hq⟩, q⟩
  · obtain ⟨its, rv, p, hz⟩ := I1.list hq
    refine wpAny_pyIter_list p.isList ?_
    exact ⟨s1.heap.objs.size, [s1.heap.objs.size], _, _, H1, rfl, I1.kept (t' := s1.toks) fun b o e => Heap.get?_push_of_some _ e, turn_list a _, ⟨_, Heap.get?_push_size _ rfl, rfl, rfl⟩, fp, q⟩
  · obtain ⟨its, rv, p, hz⟩ := I1.tuple hq
    refine wpAny_pyIter_tuple (show s1.heap.IsTuple a its.toArray from p) ?_
    exact ⟨s1.heap.objs.size, [s1.heap.objs.size], _, _, H1, rfl, I1.kept (t' := s1.toks) fun b o e => Heap.get?_push_of_some _ e, turn_tuple a _, ⟨_, Heap.get?_push_size _ rfl, rfl, rfl⟩, fp, q⟩
def diSeq (te : TEd) : TId := fun δ Q => te δ fun d δ1 => match d with
  | .lst l => Q l δ1
  | .tup l => Q l δ1
  | _ => False
theorem di_seq {tg l : Expr} (hl : DE X l te) : DI X tg l (diSeq te) :=
  pi_imp (pi_seq hl) fun σ H R2 ⟨n, δ, G, Q, R, h, k⟩ => ⟨n, δ, G, _, R, h, fun v G1 H1 d δ1 R1 s1 d1 h1 => by
    cases d with
    | lst l =>
      obtain ⟨a, vs, rfl, hq, hl⟩ := d1.lst_inv
      exact ⟨a, rfl, .inl ⟨⟨vs, R1.sub.seq hq⟩, k _ G1 H1 l δ1 R1 s1 (jok_list hq hl) h1⟩⟩
    | tup l =>
      obtain ⟨a, vs, rfl, hq, hl⟩ := d1.tup_inv
      exact ⟨a, rfl, .inr ⟨⟨vs, Same.tupS R1.sub hq⟩, k _ G1 H1 l δ1 R1 s1 (jok_tup hq hl) h1⟩⟩
    | _ => exact h1.elim⟩
def dUn (r : D → (D → Prop) → Prop) (ta : TEd) : TEd := fun δ Q => ta δ fun x δ1 => r x fun d => Q d δ1
def rNegD : D → (D → Prop) → Prop := fun x Q => match x with
  | .int i => Q (.int (-i))
  | _ => False
theorem de_neg (ha : DE X a ta) : DE X (.UnaryOp .USub a pos) (dUn rNegD ta) :=
  pe_imp (pe_un un_neg ha) fun σ H Q2 ⟨n, δ, G, Q, R, h, k⟩ => ⟨n, δ, G, _, R, h, fun v G1 H1 d δ1 R1 s1 d1 h1 => by
    cases d with
    | int i => exact ⟨i, d1.int_inv, k _ G1 H1 _ δ1 R1 s1 (.int _) h1⟩
    | _ => exact h1.elim⟩
end
/-! ### small sizes -/
theorem sz0 : (0 ≤ sizeLine) = True := eq_true (by decide)
theorem sz1 : (1 ≤ sizeLine) = True := eq_true (by decide)
theorem sz2 : (2 ≤ sizeLine) = True := eq_true (by decide)
theorem sz3 : (3 ≤ sizeLine) = True := eq_true (by decide)
theorem sz4 : (4 ≤ sizeLine) = True := eq_true (by decide)
theorem sz5 : (5 ≤ sizeLine) = True := eq_true (by decide)
theorem sz6 : (6 ≤ sizeLine) = True := eq_true (by decide)
theorem sz7 : (7 ≤ sizeLine) = True := eq_true (by decide)
theorem sz8 : (8 ≤ sizeLine) = True := eq_true (by decide)
theorem sz9 : (9 ≤ sizeLine) = True := eq_true (by decide)
theorem sz10 : (10 ≤ sizeLine) = True := eq_true (by decide)
theorem sz11 : (11 ≤ sizeLine) = True := eq_true (by decide)
theorem sz12 : (12 ≤ sizeLine) = True := eq_true (by decide)
theorem sz13 : (13 ≤ sizeLine) = True := eq_true (by decide)
theorem sz14 : (14 ≤ sizeLine) = True := eq_true (by decide)
theorem sz15 : (15 ≤ sizeLine) = True := eq_true (by decide)
theorem sz16 : (16 ≤ sizeLine) = True := eq_true (by decide)
theorem sz17 : (17 ≤ sizeLine) = True := eq_true (by decide)
theorem sz18 : (18 ≤ sizeLine) = True := eq_true (by decide)
theorem sz19 : (19 ≤ sizeLine) = True := eq_true (by decide)
theorem sz20 : (20 ≤ sizeLine) = True := eq_true (by decide)
theorem sz21 : (21 ≤ sizeLine) = True := eq_true (by decide)
theorem sz22 : (22 ≤ sizeLine) = True := eq_true (by decide)
theorem sz23 : (23 ≤ sizeLine) = True := eq_true (by decide)
theorem sz24 : (24 ≤ sizeLine) = True := eq_true (by decide)
theorem sz25 : (25 ≤ sizeLine) = True := eq_true (by decide)
theorem sz26 : (26 ≤ sizeLine) = True := eq_true (by decide)
theorem sz27 : (27 ≤ sizeLine) = True := eq_true (by decide)
theorem sz28 : (28 ≤ sizeLine) = True := eq_true (by decide)
theorem sz29 : (29 ≤ sizeLine) = True := eq_true (by decide)
theorem sz30 : (30 ≤ sizeLine) = True := eq_true (by decide)
/-! ### == of small things -/
theorem okEq_of {d e : D} (h1 : d.ok = true) (h2 : e.ok = true) (h3 : min d.dep e.dep ≤ 60) : okEq d e = True := eq_true ⟨h1, h2, h3⟩
theorem okEq_non_non : okEq (D.non) (D.non) = True := okEq_of rfl rfl (Nat.le_of_lt_succ (by decide : 0 < 61))
theorem okEq_non_bl {b : Bool} : okEq (D.non) (D.bl b) = True := okEq_of rfl rfl (Nat.le_of_lt_succ (by decide : 0 < 61))
theorem okEq_non_int {j : Int} : okEq (D.non) (D.int j) = True := okEq_of rfl rfl (Nat.le_of_lt_succ (by decide : 0 < 61))
theorem okEq_bl_non {a : Bool} : okEq (D.bl a) (D.non) = True := okEq_of rfl rfl (Nat.le_of_lt_succ (by decide : 0 < 61))
theorem okEq_bl_bl {a : Bool} {b : Bool} : okEq (D.bl a) (D.bl b) = True := okEq_of rfl rfl (Nat.le_of_lt_succ (by decide : 0 < 61))
theorem okEq_bl_int {a : Bool} {j : Int} : okEq (D.bl a) (D.int j) = True := okEq_of rfl rfl (Nat.le_of_lt_succ (by decide : 0 < 61))
theorem okEq_int_non {i : Int} : okEq (D.int i) (D.non) = True := okEq_of rfl rfl (Nat.le_of_lt_succ (by decide : 0 < 61))
theorem okEq_int_bl {i : Int} {b : Bool} : okEq (D.int i) (D.bl b) = True := okEq_of rfl rfl (Nat.le_of_lt_succ (by decide : 0 < 61))
theorem okEq_int_int {i : Int} {j : Int} : okEq (D.int i) (D.int j) = True := okEq_of rfl rfl (Nat.le_of_lt_succ (by decide : 0 < 61))
theorem dFor_by (W : Nat → Ev → Prop) {ti : TId} {g : TGd} {tb : TSd} {E : EndsD} {δ : Ev} (items : List D) (δ1 : Ev) (h0 : ∀ Q : List D → Ev → Prop, Q items δ1 → ti δ Q) (w0 : W 0 δ1)
    (step : ∀ (i : Nat) (d : D) (δ2 : Ev), items[i]? = some d → W i δ2 → g d δ2 fun δ3 => tb { E with nx := W (i + 1), ct := W (i + 1), bk := E.nx } δ3) (fin : ∀ δ2, W items.length δ2 → E.nx δ2) : dFor ti g tb E δ := h0 _ ⟨W, w0, step, fin⟩
/-! ### simp stops at loops -/
/-- behind a statement M holds -/
def dSeqM (t u : TSd) : TSd := fun E δ => ∃ M : Ev → Prop, t { E with nx := M } δ ∧ ∀ δ', M δ' → u E δ'
theorem dss_consM {X : Cx} {st : Stmt} {rest : List Stmt} {t u : TSd} (h1 : DS X st t) (h2 : DSs X rest u) : DSs X (st :: rest) (dSeqM t u) :=
  pss_imp (pss_cons h1 h2) fun F σ H ⟨n, δ, G, E, R, ⟨M, h, hm⟩, k⟩ => ⟨n, δ, G, _, R, h, ⟨fun δ' σ' G' H' R' h' => ⟨n, δ', G', E, R', hm δ' h', k⟩, k.rt, k.bk, k.ct⟩⟩
end Dl

namespace Dl
open PySem PySem.Spec PyProof.Rows L2
/-! ## The same rules, the value as a function: what is wanted behind stands once -/
def rF (f : D → D → Option D) : RD := fun x y Q => ∃ d, f x y = some d ∧ Q d
def seqF : D → Option (List D)
  | .lst l => some l
  | .tup l => some l
  | _ => none
def addF : D → D → Option D
  | .int i, .int j => some (.int (i + j))
  | .tup l, .tup m => if l.length + m.length ≤ sizeLine then some (.tup (l ++ m)) else none
  | .lst l, .lst m => if l.length + m.length ≤ sizeLine then some (.lst (l ++ m)) else none
  | .str i, .str j => if i.length + j.length ≤ sizeLine then some (.str (i ++ j)) else none
  | _, _ => none
def ixF : D → D → Option D
  | .lst l, .int i => atI l i
  | .tup l, .int i => atI l i
  | _, _ => none
def rInF (neg : Bool) : RD := fun x y Q => ∃ l, seqF y = some l ∧ okIn x l ∧ Q (.bl (if neg then !inD x l else inD x l))
def cLenF : RC := fun ds Q => match ds with
  | [d] => ∃ l, seqF d = some l ∧ Q (.int l.length)
  | _ => False
def intF : D → Option Int
  | .int i => some i
  | .bl b => some (if b then 1 else 0)
  | _ => none
def cIntF : RC := fun ds Q => match ds with
  | [d] => ∃ i, intF d = some i ∧ Q (.int i)
  | _ => False
def cListF : RC := fun ds Q => match ds with
  | [d] => ∃ l, seqF d = some l ∧ Q (.lst l)
  | _ => False
def cTupleF : RC := fun ds Q => match ds with
  | [d] => ∃ l, seqF d = some l ∧ Q (.tup l)
  | _ => False
def diSeqF (te : TEd) : TId := fun δ Q => te δ fun d δ1 => ∃ l, seqF d = some l ∧ Q l δ1
def truF : D → Option Bool
  | .non => some false
  | .bl b => some b
  | .int i => some (i != 0)
  | .str y => if y.length ≤ sizeLine then some ((y.length : Int) != 0) else none
  | .tup l => some (!l.isEmpty)
  | .lst l => some (!l.isEmpty)
def dTruF (t : TEd) : TTd := fun δ Q => t δ fun x δ1 => ∃ b, truF x = some b ∧ Q b δ1
def slF : D → Option Int → Option Int → Option D
  | .lst l, lo, hi => some (.lst (cutD l lo hi))
  | .tup l, lo, hi => some (.tup (cutD l lo hi))
  | _, _, _ => none
/-- t[lo:hi] of a tuple must not be the whole of it -/
def slOk : D → Option Int → Option Int → Prop
  | .tup l, lo, hi => ¬ (HT.sIx l.length 0 lo = 0 ∧ HT.sIx l.length l.length hi = l.length)
  | _, _, _ => True
def dSlF (te : TEd) (tl th : TOd) : TEd := fun δ Q => te δ fun x δ1 => tl δ1 fun l δ2 => th δ2 fun u δ3 => slOk x l u ∧ ∃ d, slF x l u = some d ∧ Q d δ3
section
variable {X : Cx} {a b : Expr} {ta tb te : TEd} {pos : Pos}
theorem os_imp {K : PySem.W.Frag} {r2 : R2} {r r' : RD} (h : OpS K r2 r) (hi : ∀ x y Q, r' x y Q → r x y Q) : OpS K r2 r' := fun G H x y dx dy Q Q2 s hx hy q k => h G H x y dx dy Q Q2 s hx hy (hi dx dy Q q) k
theorem cs_imp {K : PySem.W.Frag} {r2 : List V → Hp → VK → Prop} {r r' : RC} (h : CallS K r2 r) (hi : ∀ ds Q, r' ds Q → r ds Q) : CallS K r2 r' := fun G H xs ds Q Q2 s hd q k => h G H xs ds Q Q2 s hd (hi ds Q q) k
theorem seqF_some {d : D} {l : List D} (h : seqF d = some l) : d = .lst l ∨ d = .tup l := by
  cases d <;> simp only [seqF, Option.some.injEq, reduceCtorEq] at h
  · subst h; exact .inr rfl
  · subst h; exact .inl rfl
theorem add_imp : ∀ x y Q, rF addF x y Q → rAddD x y Q := by
  rintro x y Q ⟨d, e, q⟩
  unfold addF at e
  split at e
  · cases e; exact q
  · split at e
    · cases e; exact ⟨by assumption, q⟩
    · cases e
  · split at e
    · cases e; exact ⟨by assumption, q⟩
    · cases e
  · split at e
    · cases e; exact ⟨by assumption, q⟩
    · cases e
  · cases e
theorem ix_imp : ∀ x y Q, rF ixF x y Q → rIxD x y Q := by
  rintro x y Q ⟨d, e, q⟩
  unfold ixF at e
  split at e
  · simp only [rIxD, e]; exact q
  · simp only [rIxD, e]; exact q
  · cases e
theorem in_imp {neg : Bool} : ∀ x y Q, rInF neg x y Q → rInD neg x y Q := by
  rintro x y Q ⟨l, e, q⟩
  rcases seqF_some e with rfl | rfl <;> exact q
theorem len_imp : ∀ ds Q, cLenF ds Q → cLen ds Q := by
  intro ds Q h
  unfold cLenF at h
  split at h
  · obtain ⟨l, e, q⟩ := h
    rcases seqF_some e with rfl | rfl <;> exact q
  · exact h.elim
theorem int_imp : ∀ ds Q, cIntF ds Q → cInt ds Q := by
  intro ds Q h
  unfold cIntF at h
  split at h
  · obtain ⟨l, e, q⟩ := h
    rename_i d
    cases d <;> simp only [intF, Option.some.injEq, reduceCtorEq] at e <;> (subst e; exact q)
  · exact h.elim
theorem list_imp : ∀ ds Q, cListF ds Q → cList ds Q := by
  intro ds Q h
  unfold cListF at h
  split at h
  · obtain ⟨l, e, q⟩ := h
    rcases seqF_some e with rfl | rfl <;> exact q
  · exact h.elim
theorem tuple_imp : ∀ ds Q, cTupleF ds Q → cTuple ds Q := by
  intro ds Q h
  unfold cTupleF at h
  split at h
  · obtain ⟨l, e, q⟩ := h
    rcases seqF_some e with rfl | rfl <;> exact q
  · exact h.elim
theorem tru_imp {d : D} {Q : Bool → Prop} (h : ∃ b, truF d = some b ∧ Q b) : truD d Q := by
  obtain ⟨b, e, q⟩ := h
  unfold truF at e
  split at e
  · cases e; exact q
  · cases e; exact q
  · cases e; exact q
  · split at e
    · cases e; exact ⟨by assumption, q⟩
    · cases e
  · cases e; exact q
  · cases e; exact q
theorem de_impl {e : Expr} {t t' : TEd} (h : DE X e t) (hi : ∀ δ Q, t' δ Q → t δ Q) : DE X e t' := pe_imp h fun σ H Q2 ⟨n, δ, G, Q, R, h, k⟩ => ⟨n, δ, G, Q, R, hi _ _ h, k⟩
theorem dt_impl {e : Expr} {t t' : TTd} (h : DT X e t) (hi : ∀ δ Q, t' δ Q → t δ Q) : DT X e t' := pt_imp h fun σ H Q2 ⟨n, δ, G, Q, R, h, k⟩ => ⟨n, δ, G, Q, R, hi _ _ h, k⟩
theorem de_addF (ha : DE X a ta) (hb : DE X b tb) : DE X (.BinOp a .Add b pos) (dOp (rF addF) ta tb) := de_bin op_addAll (os_imp os_add add_imp) ha hb
theorem de_ixF (ha : DE X a ta) (hb : DE X b tb) (hp : PlainIx b := by exact fun _ _ => rfl) : DE X (.Subscript a b pos) (dOp (rF ixF) ta tb) := de_ixG ix_seq (os_imp os_ix ix_imp) ha hb hp
theorem de_inF (hu : X.A.units + 64 < cLine) (ha : DE X a ta) (hb : DE X b tb) (hm : behindInMarks .In b = false := by first | exact nomark _ | rfl) : DE X (.Compare a [.In] [b] pos) (dOp (rInF false) ta tb) := de_cmp (op_inD hu) (os_imp os_in in_imp) ha hb hm
theorem de_notinF (hu : X.A.units + 64 < cLine) (ha : DE X a ta) (hb : DE X b tb) (hm : behindInMarks .NotIn b = false := by first | exact nomark _ | rfl) : DE X (.Compare a [.NotIn] [b] pos) (dOp (rInF true) ta tb) := de_cmp (op_notinD hu) (os_imp os_in in_imp) ha hb hm
theorem dt_inF (hu : X.A.units + 64 < cLine) (ha : DE X a ta) (hb : DE X b tb) (hm : behindInMarks .In b = false := by first | exact nomark _ | rfl) : DT X (.Compare a [.In] [b] pos) (dB (dOp (rInF false) ta tb)) := dt_cmp (op_inD hu) (os_imp os_in in_imp) ha hb hm
theorem dt_notinF (hu : X.A.units + 64 < cLine) (ha : DE X a ta) (hb : DE X b tb) (hm : behindInMarks .NotIn b = false := by first | exact nomark _ | rfl) : DT X (.Compare a [.NotIn] [b] pos) (dB (dOp (rInF true) ta tb)) := dt_cmp (op_notinD hu) (os_imp os_in in_imp) ha hb hm
theorem dt_truF (ha : DE X a ta) (he : ∀ whole, isTrue a X.env whole = (do let v ← whole; standAt a.pos; holding [v] (truthy v)) := by intro _; rfl) : DT X a (dTruF ta) :=
  pt_imp (pt_truth ha he) fun σ H Q2 ⟨n, δ, G, Q, R, h, k⟩ => ⟨n, δ, G, _, R, h, fun v G1 H1 d δ1 R1 s1 d1 h1 => by
    obtain ⟨b, hb, hq⟩ := truV_of R1.sub d1 (tru_imp h1)
    exact ⟨b, hb, k b G1 H1 δ1 R1 s1 hq⟩⟩
theorem di_seqF {tg l : Expr} (hl : DE X l te) : DI X tg l (diSeqF te) :=
  pi_imp (pi_seq hl) fun σ H R2 ⟨n, δ, G, Q, R, h, k⟩ => ⟨n, δ, G, _, R, h, fun v G1 H1 d δ1 R1 s1 d1 ⟨l, e, h1⟩ => by
    rcases seqF_some e with rfl | rfl
    · obtain ⟨a, vs, rfl, hq, hl⟩ := d1.lst_inv
      exact ⟨a, rfl, .inl ⟨⟨vs, R1.sub.seq hq⟩, k _ G1 H1 l δ1 R1 s1 (jok_list hq hl) h1⟩⟩
    · obtain ⟨a, vs, rfl, hq, hl⟩ := d1.tup_inv
      exact ⟨a, rfl, .inr ⟨⟨vs, Same.tupS R1.sub hq⟩, k _ G1 H1 l δ1 R1 s1 (jok_tup hq hl) h1⟩⟩⟩
theorem de_sliceF {lo hi : Option Expr} {tl th : TOd} {p2 : Pos} (he : DE X a ta) (hl : DO X lo tl) (hu : DO X hi th) : DE X (.Subscript a (.Slice lo hi none p2) pos) (dSlF ta tl th) :=
  pe_imp (pe_slice (SlR.or sl_list sl_tup) he hl hu) fun σ H Q2 ⟨n, δ, G, Q, R, h, k⟩ => ⟨n, δ, G, _, R, h, fun v G1 H1 d δ1 R1 s1 d1 h1 => ⟨n, δ1, G1, _, R1, h1, fun l G2 H2 δ2 R2 s2 h2 => ⟨n, δ2, G2, _, R2, h2, fun u G3 H3 δ3 R3 s3 ⟨hw, w, e, h3⟩ => by
    have d3 := d1.up (s2.trans s3)
    cases d with
    | lst m =>
      cases e
      obtain ⟨a, vs, rfl, ha, la⟩ := d3.lst_inv
      exact .inl ⟨a, vs, rfl, R3.sub.seq ha, fun p hp => k _ _ _ _ δ3 (R3.laid hp _) (s1.trans (s2.trans (s3.trans (same_upd (R3.sub.free hp) _)))) (.lst (SqL.of upd_same) ((cut_den la l u).up (same_upd (R3.sub.free hp) _))) h3⟩
    | tup m =>
      cases e
      obtain ⟨a, vs, rfl, ha, la⟩ := d3.tup_inv
      exact .inr ⟨a, vs, rfl, Same.tupS R3.sub ha, by rw [la.length]; exact hw, fun p hp => k _ _ _ _ δ3 (R3.laid hp _) (s1.trans (s2.trans (s3.trans (same_upd (R3.sub.free hp) _)))) (.tup (SqT.of upd_same) ((cut_den la l u).up (same_upd (R3.sub.free hp) _))) h3⟩
    | _ => cases e⟩⟩⟩
variable {p : Pos} {e : Expr} {es : List Expr} {t : TAd}
theorem de_lenF (hm : X.mg "len" = none) (ha : DA X (e :: es) t) (hg : Gl X "len" := by rfl) (he : starEach (e :: es) X.env = (false, eval e X.env) :: starEach es X.env := by rfl) (hpl : (backTo pos (starEach es X.env)).any (·.1) = false := by rfl) : DE X (.Call (.Name "len" p) (e :: es) [] pos) (dCall cLenF t) :=
  de_callB call_len_seq (cs_imp cs_len len_imp) hm PySem.boot_len ha hg (by decide) (by decide) he hpl
theorem de_intF (hm : X.mg "int" = none) (ha : DA X (e :: es) t) (hg : Gl X "int" := by rfl) (he : starEach (e :: es) X.env = (false, eval e X.env) :: starEach es X.env := by rfl) (hpl : (backTo pos (starEach es X.env)).any (·.1) = false := by rfl) : DE X (.Call (.Name "int" p) (e :: es) [] pos) (dCall cIntF t) :=
  de_callTy call_int1 (cs_imp cs_int int_imp) hm (by rfl) ha hg (by decide) (by decide) he hpl
theorem de_listF (hm : X.mg "list" = none) (ha : DA X (e :: es) t) (hg : Gl X "list" := by rfl) (he : starEach (e :: es) X.env = (false, eval e X.env) :: starEach es X.env := by rfl) (hpl : (backTo pos (starEach es X.env)).any (·.1) = false := by rfl) : DE X (.Call (.Name "list" p) (e :: es) [] pos) (dCall cListF t) :=
  de_callTy call_list_of (cs_imp cs_list list_imp) hm (by rfl) ha hg (by decide) (by decide) he hpl
theorem de_tupleF (hm : X.mg "tuple" = none) (ha : DA X (e :: es) t) (hg : Gl X "tuple" := by rfl) (he : starEach (e :: es) X.env = (false, eval e X.env) :: starEach es X.env := by rfl) (hpl : (backTo pos (starEach es X.env)).any (·.1) = false := by rfl) : DE X (.Call (.Name "tuple" p) (e :: es) [] pos) (dCall cTupleF t) :=
  de_callTy call_tuple_of (cs_imp cs_tuple tuple_imp) hm (by rfl) ha hg (by decide) (by decide) he hpl
end
theorem atI_0 {α : Type} {d : α} {l : List α} : atI (d :: l) 0 = some d := atI_nat (j := 0) rfl
theorem atI_1 {α : Type} {d d1 : α} {l : List α} : atI (d :: d1 :: l) 1 = some d1 := atI_nat (j := 1) rfl
theorem atI_2 {α : Type} {d d1 d2 : α} {l : List α} : atI (d :: d1 :: d2 :: l) 2 = some d2 := atI_nat (j := 2) rfl
theorem atI_3 {α : Type} {d d1 d2 d3 : α} {l : List α} : atI (d :: d1 :: d2 :: d3 :: l) 3 = some d3 := atI_nat (j := 3) rfl
theorem atI_4 {α : Type} {d d1 d2 d3 d4 : α} {l : List α} : atI (d :: d1 :: d2 :: d3 :: d4 :: l) 4 = some d4 := atI_nat (j := 4) rfl
theorem atI_5 {α : Type} {d d1 d2 d3 d4 d5 : α} {l : List α} : atI (d :: d1 :: d2 :: d3 :: d4 :: d5 :: l) 5 = some d5 := atI_nat (j := 5) rfl
theorem ipos {c A B : Prop} [Decidable c] (h : c) (a : A) : if c then A else B := by rw [if_pos h]; exact a
theorem ineg {c A B : Prop} [Decidable c] (h : ¬ c) (b : B) : if c then A else B := by rw [if_neg h]; exact b
/-! ### rows for simp -/
theorem eqD_non_non : eqD (D.non) (D.non) = true := rfl
theorem eqD_non_bl {y : Bool} : eqD (D.non) (D.bl y) = false := rfl
theorem eqD_non_int {y : Int} : eqD (D.non) (D.int y) = false := rfl
theorem eqD_non_str {y : Str} : eqD (D.non) (D.str y) = false := rfl
theorem eqD_non_tup {y : List D} : eqD (D.non) (D.tup y) = false := rfl
theorem eqD_non_lst {y : List D} : eqD (D.non) (D.lst y) = false := rfl
theorem eqD_bl_non {x : Bool} : eqD (D.bl x) (D.non) = false := rfl
theorem eqD_bl_bl {x : Bool} {y : Bool} : eqD (D.bl x) (D.bl y) = (x == y) := rfl
theorem eqD_bl_int {x : Bool} {y : Int} : eqD (D.bl x) (D.int y) = ((if x then 1 else 0) == y) := rfl
theorem eqD_bl_str {x : Bool} {y : Str} : eqD (D.bl x) (D.str y) = false := rfl
theorem eqD_bl_tup {x : Bool} {y : List D} : eqD (D.bl x) (D.tup y) = false := rfl
theorem eqD_bl_lst {x : Bool} {y : List D} : eqD (D.bl x) (D.lst y) = false := rfl
theorem eqD_int_non {x : Int} : eqD (D.int x) (D.non) = false := rfl
theorem eqD_int_bl {x : Int} {y : Bool} : eqD (D.int x) (D.bl y) = (x == (if y then 1 else 0)) := rfl
theorem eqD_int_int {x : Int} {y : Int} : eqD (D.int x) (D.int y) = (x == y) := rfl
theorem eqD_int_str {x : Int} {y : Str} : eqD (D.int x) (D.str y) = false := rfl
theorem eqD_int_tup {x : Int} {y : List D} : eqD (D.int x) (D.tup y) = false := rfl
theorem eqD_int_lst {x : Int} {y : List D} : eqD (D.int x) (D.lst y) = false := rfl
theorem eqD_str_non {x : Str} : eqD (D.str x) (D.non) = false := rfl
theorem eqD_str_bl {x : Str} {y : Bool} : eqD (D.str x) (D.bl y) = false := rfl
theorem eqD_str_int {x : Str} {y : Int} : eqD (D.str x) (D.int y) = false := rfl
theorem eqD_str_str {x : Str} {y : Str} : eqD (D.str x) (D.str y) = (x == y) := rfl
theorem eqD_str_tup {x : Str} {y : List D} : eqD (D.str x) (D.tup y) = false := rfl
theorem eqD_str_lst {x : Str} {y : List D} : eqD (D.str x) (D.lst y) = false := rfl
theorem eqD_tup_non {x : List D} : eqD (D.tup x) (D.non) = false := rfl
theorem eqD_tup_bl {x : List D} {y : Bool} : eqD (D.tup x) (D.bl y) = false := rfl
theorem eqD_tup_int {x : List D} {y : Int} : eqD (D.tup x) (D.int y) = false := rfl
theorem eqD_tup_str {x : List D} {y : Str} : eqD (D.tup x) (D.str y) = false := rfl
theorem eqD_tup_tup {x : List D} {y : List D} : eqD (D.tup x) (D.tup y) = eqDL x y := rfl
theorem eqD_tup_lst {x : List D} {y : List D} : eqD (D.tup x) (D.lst y) = false := rfl
theorem eqD_lst_non {x : List D} : eqD (D.lst x) (D.non) = false := rfl
theorem eqD_lst_bl {x : List D} {y : Bool} : eqD (D.lst x) (D.bl y) = false := rfl
theorem eqD_lst_int {x : List D} {y : Int} : eqD (D.lst x) (D.int y) = false := rfl
theorem eqD_lst_str {x : List D} {y : Str} : eqD (D.lst x) (D.str y) = false := rfl
theorem eqD_lst_tup {x : List D} {y : List D} : eqD (D.lst x) (D.tup y) = false := rfl
theorem eqD_lst_lst {x : List D} {y : List D} : eqD (D.lst x) (D.lst y) = eqDL x y := rfl
theorem eqDL_nil_nil : eqDL [] [] = true := rfl
theorem eqDL_nil_cons {d : D} {l : List D} : eqDL [] (d :: l) = false := rfl
theorem eqDL_cons_nil {d : D} {l : List D} : eqDL (d :: l) [] = false := rfl
theorem eqDL_cons_cons {d e : D} {l m : List D} : eqDL (d :: l) (e :: m) = (eqD d e && eqDL l m) := rfl
theorem isNonD_non : isNonD .non = true := rfl
theorem isNonD_int {i : Int} : isNonD (.int i) = false := rfl
theorem isNonD_bl {i : Bool} : isNonD (.bl i) = false := rfl
theorem isNonD_str {i : Str} : isNonD (.str i) = false := rfl
theorem isNonD_tup {i : List D} : isNonD (.tup i) = false := rfl
theorem isNonD_lst {i : List D} : isNonD (.lst i) = false := rfl
theorem addF_int {i j : Int} : addF (.int i) (.int j) = some (.int (i + j)) := rfl
theorem addF_tup {l m : List D} : addF (.tup l) (.tup m) = if l.length + m.length ≤ sizeLine then some (.tup (l ++ m)) else none := rfl
theorem addF_lst {l m : List D} : addF (.lst l) (.lst m) = if l.length + m.length ≤ sizeLine then some (.lst (l ++ m)) else none := rfl
theorem addF_str {i j : Str} : addF (.str i) (.str j) = if i.length + j.length ≤ sizeLine then some (.str (i ++ j)) else none := rfl
theorem ixF_tup {l : List D} {i : Int} : ixF (.tup l) (.int i) = atI l i := rfl
theorem ixF_lst {l : List D} {i : Int} : ixF (.lst l) (.int i) = atI l i := rfl
theorem seqF_tup {l : List D} : seqF (.tup l) = some l := rfl
theorem seqF_lst {l : List D} : seqF (.lst l) = some l := rfl
theorem intF_int {i : Int} : intF (.int i) = some i := rfl
theorem intF_bl {b : Bool} : intF (.bl b) = some (if b then 1 else 0) := rfl
theorem truF_non : truF .non = some false := rfl
theorem truF_bl {b : Bool} : truF (.bl b) = some b := rfl
theorem truF_int {i : Int} : truF (.int i) = some (i != 0) := rfl
theorem truF_tup {l : List D} : truF (.tup l) = some (!l.isEmpty) := rfl
theorem truF_lst {l : List D} : truF (.lst l) = some (!l.isEmpty) := rfl
theorem slF_lst {l : List D} {lo hi : Option Int} : slF (.lst l) lo hi = some (.lst (cutD l lo hi)) := rfl
theorem slF_tup {l : List D} {lo hi : Option Int} : slF (.tup l) lo hi = some (.tup (cutD l lo hi)) := rfl
theorem slOk_lst {l : List D} {lo hi : Option Int} : slOk (.lst l) lo hi = True := rfl
theorem slOk_tup {l : List D} {lo hi : Option Int} : slOk (.tup l) lo hi = ¬ (HT.sIx l.length 0 lo = 0 ∧ HT.sIx l.length l.length hi = l.length) := rfl
end Dl

namespace Dl
open PySem PySem.Spec PyProof.Rows L2
/-! ## Comprehensions -/
theorem clos_go {env : PySem.Env} : ∀ (names : List (Str × NameKind)) (cs : List (Str × Addr)), (∀ x ∈ names, x.2 = NameKind.free → ∃ c, env.cells.lookup x.1 = some c) →
    (∀ x c, cs.lookup x = some c → env.cells.lookup x = some c) →
    ∃ cl, (forIn names cs fun x r => if (x.snd == NameKind.free) = true then do let c ← cellOf env x.fst; pure (ForInStep.yield ((x.fst, c) :: r)) else pure (ForInStep.yield r) : Sem (List (Str × Addr))) = pure cl ∧
      (∀ x c, cl.lookup x = some c → env.cells.lookup x = some c) ∧ ∀ x, ((∃ c, cs.lookup x = some c) ∨ (x, NameKind.free) ∈ names) → ∃ c, cl.lookup x = some c
  | [], cs, _, h => ⟨cs, rfl, h, fun x hx => hx.elim id fun z => absurd z (by simp)⟩
  | (n, k) :: r, cs, hf, h => by
    by_cases hk : k = .free
    · subst hk
      obtain ⟨c, hc⟩ := hf (n, .free) List.mem_cons_self rfl
      obtain ⟨cl, e, h1, h2⟩ := clos_go r ((n, c) :: cs) (fun x hx => hf x (List.mem_cons_of_mem _ hx)) (fun x d hx => by
        rw [List.lookup_cons] at hx
        split at hx
        · rename_i q; cases hx; rw [eq_of_beq q]; exact hc
        · exact h x d hx)
      refine ⟨cl, ?_, h1, fun x hx => h2 x ?_⟩
      · rw [List.forIn_cons, ← e]
        have e0 : cellOf env n = pure c := by unfold cellOf; rw [hc]
        simp only [beq_self_eq_true, if_true, e0]
        rfl
      · rcases hx with ⟨d, hx⟩ | hx
        · left
          rw [List.lookup_cons]
          split
          · exact ⟨_, rfl⟩
          · exact ⟨d, hx⟩
        · rcases List.mem_cons.mp hx with z | z
          · cases z
            left
            exact ⟨c, by rw [List.lookup_cons, beq_self_eq_true]⟩
          · exact .inr z
    · obtain ⟨cl, e, h1, h2⟩ := clos_go r cs (fun x hx => hf x (List.mem_cons_of_mem _ hx)) h
      refine ⟨cl, ?_, h1, fun x hx => h2 x ?_⟩
      · rw [List.forIn_cons, ← e]
        have : (k == NameKind.free) = false := by simpa using hk
        simp only [this, Bool.false_eq_true, if_false]
        rfl
      · rcases hx with hx | hx
        · exact .inl hx
        · rcases List.mem_cons.mp hx with z | z
          · cases z; exact absurd rfl hk
          · exact .inr z
theorem clos_of {env : PySem.Env} {scope : Scope} (hf : ∀ x ∈ scope.names, x.2 = NameKind.free → ∃ c, env.cells.lookup x.1 = some c) :
    ∃ cl, closureFor scope env = pure cl ∧ (∀ x c, cl.lookup x = some c → env.cells.lookup x = some c) ∧ ∀ x, (x, NameKind.free) ∈ scope.names → ∃ c, cl.lookup x = some c := by
  obtain ⟨cl, e, h1, h2⟩ := clos_go scope.names [] hf (fun x c h => by simp at h)
  refine ⟨cl, ?_, h1, fun x hx => h2 x (.inr hx)⟩
  simp only [closureFor]
  rw [e]
  rfl
theorem lookup_relabel {env : PySem.Env} {x : Str} : ∀ {names : List (Str × NameKind)},
    (names.map fun (n, k) => if (k == NameKind.free && env.scope.kind == .function && env.kindOf n == some .cell) then (n, NameKind.cell) else (n, k)).lookup x =
      (names.lookup x).map fun k => if (k == NameKind.free && env.scope.kind == .function && env.kindOf x == some .cell) then NameKind.cell else k
  | [] => rfl
  | (n, k) :: r => by
    have ih := @lookup_relabel env x r
    rw [List.map_cons]
    by_cases hx : x = n
    · subst hx
      have e1 : List.lookup x ((x, k) :: r) = some k := by rw [List.lookup_cons, beq_self_eq_true]
      rw [e1, Option.map_some]
      dsimp only
      split
      · rw [List.lookup_cons, beq_self_eq_true]
      · rw [List.lookup_cons, beq_self_eq_true]
    · have hb : (x == n) = false := by simpa using hx
      have e1 : List.lookup x ((n, k) :: r) = List.lookup x r := by rw [List.lookup_cons, hb]
      rw [e1, ← ih]
      dsimp only
      split
      · rw [List.lookup_cons, hb]
      · rw [List.lookup_cons, hb]
theorem mem_of_look {x : Str} {k : NameKind} : ∀ {names : List (Str × NameKind)}, names.lookup x = some k → (x, k) ∈ names
  | [], h => by simp at h
  | (n, j) :: r, h => by
    rw [List.lookup_cons] at h
    split at h
    · rename_i q; cases h; rw [eq_of_beq q]; exact List.mem_cons_self
    · exact List.mem_cons_of_mem _ (mem_of_look h)

/-! ### the cells that a block makes -/
theorem cf_app : ∀ (names : List (Str × NameKind)) (n : Nat) (acc : List (Str × Addr)), cellsFrom n names acc = cellsFrom n names [] ++ acc
  | [], _, _ => rfl
  | (x, k) :: r, n, acc => by
    unfold cellsFrom
    split
    · rw [cf_app r (n + 1) ((x, n) :: acc), cf_app r (n + 1) [(x, n)], List.append_assoc]; rfl
    · exact cf_app r n acc
theorem cf_mem {x : Str} {c : Addr} : ∀ (names : List (Str × NameKind)) (n : Nat), (x, c) ∈ cellsFrom n names [] → (x, NameKind.cell) ∈ names
  | [], _, h => nomatch h
  | (y, k) :: r, n, h => by
    unfold cellsFrom at h
    split at h
    · rename_i hk
      rw [cf_app] at h
      rcases List.mem_append.mp h with h | h
      · exact List.mem_cons_of_mem _ (cf_mem r (n + 1) h)
      · rw [List.mem_singleton] at h
        cases h
        rw [eq_of_beq hk]
        exact List.mem_cons_self
    · exact List.mem_cons_of_mem _ (cf_mem r n h)
theorem wpAny_compEnv {M : Model} {A : Around} {E : Value → Shared → Prop} {s : Shared} {scope : Scope} {g : Addr} {cl : List (Str × Addr)} {q : Str} {env : PySem.Env} {Q : PySem.Env → Shared → Prop}
    (h : Q (newEnv scope s.heap.objs.size g (cellsFrom (s.heap.objs.size + 1) scope.names cl) q none .none (some env) builtinsNs) { s with heap := pushCells (s.heap.push { cls := .type "dict", data := .dict #[] }) scope.names }) :
    wpAny M A (newFunctionEnv scope g cl [] q none .none (some env)) Q E s := by
  simp only [newFunctionEnv, Option.isSome_some, if_true]
  refine wpAny_bind (wpAny_alloc ?_)
  refine wpAny_bind (wpAny_layCells _ (fun name kind cells => by cases hkc : kind == NameKind.cell <;> simp [hkc]) _ _ _ _ ?_)
  rw [show ({ s with heap := s.heap.push { cls := .type "dict", data := .dict #[] } } : Shared).heap.objs.size = s.heap.objs.size + 1 from Heap.size_push ..]
  exact wpAny_bind (by rw [List.forIn_nil]; exact wpAny_pure (wpAny_pure h))
/-- the cells of a block: its own ones, new and empty, ahead of those that it captures -/
structure OwnC (scope : Scope) (own : List (Str × Addr)) (L : Addr) (h : Heap) : Prop where
  new : ∀ x c, own.lookup x = some c → L < c ∧ h.IsCell c none
  apart : own.Pairwise fun x y => x.2 ≠ y.2
  has : ∀ x, scope.names.lookup x = some .cell → ∃ c, own.lookup x = some c
  free : ∀ x, (x, NameKind.free) ∈ scope.names → own.lookup x = none
theorem ownC_of {scope : Scope} {h : Heap} (hd : ∀ x, (x, NameKind.free) ∈ scope.names → (x, NameKind.cell) ∉ scope.names) :
    OwnC scope (cellsFrom (h.objs.size + 1) scope.names []) h.objs.size (pushCells (h.push { cls := .type "dict", data := .dict #[] }) scope.names) := by
  have ok := cellsFrom_ok scope.names (h.push { cls := .type "dict", data := .dict #[] }) (h.objs.size + 1) [] ⟨fun _ _ hm => (nomatch hm), List.Pairwise.nil⟩ (by rw [Heap.size_push]; exact Nat.le_refl _)
  rw [Heap.size_push] at ok
  refine ⟨fun x c e => ⟨(ok.empty x c (PySem.mem_of_lookup e)).2, (ok.empty x c (PySem.mem_of_lookup e)).1⟩, ok.apart, fun x e => Option.isSome_iff_exists.mp (PySem.W.cellsFrom_some _ _ _ (.inl e)), fun x hx => ?_⟩
  cases q : (cellsFrom (h.objs.size + 1) scope.names []).lookup x with
  | none => rfl
  | some c => exact absurd (cf_mem _ _ (PySem.mem_of_lookup q)) (hd x hx)
/-- the context of a comprehension's block -/
def cxComp (X : Cx) (N : List Str) (scope : Scope) (cl : List (Str × Addr)) (C : Addr) (ex : List Addr) (s : Shared) (H : Hp) : Cx where
  prog := X.prog
  w := X.w
  K := X.K
  mg := X.mg
  base := X.base
  A := X.A
  N := N
  s₀ := s
  H₀ := H
  env := compEnvC scope cl C X.env
  outer := X.stack
  stack := X.stack
  ex := ex
  fn := fun x => scope.names.lookup x == some .cell
  calm := X.calm
  pn := []
  xe := fun _ _ => False
section
variable {X : Cx} {pins : List (Addr × Obj)} {σ : L2.St} {H : Hp} {s : Shared} {N' : List Str} {scope : Scope} {cl : List (Str × Addr)} {fp : List Addr} {k : Nat} {h₁ : Heap} {tk : Nat}
theorem comp_inv {own : List (Str × Addr)} (I : Inv X pins σ H s) (hkind : scope.kind = .function) (hcl1 : ∀ x c, cl.lookup x = some c → X.env.cells.lookup x = some c) (hcl2 : ∀ x, (x, NameKind.free) ∈ scope.names → ∃ c, cl.lookup x = some c)
    (ow : OwnC scope own s.heap.objs.size h₁) (hN : N'.length = X.N.length + k)
    (hcap : ∀ (i : Nat) (x : Str), N'[i]? = some x → i < X.N.length → Vis (relabel scope X.env) x → X.N[i]? = some x ∧ scope.names.lookup x = some .free ∧ X.env.scope.names.lookup x = some .cell)
    (f : ∀ b ∈ fp, FpOk X pins H b) (fo : ∀ b ∈ fp, b < s.heap.objs.size) (hns : h₁.Ns s.heap.objs.size fun _ => none) (hk : ∀ b o, s.heap.get? b = some o → h₁.get? b = some o) :
    Inv (cxComp X N' scope (own ++ cl) s.heap.objs.size fp s H) [] (σ ++ List.replicate k none) H { s with heap := h₁, toks := tk } := by
  have kin : ∀ x, (relabel scope X.env).names.lookup x = (scope.names.lookup x).map fun k => if (k == NameKind.free && X.env.scope.kind == .function && X.env.kindOf x == some .cell) then NameKind.cell else k := fun x => lookup_relabel
  have two : ∀ x c, (own ++ cl).lookup x = some c → own.lookup x = some c ∨ X.env.cells.lookup x = some c := fun x c e => by
    rw [List.lookup_append] at e
    cases q : own.lookup x with
    | none => rw [q] at e; exact .inr (hcl1 x c e)
    | some d => rw [q] at e; exact .inl e
  have cap : ∀ x c, (x, NameKind.free) ∈ scope.names → cl.lookup x = some c → (own ++ cl).lookup x = some c := fun x c hx e => by rw [List.lookup_append, ow.free x hx]; exact e
  have old : ∀ x c, X.env.cells.lookup x = some c → c < s.heap.objs.size := fun x c e => let ⟨_, o, ho, _⟩ := I.cell x c e; Heap.lt_size ho
  have fre : ∀ x, ((relabel scope X.env).names.lookup x = some .cell ∨ (relabel scope X.env).names.lookup x = some .free) → scope.names.lookup x = some .cell ∨ (x, NameKind.free) ∈ scope.names := fun x hx => by
    rw [kin x] at hx
    cases q : scope.names.lookup x with
    | none => rw [q] at hx; simp at hx
    | some k =>
      have hm := mem_of_look q
      cases k with
      | free => exact .inr hm
      | cell => exact .inl rfl
      | _ => rw [q] at hx; simp at hx
  have lt : ∀ b o, X.base.get? b = some o → b < X.s₀.heap.objs.size := fun b o e => Heap.lt_size (I.ok.bs b o e).1
  have okX : (cxComp X N' scope (own ++ cl) s.heap.objs.size fp s H).Ok := by
    refine ⟨I.ok.mod, hkind, I.ok.glob, I.ok.blt, Nat.le_refl _, fun x y c h1 h2 => ?_, fun x hx => ?_, fun x c h e => ?_, I.ok.hd, I.ok.frames, .inl rfl,
      fun b hb => ⟨Nat.ne_of_lt (fo b hb), fun x c e => ?_⟩, fun b o e => I.bs b o e, Nat.le_trans I.ok.bsz I.sz, fun b o e hb => ?_, fun b hb z => ?_, I.stack, I.stkFree⟩
    · rcases two x c h1 with a | a <;> rcases two y c h2 with b | b
      · exact name_of_addr ow.apart (PySem.mem_of_lookup a) (PySem.mem_of_lookup b)
      · exact absurd (Nat.lt_trans (ow.new x c a).1 (old y c b)) (Nat.lt_irrefl _)
      · exact absurd (Nat.lt_trans (ow.new y c b).1 (old x c a)) (Nat.lt_irrefl _)
      · exact I.ok.inj x y c a b
    · rcases fre x hx with z | z
      · obtain ⟨c, hc⟩ := ow.has x z
        exact ⟨c, by show (own ++ cl).lookup x = _; rw [List.lookup_append, hc]; rfl⟩
      · obtain ⟨c, hc⟩ := hcl2 x z
        exact ⟨c, cap x c z hc⟩
    · obtain ⟨d, hd⟩ := ow.has x (eq_of_beq h)
      have e' : (own ++ cl).lookup x = some c := e
      rw [List.lookup_append, hd] at e'
      cases e'
      exact Nat.le_of_lt (ow.new x _ hd).1
    · rcases two x c e with a | a
      · exact Nat.ne_of_gt (Nat.lt_trans (fo b hb) (ow.new x c a).1)
      · exact (f b hb).2.2.2.2.1 x c a
    · rcases (f b hb).2.2.2.1 with z | z
      · exact I.ok.noex b o e z
      · exact absurd (Nat.lt_of_lt_of_le (lt b o e) z) (Nat.lt_irrefl _)
    · rcases List.mem_cons.mp (I.stkSub b z) with z | z
      · exact (f b hb).2.1 z
      · exact (f b hb).2.2.1 z
  refine ⟨okX, rfl, I.bare, Un.kept hk, ⟨_, hns, fun i x v h1 h2 h3 => ?_⟩, fun x c e => ?_, I.hok.fresh (Nat.le_refl _), fun x c e => ?_, fun p hp => absurd (show p ∈ ([] : List (Addr × Obj)) from hp) (by simp), I.hok.kept hk, ?_⟩
  · have hi : i < σ.length := by
      by_cases hi : i < σ.length
      · exact hi
      · rw [List.getElem?_append_right (by omega), List.getElem?_replicate] at h2
        split at h2 <;> cases h2
    have hi' : i < X.N.length := by rw [← I.len]; exact hi
    rw [List.getElem?_append_left hi] at h2
    obtain ⟨e1, e2, e3⟩ := hcap i x h1 hi' h3
    obtain ⟨m, _, hl⟩ := I.loc
    obtain ⟨u, ru, lk⟩ := hl i x v e1 h2 (.inr (.inl e3))
    refine ⟨u, ru, ?_⟩
    have e3' : X.env.kindOf x = some .cell := e3
    rcases lk with ⟨z, _⟩ | ⟨_, c, hc, hcell⟩
    · rw [e3'] at z; cases z
    · obtain ⟨c', hc'⟩ := hcl2 x (mem_of_look e2)
      have := hcl1 x c' hc'
      rw [hc] at this; cases this
      refine .inr ⟨.inl ?_, c, cap x c (mem_of_look e2) hc', ?_⟩
      · show (relabel scope X.env).names.lookup x = some .cell
        rw [kin x, e2, Option.map_some, e3', I.ok.kind]
        rfl
      · obtain ⟨o, ho, hd⟩ := hcell
        exact ⟨o, hk _ _ ho, hd⟩
  · rcases two x c e with a | a
    · exact ⟨none, (ow.new x c a).2⟩
    · obtain ⟨v, o, ho, hd⟩ := I.cell x c a
      exact ⟨v, o, hk _ _ ho, hd⟩
  · rcases two x c e with a | a
    · exact I.hok.fresh (Nat.le_of_lt (ow.new x c a).1)
    · exact I.freeC x c a
  · show (σ ++ List.replicate k none).length = N'.length
    rw [List.length_append, List.length_replicate, I.len, hN]

/-- whatever the block has done to its names: they can be taken as at its beginning -/
theorem comp_reset {own : List (Str × Addr)} {pins' : List (Addr × Obj)} {σ' : L2.St} {H' : Hp} {s' : Shared} (I : Inv X pins σ H s) (hcl1 : ∀ x c, cl.lookup x = some c → X.env.cells.lookup x = some c) (hcl2 : ∀ x, (x, NameKind.free) ∈ scope.names → ∃ c, cl.lookup x = some c)
    (hof : ∀ x, (x, NameKind.free) ∈ scope.names → own.lookup x = none) (hN : N'.length = X.N.length + k)
    (hcap : ∀ (i : Nat) (x : Str), N'[i]? = some x → i < X.N.length → Vis (relabel scope X.env) x → X.N[i]? = some x ∧ scope.names.lookup x = some .free ∧ X.env.scope.names.lookup x = some .cell)
    (J : Inv (cxComp X N' scope (own ++ cl) s.heap.objs.size fp s H) pins' σ' H' s') : Inv (cxComp X N' scope (own ++ cl) s.heap.objs.size fp s H) pins' (σ ++ List.replicate k none) H' s' := by
  obtain ⟨m, hm, _⟩ := J.loc
  refine ⟨J.ok, J.os, J.bare, J.base, ⟨m, hm, fun i x v h1 h2 h3 => ?_⟩, J.cell, J.free, J.freeC, J.pin, J.hok, ?_⟩
  · have hi : i < σ.length := by
      by_cases hi : i < σ.length
      · exact hi
      · rw [List.getElem?_append_right (by omega), List.getElem?_replicate] at h2
        split at h2 <;> cases h2
    have hi' : i < X.N.length := by rw [← I.len]; exact hi
    rw [List.getElem?_append_left hi] at h2
    obtain ⟨e1, e2, e3⟩ := hcap i x h1 hi' h3
    obtain ⟨_, _, hl⟩ := I.loc
    obtain ⟨u, ru, lk⟩ := hl i x v e1 h2 (.inr (.inl e3))
    refine ⟨u, ru, ?_⟩
    have e3' : X.env.kindOf x = some .cell := e3
    rcases lk with ⟨z, _⟩ | ⟨_, c, hc, hcell⟩
    · rw [e3'] at z; cases z
    · obtain ⟨c', hc'⟩ := hcl2 x (mem_of_look e2)
      have := hcl1 x c' hc'
      rw [hc] at this; cases this
      have hc2 : (own ++ cl).lookup x = some c := by rw [List.lookup_append, hof x (mem_of_look e2)]; exact hc'
      refine .inr ⟨.inl ?_, c, hc2, ?_⟩
      · show (relabel scope X.env).names.lookup x = some .cell
        rw [show (relabel scope X.env).names.lookup x = _ from lookup_relabel, e2, Option.map_some, e3', I.ok.kind]
        rfl
      · obtain ⟨o, ho, hd⟩ := hcell
        have hx : c ∉ fp := fun z => ((J.ok.exf c z).2 x c hc2) rfl
        obtain ⟨sl, hs⟩ := J.base.any ho (I.freeC x c hc) hx
        exact ⟨_, hs, hd⟩
  · show (σ ++ List.replicate k none).length = N'.length
    rw [List.length_append, List.length_replicate, I.len, hN]
end

section
variable {A : Around} {prog : Program} {w : World} {s : Shared} {R : Result → Shared → Prop}
theorem compLoop_any {el tg itr : Expr} {cs : List Expr} {sc : Scope} {ps : Pos} {itv ac : Value} {en : PySem.Env} (I : Nat → Shared → Prop)
    (turn : ∀ n s, I n s → wpAny (model prog w) A (pyNext itv) (fun r s₁ => match r with
      | none => R (.ok .next) s₁
      | some v => wpAny (model prog w) A (letOwnedTupleGo tg itv v) (fun _ s₁' => wpAny (model prog w) A (assign tg en v) (fun _ s₂ =>
          wpAny (model prog w) A (forIn cs true fun c r => if r = true then do let ok ← isTrue c en (eval c en); pure (ForInStep.yield ok) else pure (ForInStep.yield r)) (fun ok s₃ =>
            if ok = true then wpAny (model prog w) A (eval el en) (fun x s₄ =>
              wpAny (model prog w) A (call (.builtin "list.append") [ac, x]) (fun _ s₅ => ∃ m, m < n ∧ I m s₅) (fun _ _ => False) s₄) (fun _ _ => False) s₃
            else ∃ m, m < n ∧ I m s₃) (fun _ _ => False) s₂) (fun _ _ => False) s₁') (fun _ _ => False) s₁) (fun _ _ => False) s)
    (n : Nat) (h : I n s) : codeAny (model prog w) A (.compLoop (.ListComp el [⟨tg, itr, cs, 0⟩] sc ps) 0 itv ac en) R s := by
  refine codeAny_loop rfl I (fun n s hn => ?_) n h
  show wpAny _ A ((compTurn (.ListComp el [⟨tg, itr, cs, 0⟩] sc ps) 0 itv ac en).onRaise (fun x => do noteFrame x en; theTreesLotGoes x)) _ _ s
  refine wpAny_noted ?_
  rw [compTurn_list]
  refine wpAny_bind (wpAny_standAt (wpAny_bind (wpAny_mono (turn n s hn) (fun r s₁ h₁ => ?_) fun _ _ z => False.elim z)))
  cases r with
  | none => exact wpAny_pure h₁
  | some v =>
    refine wpAny_bind (wpAny_mono h₁ (fun _ s₁' h₁' => ?_) fun _ _ z => False.elim z)
    refine wpAny_bind (wpAny_mono h₁' (fun _ s₂ h₂ => wpAny_bind (wpAny_mono h₂ (fun ok s₃ h₃ => ?_) fun _ _ z => False.elim z)) fun _ _ z => False.elim z)
    cases ok with
    | false => exact (wpAny_pure ⟨rfl, h₃⟩)
    | true =>
      exact wpAny_bind (wpAny_bind (wpAny_mono h₃ (fun x s₄ h₄ => wpAny_bind (wpAny_mono h₄ (fun _ s₅ h₅ => wpAny_pure (wpAny_pure ⟨rfl, h₅⟩)) fun _ _ z => False.elim z)) fun _ _ z => False.elim z))
end

/-- J walks the items l while all that is in Hk stands -/
structure JOkH (K : PySem.W.Frag) (G Hk : Hp) (J : It) (l : List D) : Prop where
  go : ∀ (i : Nat) (G1 H1 : Hp), Same G G1 → Same G1 H1 → Same Hk H1 → i < l.length → J.go i H1
  yl : ∀ (i : Nat) (G1 H1 : Hp) (x : V) (H2 : Hp), Same G G1 → Same G1 H1 → Same Hk H1 → i < l.length → J.yld i H1 x H2 → ∃ (G2 : Hp) (d : D), Ext G1 H1 G2 H2 ∧ l[i]? = some d ∧ Den K G2 x d
  st : ∀ (i : Nat) (G1 H1 : Hp), Same G G1 → Same G1 H1 → Same Hk H1 → l.length ≤ i → J.stop i H1
theorem JOk.h {K : PySem.W.Frag} {G Hk : Hp} {J : It} {l : List D} (j : JOk K G J l) : JOkH K G Hk J l :=
  ⟨fun i G1 H1 a b _ => j.go i G1 H1 a b, fun i G1 H1 x H2 a b _ => j.yl i G1 H1 x H2 a b, fun i G1 H1 a b _ => j.st i G1 H1 a b⟩
def lIh (K : PySem.W.Frag) (t : TId) : TI := fun σ H R2 => ∃ (n : En) (δ : Ev) (G : Hp) (Q : List D → Ev → Prop), Rel K n δ σ G H ∧ t δ Q ∧
  ∀ (J : It) (G' H' : Hp) (l : List D) (δ' : Ev), Rel K n δ' σ G' H' → Same G G' → JOkH K G' H' J l → Q l δ' → R2 J H'
abbrev DIh (X : Cx) (tg iter : Expr) (t : TId) : Prop := PI X tg iter (lIh X.K t)
theorem di_h {X : Cx} {tg iter : Expr} {t : TId} (h : DI X tg iter t) : DIh X tg iter t :=
  pi_imp h fun σ H R2 ⟨n, δ, G, Q, R, ht, k⟩ => ⟨n, δ, G, Q, R, ht, fun J G' H' l δ' R' s' j' q' => k J G' H' l δ' R' s' j'.h q'⟩
/-- the tests of a comprehension -/
def DTs (X : Cx) (ifs : List Expr) (t : TTd) : Prop :=
  ∀ (pins : List (Addr × Obj)) (s : Shared) (σ : L2.St) (H : Hp) (Q : Bool → Hp → Prop), Inv X pins σ H s → lT X.K t σ H Q →
    wpAny (model X.prog X.w) X.A (forIn ifs true fun c r => if r = true then do let ok ← isTrue c X.env (eval c X.env); pure (ForInStep.yield ok) else pure (ForInStep.yield r)) (TP X pins σ Q) X.xe s
def dYes : TTd := fun δ Q => Q true δ
theorem dts_nil {X : Cx} : DTs X [] dYes := fun pins s σ H Q I ⟨n, δ, G, Qd, R, h, k⟩ => wpAny_tests_nil ⟨H, I, k true G H δ R (Same.refl _) h⟩
theorem dts_one {X : Cx} {c : Expr} {t : TTd} (h : DT X c t) : DTs X [c] t := fun pins s σ H Q I q => wpAny_tests_one (h pins s σ H Q I q)
/-- [elt for target in iter if ..]: F tells what comes of each item, None: nothing -/
def dComp (k : Nat) (ti : TId) (g : TGd) (tt : TTd) (te : TEd) : TEd := fun δ Q => ti δ fun items δ1 => ∃ F : D → Option D,
  (∀ d ∈ items, g d (dropOw δ1 ++ List.replicate k .no) fun δ2 => tt δ2 fun b δ3 => if b = true then te δ3 fun y _ => F d = some y else F d = none) ∧
    (items.filterMap F).length ≤ sizeLine ∧ Q (.lst (items.filterMap F)) δ1
theorem fm_take {α β : Type} (F : α → Option β) (l : List α) (i : Nat) (d : α) (h : l[i]? = some d) : (l.take (i + 1)).filterMap F = (l.take i).filterMap F ++ (F d).toList := by
  rw [List.take_add_one, h, List.filterMap_append]
  cases q : F d <;> simp [q]
theorem fm_le {α β : Type} (F : α → Option β) (l : List α) (i : Nat) : ((l.take i).filterMap F).length ≤ (l.filterMap F).length := by
  conv => rhs; rw [← List.take_append_drop i l]
  rw [List.filterMap_append, List.length_append]
  omega
/-- a comprehension with what is done with its list -/
theorem comp_run {X : Cx} {elt iter target : Expr} {ifs : List Expr} {scope : Scope} {pos : Pos} {N' : List Str} (k : Nat) {ti : TId} {g : TGd} {tt : TTd} {te : TEd} (hc : X.calm = true) (hi : DIh X target iter ti)
    (hb : ∀ (cl : List (Str × Addr)) (C : Addr) (ex : List Addr) (s : Shared) (H : Hp), DG (cxComp X N' scope cl C ex s H) target g ∧ DTs (cxComp X N' scope cl C ex s H) ifs tt ∧ DE (cxComp X N' scope cl C ex s H) elt te)
    (hkind : scope.kind = .function) (hnames : ∀ y ∈ scope.names, y.2 = .local → scope.names.lookup y.1 = some .local) (hnc : ∀ x, (x, NameKind.free) ∈ scope.names → (x, NameKind.cell) ∉ scope.names) (hN : N'.length = X.N.length + k)
    (hcap : ∀ (i : Nat) (x : Str), N'[i]? = some x → i < X.N.length → Vis (relabel scope X.env) x → X.N[i]? = some x ∧ scope.names.lookup x = some .free ∧ X.env.scope.names.lookup x = some .cell)
    (hfr : ∀ x ∈ scope.names, x.2 = NameKind.free → X.env.scope.names.lookup x.1 = some .cell)
    (hs : ∀ x, foldedSetIterable iter X.env x = pure x)
    {use : Option (Value → Sem Unit)} {Qf : Value → Shared → Prop} {pins : List (Addr × Obj)} {s : Shared} {σ : L2.St} {H : Hp} {Q2 : VK} {p : Pos} (I : Inv X pins σ H s) (hq : lE X.K (dComp k ti g tt te) σ H Q2)
    (fin : ∀ (D₀ C : Addr) (H' : Hp) (s6 : Shared), Inv X pins σ H' s6 → FpOk X pins H' C → (∃ m, s6.heap.Ns C m) → Q2 (.ref D₀) H' → compPost (model X.prog X.w) X.A X.xe use Qf (.ref D₀) C (.ok .next) s6) :
    wpAny (model X.prog X.w) X.A (comprehension (.ListComp elt [⟨target, iter, ifs, 0⟩] scope pos) scope X.env p (newList []) false (eval iter X.env) use) Qf X.xe s := by
  obtain ⟨n, δ, G, Q, R, h, kk⟩ := hq
  obtain ⟨cl, hclos, hcl1, hcl2⟩ := clos_of (env := X.env) (scope := scope) (fun x hx hf => I.ok.has x.1 (.inl (hfr x hx hf)))
  refine wpAny_comprehension_free (use := use) rfl hs hclos hkind hnames (wpAny_mono (hi pins s σ H _ I ⟨n, δ, G, _, R, h, fun J G' H' l δ' R' s' j' q' => (show ∃ G' l δ', Rel X.K n δ' σ G' H' ∧ Same G G' ∧ JOkH X.K G' H' J l ∧
    (∃ F : D → Option D, (∀ d ∈ l, g d (dropOw δ' ++ List.replicate k .no) fun δ2 => tt δ2 fun b δ3 => if b = true then te δ3 fun y _ => F d = some y else F d = none) ∧ (l.filterMap F).length ≤ sizeLine ∧ Q (.lst (l.filterMap F)) δ') from ⟨G', l, δ', R', s', j', q'⟩)⟩)
    (fun xv s₁ h₁ => wpAny_mono h₁ (fun itv s₂ h₂ => ?_) fun _ _ z => z) fun _ _ z => z)
  obtain ⟨it, fp, tn, J, H2, rfl, I2, T, st2, f2, G2, items, δ1, R2, sG2, j2, F, hF, hsz, hQ⟩ := h₂
  refine wpAny_newObj_type (wpAny_compEnv ?_)
  rw [cf_app]
  dsimp only
  -- the new list
  have hD : H2 s₂.heap.objs.size = none := I2.fresh
  have I3 : Inv X pins σ (upd H2 s₂.heap.objs.size (.lst [])) { s₂ with heap := s₂.heap.push { cls := .type "list", dict := none, data := .seq ([] : List Value).toArray } } := I2.lnew (t' := s₂.toks) .nil (Nat.zero_le _)
  have R3 : Rel X.K n δ1 σ G2 (upd H2 s₂.heap.objs.size (.lst [])) := R2.other (R2.sub.free hD) (R2.al _ hD) (R2.notOwn hD) _
  have f3 : ∀ b ∈ fp, FpOk X pins (upd H2 s₂.heap.objs.size (.lst [])) b := fun b hb => by
    have lt : b < s₂.heap.objs.size := by obtain ⟨o, ho, _⟩ := T.obj _ _ st2 b hb; exact Heap.lt_size ho
    refine ⟨?_, (f2 b hb).2⟩
    rw [upd_ne (Nat.ne_of_lt lt)]; exact (f2 b hb).1
  have fo3 : ∀ b ∈ fp, b < (s₂.heap.push { cls := .type "list", dict := none, data := .seq ([] : List Value).toArray }).objs.size := fun b hb => by
    obtain ⟨o, ho, _⟩ := T.obj _ _ st2 b hb
    rw [Heap.size_push]
    exact Nat.lt_succ_of_lt (Heap.lt_size ho)
  have up3 : ∀ b o, s₂.heap.get? b = some o → (s₂.heap.push { cls := .type "list", dict := none, data := .seq ([] : List Value).toArray }).get? b = some o := fun b o e => Heap.get?_push_of_some _ e
  generalize hH3 : upd H2 s₂.heap.objs.size (.lst []) = H3 at I3 R3 f3
  have hD3 : H3 s₂.heap.objs.size = some (.lst []) := by rw [← hH3]; exact upd_same
  have gD3 : G2 s₂.heap.objs.size = none := R2.sub.free hD
  have nD3 : n.H s₂.heap.objs.size = none := R2.al _ hD
  have own3 : Rel X.K n δ1 σ G2 (del H3 s₂.heap.objs.size) := by rw [← hH3, del_upd, del_none hD]; exact R2
  have kp3 : Same H2 H3 := by rw [← hH3]; exact same_upd hD _
  generalize s₂.heap.objs.size = D₀ at hD hD3 gD3 nD3 own3 ⊢
  have tn3 : ∀ h', (∀ b o, (s₂.heap.push { cls := .type "list", dict := none, data := .seq ([] : List Value).toArray }).get? b = some o → h'.get? b = some o) → tn 0 h' := fun h' k' => T.keep 0 _ _ st2 fun b _ o e => k' b o (up3 b o e)
  have osz : ({ s₂ with heap := s₂.heap.push { cls := .type "list", dict := none, data := .seq ([] : List Value).toArray } } : Shared).os = s₂.os := rfl
  generalize hs3 : ({ s₂ with heap := s₂.heap.push { cls := .type "list", dict := none, data := .seq ([] : List Value).toArray } } : Shared) = s₃ at I3
  have eh3 : s₃.heap = s₂.heap.push { cls := .type "list", dict := none, data := .seq ([] : List Value).toArray } := by rw [← hs3]
  rw [← eh3] at fo3 tn3 ⊢
  have ow := ownC_of (h := s₃.heap) hnc
  have hns₁ : (pushCells (s₃.heap.push { cls := .type "dict", data := .dict #[] }) scope.names).Ns s₃.heap.objs.size fun _ => none := (Heap.Ns.new s₃.heap (.type "dict")).keeps (pushCells_keeps _ _)
  have hk3 : ∀ b o, s₃.heap.get? b = some o → (pushCells (s₃.heap.push { cls := .type "dict", data := .dict #[] }) scope.names).get? b = some o := fun b o e => pushCells_keeps _ _ b o (Heap.get?_push_of_some _ e)
  generalize cellsFrom (s₃.heap.objs.size + 1) scope.names [] = own at ow ⊢
  generalize hh1 : pushCells (s₃.heap.push { cls := .type "dict", data := .dict #[] }) scope.names = h₁ at ow hns₁ hk3 ⊢
  have es4 : ({ s₂ with heap := h₁ } : Shared) = { s₃ with heap := h₁, toks := s₃.toks } := by rw [← hs3]
  have I4 : Inv (cxComp X N' scope (own ++ cl) s₃.heap.objs.size fp s₃ H3) [] (σ ++ List.replicate k none) H3 { s₃ with heap := h₁, toks := s₃.toks } := comp_inv I3 hkind hcl1 hcl2 ow hN hcap f3 fo3 hns₁ hk3
  have reset : ∀ {pins' : List (Addr × Obj)} {σ' : L2.St} {H' : Hp} {s' : Shared}, Inv (cxComp X N' scope (own ++ cl) s₃.heap.objs.size fp s₃ H3) pins' σ' H' s' → Inv (cxComp X N' scope (own ++ cl) s₃.heap.objs.size fp s₃ H3) pins' (σ ++ List.replicate k none) H' s' :=
    fun J' => comp_reset I3 hcl1 hcl2 ow.free hN hcap J'
  generalize own ++ cl = cl at I4 reset ⊢
  have fpok : ∀ {H' : Hp}, (∀ b ∈ fp, H' b = none) → ∀ b ∈ fp, FpOk (cxComp X N' scope cl s₃.heap.objs.size fp s₃ H3) [] H' b := fun hn b hb =>
    ⟨hn b hb, Nat.ne_of_lt (fo3 b hb), I4.ok.exfs b hb, .inl hb, (I4.ok.exf b hb).2, fun p hp => absurd (show p ∈ ([] : List (Addr × Obj)) from hp) (by simp)⟩
  obtain ⟨hG, hT, hE⟩ := hb cl s₃.heap.objs.size fp s₃ H3
  have loop : ∀ s₄ : Shared, s₄ = { s₃ with heap := h₁, toks := s₃.toks } →
      codeAny (model X.prog X.w) X.A (.compLoop (.ListComp elt [⟨target, iter, ifs, 0⟩] scope pos) 0 (.ref it) (.ref D₀) (compEnvC scope cl s₃.heap.objs.size X.env)) (compPost (model X.prog X.w) X.A X.xe use Qf (.ref D₀) s₃.heap.objs.size) s₄ := by
    rintro s₄ rfl
    refine compLoop_any (fun m s => ∃ (i : Nat) (H : Hp) (G : Hp) (ws : List V), i ≤ items.length ∧ m = items.length - i ∧ Inv (cxComp X N' scope cl s₃.heap.objs.size fp s₃ H3) [] (σ ++ List.replicate k none) H s ∧ tn i s.heap ∧ (∀ b ∈ fp, H b = none) ∧
      Rel X.K n δ1 σ G (del H D₀) ∧ Same H2 H ∧ Same G2 G ∧ H D₀ = some (.lst ws) ∧ G D₀ = none ∧ DenL X.K G ws ((items.take i).filterMap F)) ?_ items.length
      ⟨0, H3, G2, [], Nat.zero_le _, rfl, I4, tn3 _ hk3, fun b hb => (f3 b hb).1, own3, kp3, Same.refl _, hD3, gD3, .nil⟩
    rintro m s5 ⟨i, H5, G5, ws, hi, rfl, I5, st5, fr5, R5', kp5, sG5, hD5, gD5, dl5⟩
    have R5 := R5'.undel hD5
    by_cases hlt : i < items.length
    · refine thn (T.item (cxComp X N' scope cl s₃.heap.objs.size fp s₃ H3) rfl rfl rfl hc i [] s5 _ H5 _ I5 (fpok fr5) st5 (j2.go i G5 H5 sG5 R5.sub kp5 hlt)) fun r s6 ⟨u, hr, h6⟩ => ?_
      subst hr
      refine thn h6 fun _ s7 ⟨x, H7, I7, rx, y7, st7, fr7⟩ => ?_
      obtain ⟨G7, d, e7, hd, dx⟩ := j2.yl i G5 H5 x H7 sG5 R5.sub kp5 hlt y7
      have R7 := R5.ext e7
      have Rin := R7.inner k
      have I7' := I7.pinned (fpok fr7) (T.obj _ _ st7)
      have gD7 : ∀ {G' H' : Hp}, Ext G7 H7 G' H' → G' D₀ = none := fun {G' H'} e => by
        cases q : G' D₀ with
        | none => rfl
        | some o =>
          have z := (e7.trans e).fr D₀ o q gD5
          rw [hD5] at z; cases z
      -- behind a turn: the iterator's objects stand
      have keep : ∀ {σ' : L2.St} {H' : Hp} {s' : Shared}, Inv (cxComp X N' scope cl s₃.heap.objs.size fp s₃ H3) ([] ++ pinsAt fp s7.heap) σ' H' s' → tn (i + 1) s'.heap ∧ (∀ b ∈ fp, H' b = none) ∧ Inv (cxComp X N' scope cl s₃.heap.objs.size fp s₃ H3) [] (σ ++ List.replicate k none) H' s' := fun {σ' H' s'} J' => by
        refine ⟨T.keep _ _ _ st7 fun b hb o e => (J'.pin (b, o) (List.mem_append_right _ (List.mem_append_right _ (mem_pinsAt hb e)))).1, fun b hb => ?_, reset J'.unpinned⟩
        obtain ⟨o, e, _⟩ := T.obj _ _ st7 b hb
        exact (J'.pin (b, o) (List.mem_append_right _ (List.mem_append_right _ (mem_pinsAt hb e)))).2.1
      refine thn (hG _ s7 _ H7 x u (fun σ8 H8 => H8 = H7 ∧ ∃ δ8, Rel X.K ⟨G7, H7, fun _ => False⟩ δ8 σ8 G7 H7 ∧ tt δ8 fun b δ3 => if b = true then te δ3 fun y _ => F d = some y else F d = none) I7' rx
        ⟨_, _, G7, d, _, Rin, dx, hF d (List.mem_of_getElem? hd), fun δ8 σ8 R8 q8 => ⟨rfl, δ8, R8, q8⟩⟩) fun _ s8 ⟨σ8, H8, I8, e8, δ8, R8, q8⟩ => ?_
      subst e8
      refine thn (hT _ s8 σ8 _ (fun b H9 => ∃ G9 δ9, Rel X.K ⟨G7, H8, fun _ => False⟩ δ9 σ8 G9 H9 ∧ if b = true then te δ9 fun y _ => F d = some y else F d = none) I8 ⟨_, δ8, G7, _, R8, q8, fun b G9 H9 δ9 R9 _ q9 => ⟨G9, δ9, R9, q9⟩⟩) fun ok s9 ⟨H9, I9, G9, δ9, R9, q9⟩ => ?_
      cases ok with
      | false =>
        rw [if_neg Bool.false_ne_true] at q9 ⊢
        obtain ⟨k1, k2, k3⟩ := keep I9
        have e9 := R9.toExt
        refine ⟨items.length - (i + 1), by omega, i + 1, H9, G9, ws, hlt, rfl, k3, k1, k2, R5'.ext ((e7.trans e9).del (gD7 e9)), kp5.trans (e7.trans e9).hh, sG5.trans (e7.gg.trans e9.gg), e9.hh _ _ (e7.hh _ _ hD5), gD7 e9, ?_⟩
        rw [fm_take F items i d hd, q9]
        simpa using dl5.up (e7.gg.trans e9.gg)
      | true =>
        rw [if_pos rfl] at q9 ⊢
        refine thn (hE _ s9 σ8 H9 (fun v H10 => ∃ G10 y, (∃ δ10, Rel X.K ⟨G7, H8, fun _ => False⟩ δ10 σ8 G10 H10) ∧ Den X.K G10 v y ∧ F d = some y) I9 ⟨_, δ9, G9, _, R9, q9, fun v G10 H10 y δ10 R10 _ d10 q10 => ⟨G10, y, ⟨δ10, R10⟩, d10, q10⟩⟩) fun xv s10 ⟨v, H10, I10, rv, G10, y, ⟨δ10, R10⟩, dv, hy⟩ => ?_
        have e10 := R10.toExt
        have hD10 : H10 D₀ = some (.lst ws) := e10.hh _ _ (e7.hh _ _ hD5)
        have lenw : ws.length < sizeLine := by
          have l1 := fm_le F items (i + 1)
          rw [fm_take F items i d hd, hy, List.length_append] at l1
          have l2 := dl5.length
          simp only [Option.toList_some, List.length_singleton] at l1
          omega
        refine thn (mt_append (X := cxComp X N' scope cl s₃.heap.objs.size fp s₃ H3) _ s10 σ8 H10 (.ref D₀) [v] (.ref D₀) [xv] (fun _ H' => H' = upd H10 D₀ (.lst (ws ++ [v]))) I10 rfl (.cons rv .nil) ⟨D₀, ws, v, rfl, rfl, hD10, lenw, rfl⟩) fun _ s11 ⟨_, H11, I11, _, e11⟩ => ?_
        subst e11
        obtain ⟨k1, k2, k3⟩ := keep I11
        refine ⟨items.length - (i + 1), by omega, i + 1, _, G10, ws ++ [v], hlt, rfl, k3, k1, k2, (by rw [del_upd]; exact R5'.ext ((e7.trans e10).del (gD7 e10))), (fun b o z => by rw [upd_ne (ne_of_none z hD)]; exact (kp5.trans (e7.trans e10).hh) b o z), sG5.trans (e7.gg.trans e10.gg), upd_same, gD7 e10, ?_⟩
        rw [fm_take F items i d hd, hy]
        exact (dl5.up (e7.gg.trans e10.gg)).append (.cons dv .nil)
    · have ei : i = items.length := by omega
      subst ei
      refine thn (T.done (cxComp X N' scope cl s₃.heap.objs.size fp s₃ H3) rfl rfl rfl hc _ [] s5 _ H5 _ I5 (fpok fr5) st5 (j2.st _ G5 H5 sG5 R5.sub kp5 (Nat.le_refl _))) fun r s6 ⟨hr, I6⟩ => ?_
      subst hr
      obtain ⟨m, hm, _⟩ := I6.loc
      have Iin : Inv X pins σ H5 s6 := I3.call' (s' := s6) (ch := fp) I6.os (show Un (frs X.stack) fp H3 H5 s₃.heap s6.heap from I6.base) I6.hok I6.bare fun b hb => ⟨(f3 b hb).2.2.2.1, (f3 b hb).2.1, (f3 b hb).2.2.2.2.1, (f3 b hb).2.2.2.2.2⟩
      rw [List.take_length] at dl5
      exact fin D₀ s₃.heap.objs.size H5 s6 Iin (I3.fpOk (Nat.le_refl _) I6.free) ⟨m, hm⟩ (kk _ _ _ _ δ1 (R5'.know hD5) (sG2.trans (sG5.trans (same_upd gD5 _))) (.lst (SqL.of upd_same) (dl5.up (same_upd gD5 _))) hQ)
  rw [es4]
  exact codeAny_compStart_list (loop _ rfl) (T.self _ 0 _ _ _ (tn3 _ hk3) (loop _ rfl))
/-- the block's frame goes: nothing else has changed -/
theorem comp_end {X : Cx} {pins : List (Addr × Obj)} {s : Shared} {σ : L2.St} {H : Hp} {C : Addr} {h' : Heap} (I : Inv X pins σ H s) (f : FpOk X pins H C) (hs : Heap.SameBut C s.heap h') : Inv X pins σ H { s with heap := h' } := by
  have same : ∀ b o, b ≠ C → s.heap.get? b = some o → h'.get? b = some o := fun b o hb e => (hs.2 b hb).trans e
  have ne : ∀ b, b ∉ [C] → b ≠ C := fun b hb z => hb (by rw [z]; exact List.mem_singleton.mpr rfl)
  refine I.call' (s' := { s with heap := h' }) (ch := [C]) rfl ⟨fun b o e _ _ n3 => same b o (ne b n3) e, fun b o e _ _ n3 => ⟨o.slots, same b o (ne b n3) e⟩, fun b o _ n _ => n, fun b o e n3 => ⟨o, same b o (ne b n3) e⟩, fun _ _ e => e, fun _ _ _ e => e, fun b ps e => ⟨#[], by rw [Array.append_empty]; exact e⟩⟩ (fun a o e => ?_) I.bare fun b hb => ?_
  · have nC : ∀ b u, H b = some u → b ≠ C := fun b u q z => by rw [z, f.1] at q; cases q
    refine (I.hok a o e).stay (fun b u hb q => same b u ?_ q) (fun _ q => q) fun _ _ q => q
    rcases hb with rfl | hb
    · exact nC _ _ e
    · exact nC _ _ hb
  · rcases List.mem_singleton.mp hb with rfl
    exact ⟨f.2.2.2.1, f.2.1, f.2.2.2.2.1, f.2.2.2.2.2⟩
theorem de_comp {X : Cx} {elt iter target : Expr} {ifs : List Expr} {scope : Scope} {pos : Pos} {N' : List Str} (k : Nat) {ti : TId} {g : TGd} {tt : TTd} {te : TEd} (hc : X.calm = true) (hi : DIh X target iter ti)
    (hb : ∀ (cl : List (Str × Addr)) (C : Addr) (ex : List Addr) (s : Shared) (H : Hp), DG (cxComp X N' scope cl C ex s H) target g ∧ DTs (cxComp X N' scope cl C ex s H) ifs tt ∧ DE (cxComp X N' scope cl C ex s H) elt te)
    (hkind : scope.kind = .function) (hnames : ∀ y ∈ scope.names, y.2 = .local → scope.names.lookup y.1 = some .local) (hnc : ∀ x, (x, NameKind.free) ∈ scope.names → (x, NameKind.cell) ∉ scope.names) (hN : N'.length = X.N.length + k)
    (hcap : ∀ (i : Nat) (x : Str), N'[i]? = some x → i < X.N.length → Vis (relabel scope X.env) x → X.N[i]? = some x ∧ scope.names.lookup x = some .free ∧ X.env.scope.names.lookup x = some .cell)
    (hfr : ∀ x ∈ scope.names, x.2 = NameKind.free → X.env.scope.names.lookup x.1 = some .cell)
    (hs : ∀ x, foldedSetIterable iter X.env x = pure x := by intro _; rfl) : DE X (.ListComp elt [⟨target, iter, ifs, 0⟩] scope pos) (dComp k ti g tt te) := by
  rintro pins s σ H Q2 I q
  rw [eval_ListComp]
  exact comp_run k hc hi hb hkind hnames hnc hN hcap hfr hs (use := none) I q fun D₀ C H' s6 I6 f ⟨m, hm⟩ q6 => ⟨m, hm, fun h' hs' => ⟨.ref D₀, H', comp_end I6 f hs', rfl, q6⟩⟩
/-- x = [..]: the name is stored before the block's names go -/
theorem ds_comp {X : Cx} {elt iter target : Expr} {ifs : List Expr} {scope : Scope} {pos : Pos} {N' : List Str} (k : Nat) {ti : TId} {g : TGd} {tt : TTd} {te : TEd} (hc : X.calm = true) (hi : DIh X target iter ti)
    (hb : ∀ (cl : List (Str × Addr)) (C : Addr) (ex : List Addr) (s : Shared) (H : Hp), DG (cxComp X N' scope cl C ex s H) target g ∧ DTs (cxComp X N' scope cl C ex s H) ifs tt ∧ DE (cxComp X N' scope cl C ex s H) elt te)
    (hkind : scope.kind = .function) (hnames : ∀ y ∈ scope.names, y.2 = .local → scope.names.lookup y.1 = some .local) (hnc : ∀ x, (x, NameKind.free) ∈ scope.names → (x, NameKind.cell) ∉ scope.names) (hN : N'.length = X.N.length + k)
    (hcap : ∀ (i : Nat) (x : Str), N'[i]? = some x → i < X.N.length → Vis (relabel scope X.env) x → X.N[i]? = some x ∧ scope.names.lookup x = some .free ∧ X.env.scope.names.lookup x = some .cell)
    (hfr : ∀ x ∈ scope.names, x.2 = NameKind.free → X.env.scope.names.lookup x.1 = some .cell)
    (hs : ∀ x, foldedSetIterable iter X.env x = pure x) (i : Nat) {x : Str} {pos' pos2 : Pos} (hN2 : X.N.Nodup) (hi2 : X.N[i]? = some x) (hx : Loc X.env.scope x)
    (hsw : swapsWith (.ListComp elt [⟨target, iter, ifs, 0⟩] scope pos) (some (.Name x pos')) pos2.line X.env = pure true) (hf : X.fn x = true ∨ X.env.scope.names.lookup x = some .local) :
    DS X (.Assign [.Name x pos'] (.ListComp elt [⟨target, iter, ifs, 0⟩] scope pos) pos2) (dSet i (dComp k ti g tt te)) := by
  rintro pins s σ H F I ⟨n, δ, G, E, R, h, kk⟩
  rw [exec_Assign_Name_used _ _ _ _ hsw]
  refine wpAny_bind (wpAny_standAt (wpAny_bind ?_))
  show wpAny _ X.A (do let _ ← comprehension (.ListComp elt [⟨target, iter, ifs, 0⟩] scope pos) scope X.env _ (newList []) false (eval iter X.env) (some (assign (.Name x pos') X.env))) _ _ s
  refine wpAny_bind (wpAny_mono (comp_run k hc hi hb hkind hnames hnc hN hcap hfr hs (use := some (assign (.Name x pos') X.env)) (Qf := fun _ s' => SP X pins F .next s') (Q2 := fun v H' => F.nx (σ.set i (some v)) H') I
    ⟨n, δ, G, _, R, h, fun v G1 H1 d δ1 R1 s1 d1 h1 => kk.nx _ _ G1 H1 (R1.set i d1) h1⟩ fun D₀ C H' s6 I6 f hm q6 => ?_) (fun _ s' hq => wpAny_pure (wpAny_pure hq)) fun _ _ e => e)
  obtain ⟨m, hm⟩ := hm
  refine wpAny_assign_Name (store_ok2 (v := .ref D₀) I6 hN2 hi2 hx rfl (fun s7 I7 ⟨a, sb, ha⟩ => ⟨m, hm.sameBut sb ?_, fun h' hs' => ⟨_, H', comp_end I7 f hs', q6⟩⟩) hf)
  rcases ha with rfl | ha
  · exact f.2.1
  · exact Ne.symm (f.2.2.2.2.1 x a ha)
end Dl
namespace Dl
open PySem PySem.Spec PyProof.Rows L2
/-- the scope of a block within the scope o -/
def rlb (sc o : Scope) : Scope :=
  { sc with names := sc.names.map fun (n, k) => if (k == .free && o.kind == .function && o.names.lookup n == some .cell) then (n, .cell) else (n, k) }
/-- what a comprehension's scope asks, to be decided -/
def compOk (N : List Str) (sc : Scope) (N' : List Str) (scope : Scope) (k : Nat) : Bool :=
  (scope.kind == .function) && scope.names.all (fun y => (y.2 != .local) || (scope.names.lookup y.1 == some .local)) && scope.names.all (fun y => (y.2 != .free) || !(scope.names.any fun z => z.1 == y.1 && z.2 == .cell)) && (N'.length == N.length + k) &&
  scope.names.all (fun y => (y.2 != .free) || (sc.names.lookup y.1 == some .cell)) &&
  (List.range N.length).all (fun i => match N'[i]? with
    | some x => (match scope.names.lookup x with
      | some .local => false
      | some .cell => false
      | some .free => N[i]? == some x
      | _ => true)
    | none => true)
theorem de_compKH {X : Cx} {elt iter target : Expr} {ifs : List Expr} {scope : Scope} {pos : Pos} (N' : List Str) (k : Nat) {ti : TId} {g : TGd} {tt : TTd} {te : TEd} (hc : X.calm = true) (hi : DIh X target iter ti)
    (hb : ∀ (cl : List (Str × Addr)) (C : Addr) (ex : List Addr) (s : Shared) (H : Hp), DG (cxComp X N' scope cl C ex s H) target g ∧ DTs (cxComp X N' scope cl C ex s H) ifs tt ∧ DE (cxComp X N' scope cl C ex s H) elt te)
    (ok : compOk X.N X.env.scope N' scope k = true)
    (hs : ∀ x, foldedSetIterable iter X.env x = pure x := by intro _; rfl) : DE X (.ListComp elt [⟨target, iter, ifs, 0⟩] scope pos) (dComp k ti g tt te) := by
  unfold compOk at ok
  simp only [Bool.and_eq_true, List.all_eq_true, Bool.or_eq_true, bne_iff_ne, ne_eq, beq_iff_eq] at ok
  obtain ⟨⟨⟨⟨⟨h1, h2⟩, h30⟩, h4⟩, h5⟩, h6⟩ := ok
  have h3 : ∀ x, (x, NameKind.free) ∈ scope.names → (x, NameKind.cell) ∉ scope.names := fun x hx hc => by
    have z := (h30 _ hx).resolve_left fun z => z rfl
    have w : (scope.names.any fun z => z.1 == x && z.2 == .cell) = true := List.any_eq_true.mpr ⟨_, hc, by simp⟩
    rw [w] at z; cases z
  refine de_comp k hc hi hb (by cases q : scope.kind <;> rw [q] at h1 <;> first | rfl | cases h1) (fun y hy hl => (h2 y hy).resolve_left fun z => z hl) h3 h4 (fun i x e hi hv => ?_) (fun x hx hf => (h5 x hx).resolve_left fun z => z hf) hs
  have h6' := h6 i (List.mem_range.mpr hi)
  rw [e] at h6'
  dsimp only at h6'
  have hv' : ∃ kd, scope.names.lookup x = some kd ∧ (kd = .local ∨ kd = .cell ∨ kd = .free) := by
    have kin : (relabel scope X.env).names.lookup x = _ := lookup_relabel
    unfold Vis at hv
    rw [kin] at hv
    cases q : scope.names.lookup x with
    | none => rw [q] at hv; simp at hv
    | some kd =>
      refine ⟨kd, rfl, ?_⟩
      rw [q] at hv
      cases kd <;> simp at hv ⊢
  obtain ⟨kd, hk, hkd⟩ := hv'
  rw [hk] at h6'
  rcases hkd with rfl | rfl | rfl
  · simp at h6'
  · simp at h6'
  · have e1 : X.N[i]? = some x := by simpa using h6'
    exact ⟨e1, hk, (h5 _ (mem_of_look hk)).resolve_left fun z => z rfl⟩
theorem ds_compKH {X : Cx} {elt iter target : Expr} {ifs : List Expr} {scope : Scope} {pos : Pos} (N' : List Str) (k i : Nat) {ti : TId} {g : TGd} {tt : TTd} {te : TEd} (hc : X.calm = true) (hi : DIh X target iter ti)
    (hb : ∀ (cl : List (Str × Addr)) (C : Addr) (ex : List Addr) (s : Shared) (H : Hp), DG (cxComp X N' scope cl C ex s H) target g ∧ DTs (cxComp X N' scope cl C ex s H) ifs tt ∧ DE (cxComp X N' scope cl C ex s H) elt te)
    (ok : compOk X.N X.env.scope N' scope k = true)
    (hs : ∀ x, foldedSetIterable iter X.env x = pure x := by intro _; rfl) {x : Str} {pos' pos2 : Pos} (hN2 : X.N.Nodup) (hi2 : X.N[i]? = some x := by rfl) (hx : Loc X.env.scope x := by first | exact Or.inl rfl | exact Or.inr rfl)
    (hsw : swapsWith (.ListComp elt [⟨target, iter, ifs, 0⟩] scope pos) (some (.Name x pos')) pos2.line X.env = pure true := by rfl) (hf : X.fn x = true ∨ X.env.scope.names.lookup x = some .local := by first | exact .inl rfl | exact .inr rfl | assumption) :
    DS X (.Assign [.Name x pos'] (.ListComp elt [⟨target, iter, ifs, 0⟩] scope pos) pos2) (dSet i (dComp k ti g tt te)) := by
  unfold compOk at ok
  simp only [Bool.and_eq_true, List.all_eq_true, Bool.or_eq_true, bne_iff_ne, ne_eq, beq_iff_eq] at ok
  obtain ⟨⟨⟨⟨⟨h1, h2⟩, h30⟩, h4⟩, h5⟩, h6⟩ := ok
  have h3 : ∀ x, (x, NameKind.free) ∈ scope.names → (x, NameKind.cell) ∉ scope.names := fun x hx hc => by
    have z := (h30 _ hx).resolve_left fun z => z rfl
    have w : (scope.names.any fun z => z.1 == x && z.2 == .cell) = true := List.any_eq_true.mpr ⟨_, hc, by simp⟩
    rw [w] at z; cases z
  refine ds_comp k hc hi hb (by cases q : scope.kind <;> rw [q] at h1 <;> first | rfl | cases h1) (fun y hy hl => (h2 y hy).resolve_left fun z => z hl) h3 h4 (fun i x e hi hv => ?_) (fun x hx hf => (h5 x hx).resolve_left fun z => z hf) hs i hN2 hi2 hx hsw hf
  have h6' := h6 i (List.mem_range.mpr hi)
  rw [e] at h6'
  dsimp only at h6'
  have hv' : ∃ kd, scope.names.lookup x = some kd ∧ (kd = .local ∨ kd = .cell ∨ kd = .free) := by
    have kin : (relabel scope X.env).names.lookup x = _ := lookup_relabel
    unfold Vis at hv
    rw [kin] at hv
    cases q : scope.names.lookup x with
    | none => rw [q] at hv; simp at hv
    | some kd =>
      refine ⟨kd, rfl, ?_⟩
      rw [q] at hv
      cases kd <;> simp at hv ⊢
  obtain ⟨kd, hk, hkd⟩ := hv'
  rw [hk] at h6'
  rcases hkd with rfl | rfl | rfl
  · simp at h6'
  · simp at h6'
  · have e1 : X.N[i]? = some x := by simpa using h6'
    exact ⟨e1, hk, (h5 _ (mem_of_look hk)).resolve_left fun z => z rfl⟩
/-! ### targets (a, b) -/
theorem de_compK {X : Cx} {elt iter target : Expr} {ifs : List Expr} {scope : Scope} {pos : Pos} (N' : List Str) (k : Nat) {ti : TId} {g : TGd} {tt : TTd} {te : TEd} (hc : X.calm = true) (hi : DI X target iter ti)
    (hb : ∀ (cl : List (Str × Addr)) (C : Addr) (ex : List Addr) (s : Shared) (H : Hp), DG (cxComp X N' scope cl C ex s H) target g ∧ DTs (cxComp X N' scope cl C ex s H) ifs tt ∧ DE (cxComp X N' scope cl C ex s H) elt te)
    (ok : compOk X.N X.env.scope N' scope k = true)
    (hs : ∀ x, foldedSetIterable iter X.env x = pure x := by intro _; rfl) : DE X (.ListComp elt [⟨target, iter, ifs, 0⟩] scope pos) (dComp k ti g tt te) := de_compKH N' k hc (di_h hi) hb ok hs
theorem ds_compK {X : Cx} {elt iter target : Expr} {ifs : List Expr} {scope : Scope} {pos : Pos} (N' : List Str) (k i : Nat) {ti : TId} {g : TGd} {tt : TTd} {te : TEd} (hc : X.calm = true) (hi : DI X target iter ti)
    (hb : ∀ (cl : List (Str × Addr)) (C : Addr) (ex : List Addr) (s : Shared) (H : Hp), DG (cxComp X N' scope cl C ex s H) target g ∧ DTs (cxComp X N' scope cl C ex s H) ifs tt ∧ DE (cxComp X N' scope cl C ex s H) elt te)
    (ok : compOk X.N X.env.scope N' scope k = true)
    (hs : ∀ x, foldedSetIterable iter X.env x = pure x := by intro _; rfl) {x : Str} {pos' pos2 : Pos} (hN2 : X.N.Nodup) (hi2 : X.N[i]? = some x := by rfl) (hx : Loc X.env.scope x := by first | exact Or.inl rfl | exact Or.inr rfl)
    (hsw : swapsWith (.ListComp elt [⟨target, iter, ifs, 0⟩] scope pos) (some (.Name x pos')) pos2.line X.env = pure true := by rfl) (hf : X.fn x = true ∨ X.env.scope.names.lookup x = some .local := by first | exact .inl rfl | exact .inr rfl | assumption) :
    DS X (.Assign [.Name x pos'] (.ListComp elt [⟨target, iter, ifs, 0⟩] scope pos) pos2) (dSet i (dComp k ti g tt te)) := ds_compKH N' k i hc (di_h hi) hb ok hs hN2 hi2 hx hsw hf
section
variable {X : Cx} {pos : Pos}
def gdTup2 (i j : Nat) : TGd := fun d δ Q => match d with
  | .tup [x, y] => Q ((δ.set i (.sh x)).set j (.sh y))
  | _ => False
theorem dg_tup2 (i j : Nat) {x y : Str} {px py : Pos} {kk : Nat} (hc : X.calm = true) (hN : X.N.Nodup) (hi : X.N[i]? = some x := by rfl) (hx : Loc X.env.scope x := by first | exact Or.inl rfl | exact Or.inr rfl) (hj : X.N[j]? = some y := by rfl) (hy : Loc X.env.scope y := by first | exact Or.inl rfl | exact Or.inr rfl)
    (hfx : X.fn x = true ∨ X.env.scope.names.lookup x = some .local := by first | exact .inl rfl | exact .inr rfl) (hfy : X.fn y = true ∨ X.env.scope.names.lookup y = some .local := by first | exact .inl rfl | exact .inr rfl)
    (hs1 : (assignEach [.Name x px, .Name y py] X.env).map (·.2) = assign (.Name x px) X.env :: (assignEach [.Name y py] X.env).map (·.2) := by rfl) (hs2 : (assignEach [.Name y py] X.env).map (·.2) = assign (.Name y py) X.env :: (assignEach [] X.env).map (·.2) := by rfl)
    (hn : (assignEach [.Name x px, .Name y py] X.env).length = 2 := by rfl) (hst : (assignEach [.Name x px, .Name y py] X.env).findIdx? (·.1) = none := by rfl) : DG X (.Tuple [.Name x px, .Name y py] kk pos) (gdTup2 i j) :=
  pg_imp (pg_tup hc (pgs_cons (pg_name (i := i) hN hi hx hfx) (pgs_cons (pg_name (i := j) hN hj hy hfy) pgs_nil hs2) hs1) hn hst) fun v σ H Q2 ⟨n, δ, G, d, Q, R, hv, h, k⟩ => by
    unfold gdTup2 at h
    split at h
    · obtain ⟨a, vs, rfl, ha, la⟩ := hv.tup_inv
      cases la with
      | cons d1 la => cases la with
        | cons d2 la =>
          cases la
          exact ⟨a, _, rfl, Same.tupS R.sub ha, rfl, _, _, rfl, _, _, rfl, rfl, k _ _ ((R.set i d1).set j d2) h⟩
    · exact h.elim
end
end Dl

namespace Dl
open PySem PySem.Spec PyProof.Rows L2
/-! ## isinstance, chains, a written list times a number -/
def is_int : D → Bool
  | .non => false
  | .bl _ => true
  | .int _ => true
  | .str _ => false
  | .tup _ => false
  | .lst _ => false
def is_bool : D → Bool
  | .non => false
  | .bl _ => true
  | .int _ => false
  | .str _ => false
  | .tup _ => false
  | .lst _ => false
def is_tuple : D → Bool
  | .non => false
  | .bl _ => false
  | .int _ => false
  | .str _ => false
  | .tup _ => true
  | .lst _ => false
def is_list : D → Bool
  | .non => false
  | .bl _ => false
  | .int _ => false
  | .str _ => false
  | .tup _ => false
  | .lst _ => true
def is_str : D → Bool
  | .non => false
  | .bl _ => false
  | .int _ => false
  | .str _ => true
  | .tup _ => false
  | .lst _ => false
section
variable {X : Cx} {e : Expr} {te : TEd} {pos p q : Pos}
def rIsi (K : PySem.W.Frag) (T : String) (f : D → Bool) : List V → Hp → VK → Prop := fun xs H Q => ∃ x G d, xs = [x, .ty T] ∧ Same G H ∧ Den K G x d ∧ Q (.bl (f d)) H
def dIsi (f : D → Bool) (te : TEd) : TEd := fun δ Q => te δ fun d δ1 => Q (.bl (f d)) δ1
theorem call_isi_int : CallR X (.builtin "isinstance") (rIsi X.K "int" is_int) := by
  rintro pins s σ H xs us Q I r ⟨x, G, d, rfl, sub, dx, q⟩
  obtain ⟨u, v, rfl, ru, rv⟩ := r.two
  obtain rfl : v = .type "int" := rv
  cases dx with
  | non => cases ru; exact IsiPair.NoneType_int ⟨.bl false, H, I.tok _, rfl, q⟩
  | bl b => cases ru; exact IsiPair.bool_int ⟨.bl true, H, I, rfl, q⟩
  | int i => obtain ⟨t, rfl⟩ := ru; exact IsiPair.int_int ⟨.bl true, H, I, rfl, q⟩
  | str i => obtain ⟨t, rfl⟩ := ru; exact IsiPair.str_int ⟨.bl false, H, I.tok _, rfl, q⟩
  | tup h l =>
    cases ru
    obtain ⟨its, _, ⟨o, ho, hc, _⟩, _⟩ := I.tuple (Same.tupS sub h)
    exact IsiPair.tuple_int ho hc ⟨.bl false, H, I.tok _, rfl, q⟩
  | lst h l =>
    cases ru
    obtain ⟨its, _, ⟨o, n, ho, hc, _⟩, _⟩ := I.list (sub.seq h)
    exact IsiPair.list_int ho hc ⟨.bl false, H, I.tok _, rfl, q⟩
theorem de_isi_int (hm : X.mg "isinstance" = none) (ht : X.mg "int" = none) (he : DE X e te) (hg : Gl X "isinstance" := by rfl) (hgt : Gl X "int" := by rfl) (h1 : starEach [e, .Name "int" q] X.env = (false, eval e X.env) :: starEach [.Name "int" q] X.env := by rfl)
    (h2 : starEach [.Name "int" q] X.env = (false, eval (.Name "int" q) X.env) :: starEach [] X.env := by rfl) (hpl : (backTo pos (starEach [.Name "int" q] X.env)).any (·.1) = false := by rfl) : DE X (.Call (.Name "isinstance" p) [e, .Name "int" q] [] pos) (dIsi is_int te) :=
  pe_imp (pe_callB call_isi_int hg hm (by rfl) (pa_cons he (pa_cons (pe_bltn (v := .ty "int") hgt ht (by rfl) rfl) pa_nil h2) h1) (by decide) (by decide) h1 hpl) fun σ H Q2 ⟨n, δ, G, Q, R, h, k⟩ =>
    ⟨n, δ, G, _, R, h, fun v G1 H1 d δ1 R1 s1 d1 h1 => ⟨v, G1, d, rfl, R1.sub, d1, k _ G1 H1 _ δ1 R1 s1 (.bl _) h1⟩⟩
theorem call_isi_bool : CallR X (.builtin "isinstance") (rIsi X.K "bool" is_bool) := by
  rintro pins s σ H xs us Q I r ⟨x, G, d, rfl, sub, dx, q⟩
  obtain ⟨u, v, rfl, ru, rv⟩ := r.two
  obtain rfl : v = .type "bool" := rv
  cases dx with
  | non => cases ru; exact IsiPair.NoneType_bool ⟨.bl false, H, I.tok _, rfl, q⟩
  | bl b => cases ru; exact IsiPair.bool_bool ⟨.bl true, H, I, rfl, q⟩
  | int i => obtain ⟨t, rfl⟩ := ru; exact IsiPair.int_bool ⟨.bl false, H, I.tok _, rfl, q⟩
  | str i => obtain ⟨t, rfl⟩ := ru; exact IsiPair.str_bool ⟨.bl false, H, I.tok _, rfl, q⟩
  | tup h l =>
    cases ru
    obtain ⟨its, _, ⟨o, ho, hc, _⟩, _⟩ := I.tuple (Same.tupS sub h)
    exact IsiPair.tuple_bool ho hc ⟨.bl false, H, I.tok _, rfl, q⟩
  | lst h l =>
    cases ru
    obtain ⟨its, _, ⟨o, n, ho, hc, _⟩, _⟩ := I.list (sub.seq h)
    exact IsiPair.list_bool ho hc ⟨.bl false, H, I.tok _, rfl, q⟩
theorem de_isi_bool (hm : X.mg "isinstance" = none) (ht : X.mg "bool" = none) (he : DE X e te) (hg : Gl X "isinstance" := by rfl) (hgt : Gl X "bool" := by rfl) (h1 : starEach [e, .Name "bool" q] X.env = (false, eval e X.env) :: starEach [.Name "bool" q] X.env := by rfl)
    (h2 : starEach [.Name "bool" q] X.env = (false, eval (.Name "bool" q) X.env) :: starEach [] X.env := by rfl) (hpl : (backTo pos (starEach [.Name "bool" q] X.env)).any (·.1) = false := by rfl) : DE X (.Call (.Name "isinstance" p) [e, .Name "bool" q] [] pos) (dIsi is_bool te) :=
  pe_imp (pe_callB call_isi_bool hg hm (by rfl) (pa_cons he (pa_cons (pe_bltn (v := .ty "bool") hgt ht (by rfl) rfl) pa_nil h2) h1) (by decide) (by decide) h1 hpl) fun σ H Q2 ⟨n, δ, G, Q, R, h, k⟩ =>
    ⟨n, δ, G, _, R, h, fun v G1 H1 d δ1 R1 s1 d1 h1 => ⟨v, G1, d, rfl, R1.sub, d1, k _ G1 H1 _ δ1 R1 s1 (.bl _) h1⟩⟩
theorem call_isi_tuple : CallR X (.builtin "isinstance") (rIsi X.K "tuple" is_tuple) := by
  rintro pins s σ H xs us Q I r ⟨x, G, d, rfl, sub, dx, q⟩
  obtain ⟨u, v, rfl, ru, rv⟩ := r.two
  obtain rfl : v = .type "tuple" := rv
  cases dx with
  | non => cases ru; exact IsiPair.NoneType_tuple ⟨.bl false, H, I.tok _, rfl, q⟩
  | bl b => cases ru; exact IsiPair.bool_tuple ⟨.bl false, H, I.tok _, rfl, q⟩
  | int i => obtain ⟨t, rfl⟩ := ru; exact IsiPair.int_tuple ⟨.bl false, H, I.tok _, rfl, q⟩
  | str i => obtain ⟨t, rfl⟩ := ru; exact IsiPair.str_tuple ⟨.bl false, H, I.tok _, rfl, q⟩
  | tup h l =>
    cases ru
    obtain ⟨its, _, ⟨o, ho, hc, _⟩, _⟩ := I.tuple (Same.tupS sub h)
    exact IsiPair.tuple_tuple ho hc ⟨.bl true, H, I, rfl, q⟩
  | lst h l =>
    cases ru
    obtain ⟨its, _, ⟨o, n, ho, hc, _⟩, _⟩ := I.list (sub.seq h)
    exact IsiPair.list_tuple ho hc ⟨.bl false, H, I.tok _, rfl, q⟩
theorem de_isi_tuple (hm : X.mg "isinstance" = none) (ht : X.mg "tuple" = none) (he : DE X e te) (hg : Gl X "isinstance" := by rfl) (hgt : Gl X "tuple" := by rfl) (h1 : starEach [e, .Name "tuple" q] X.env = (false, eval e X.env) :: starEach [.Name "tuple" q] X.env := by rfl)
    (h2 : starEach [.Name "tuple" q] X.env = (false, eval (.Name "tuple" q) X.env) :: starEach [] X.env := by rfl) (hpl : (backTo pos (starEach [.Name "tuple" q] X.env)).any (·.1) = false := by rfl) : DE X (.Call (.Name "isinstance" p) [e, .Name "tuple" q] [] pos) (dIsi is_tuple te) :=
  pe_imp (pe_callB call_isi_tuple hg hm (by rfl) (pa_cons he (pa_cons (pe_bltn (v := .ty "tuple") hgt ht (by rfl) rfl) pa_nil h2) h1) (by decide) (by decide) h1 hpl) fun σ H Q2 ⟨n, δ, G, Q, R, h, k⟩ =>
    ⟨n, δ, G, _, R, h, fun v G1 H1 d δ1 R1 s1 d1 h1 => ⟨v, G1, d, rfl, R1.sub, d1, k _ G1 H1 _ δ1 R1 s1 (.bl _) h1⟩⟩
theorem call_isi_list : CallR X (.builtin "isinstance") (rIsi X.K "list" is_list) := by
  rintro pins s σ H xs us Q I r ⟨x, G, d, rfl, sub, dx, q⟩
  obtain ⟨u, v, rfl, ru, rv⟩ := r.two
  obtain rfl : v = .type "list" := rv
  cases dx with
  | non => cases ru; exact IsiPair.NoneType_list ⟨.bl false, H, I.tok _, rfl, q⟩
  | bl b => cases ru; exact IsiPair.bool_list ⟨.bl false, H, I.tok _, rfl, q⟩
  | int i => obtain ⟨t, rfl⟩ := ru; exact IsiPair.int_list ⟨.bl false, H, I.tok _, rfl, q⟩
  | str i => obtain ⟨t, rfl⟩ := ru; exact IsiPair.str_list ⟨.bl false, H, I.tok _, rfl, q⟩
  | tup h l =>
    cases ru
    obtain ⟨its, _, ⟨o, ho, hc, _⟩, _⟩ := I.tuple (Same.tupS sub h)
    exact IsiPair.tuple_list ho hc ⟨.bl false, H, I.tok _, rfl, q⟩
  | lst h l =>
    cases ru
    obtain ⟨its, _, ⟨o, n, ho, hc, _⟩, _⟩ := I.list (sub.seq h)
    exact IsiPair.list_list ho hc ⟨.bl true, H, I, rfl, q⟩
theorem de_isi_list (hm : X.mg "isinstance" = none) (ht : X.mg "list" = none) (he : DE X e te) (hg : Gl X "isinstance" := by rfl) (hgt : Gl X "list" := by rfl) (h1 : starEach [e, .Name "list" q] X.env = (false, eval e X.env) :: starEach [.Name "list" q] X.env := by rfl)
    (h2 : starEach [.Name "list" q] X.env = (false, eval (.Name "list" q) X.env) :: starEach [] X.env := by rfl) (hpl : (backTo pos (starEach [.Name "list" q] X.env)).any (·.1) = false := by rfl) : DE X (.Call (.Name "isinstance" p) [e, .Name "list" q] [] pos) (dIsi is_list te) :=
  pe_imp (pe_callB call_isi_list hg hm (by rfl) (pa_cons he (pa_cons (pe_bltn (v := .ty "list") hgt ht (by rfl) rfl) pa_nil h2) h1) (by decide) (by decide) h1 hpl) fun σ H Q2 ⟨n, δ, G, Q, R, h, k⟩ =>
    ⟨n, δ, G, _, R, h, fun v G1 H1 d δ1 R1 s1 d1 h1 => ⟨v, G1, d, rfl, R1.sub, d1, k _ G1 H1 _ δ1 R1 s1 (.bl _) h1⟩⟩
theorem call_isi_str : CallR X (.builtin "isinstance") (rIsi X.K "str" is_str) := by
  rintro pins s σ H xs us Q I r ⟨x, G, d, rfl, sub, dx, q⟩
  obtain ⟨u, v, rfl, ru, rv⟩ := r.two
  obtain rfl : v = .type "str" := rv
  cases dx with
  | non => cases ru; exact IsiPair.NoneType_str ⟨.bl false, H, I.tok _, rfl, q⟩
  | bl b => cases ru; exact IsiPair.bool_str ⟨.bl false, H, I.tok _, rfl, q⟩
  | int i => obtain ⟨t, rfl⟩ := ru; exact IsiPair.int_str ⟨.bl false, H, I.tok _, rfl, q⟩
  | str i => obtain ⟨t, rfl⟩ := ru; exact IsiPair.str_str ⟨.bl true, H, I, rfl, q⟩
  | tup h l =>
    cases ru
    obtain ⟨its, _, ⟨o, ho, hc, _⟩, _⟩ := I.tuple (Same.tupS sub h)
    exact IsiPair.tuple_str ho hc ⟨.bl false, H, I.tok _, rfl, q⟩
  | lst h l =>
    cases ru
    obtain ⟨its, _, ⟨o, n, ho, hc, _⟩, _⟩ := I.list (sub.seq h)
    exact IsiPair.list_str ho hc ⟨.bl false, H, I.tok _, rfl, q⟩
theorem de_isi_str (hm : X.mg "isinstance" = none) (ht : X.mg "str" = none) (he : DE X e te) (hg : Gl X "isinstance" := by rfl) (hgt : Gl X "str" := by rfl) (h1 : starEach [e, .Name "str" q] X.env = (false, eval e X.env) :: starEach [.Name "str" q] X.env := by rfl)
    (h2 : starEach [.Name "str" q] X.env = (false, eval (.Name "str" q) X.env) :: starEach [] X.env := by rfl) (hpl : (backTo pos (starEach [.Name "str" q] X.env)).any (·.1) = false := by rfl) : DE X (.Call (.Name "isinstance" p) [e, .Name "str" q] [] pos) (dIsi is_str te) :=
  pe_imp (pe_callB call_isi_str hg hm (by rfl) (pa_cons he (pa_cons (pe_bltn (v := .ty "str") hgt ht (by rfl) rfl) pa_nil h2) h1) (by decide) (by decide) h1 hpl) fun σ H Q2 ⟨n, δ, G, Q, R, h, k⟩ =>
    ⟨n, δ, G, _, R, h, fun v G1 H1 d δ1 R1 s1 d1 h1 => ⟨v, G1, d, rfl, R1.sub, d1, k _ G1 H1 _ δ1 R1 s1 (.bl _) h1⟩⟩
theorem is_int_non : is_int (D.non) = false := rfl
theorem is_int_bl {b : Bool} : is_int (D.bl b) = true := rfl
theorem is_int_int {i : Int} : is_int (D.int i) = true := rfl
theorem is_int_str {x : Str} : is_int (D.str x) = false := rfl
theorem is_int_tup {l : List D} : is_int (D.tup l) = false := rfl
theorem is_int_lst {l : List D} : is_int (D.lst l) = false := rfl
theorem is_bool_non : is_bool (D.non) = false := rfl
theorem is_bool_bl {b : Bool} : is_bool (D.bl b) = true := rfl
theorem is_bool_int {i : Int} : is_bool (D.int i) = false := rfl
theorem is_bool_str {x : Str} : is_bool (D.str x) = false := rfl
theorem is_bool_tup {l : List D} : is_bool (D.tup l) = false := rfl
theorem is_bool_lst {l : List D} : is_bool (D.lst l) = false := rfl
theorem is_tuple_non : is_tuple (D.non) = false := rfl
theorem is_tuple_bl {b : Bool} : is_tuple (D.bl b) = false := rfl
theorem is_tuple_int {i : Int} : is_tuple (D.int i) = false := rfl
theorem is_tuple_str {x : Str} : is_tuple (D.str x) = false := rfl
theorem is_tuple_tup {l : List D} : is_tuple (D.tup l) = true := rfl
theorem is_tuple_lst {l : List D} : is_tuple (D.lst l) = false := rfl
theorem is_list_non : is_list (D.non) = false := rfl
theorem is_list_bl {b : Bool} : is_list (D.bl b) = false := rfl
theorem is_list_int {i : Int} : is_list (D.int i) = false := rfl
theorem is_list_str {x : Str} : is_list (D.str x) = false := rfl
theorem is_list_tup {l : List D} : is_list (D.tup l) = false := rfl
theorem is_list_lst {l : List D} : is_list (D.lst l) = true := rfl
theorem is_str_non : is_str (D.non) = false := rfl
theorem is_str_bl {b : Bool} : is_str (D.bl b) = false := rfl
theorem is_str_int {i : Int} : is_str (D.int i) = false := rfl
theorem is_str_str {x : Str} : is_str (D.str x) = true := rfl
theorem is_str_tup {l : List D} : is_str (D.tup l) = false := rfl
theorem is_str_lst {l : List D} : is_str (D.lst l) = false := rfl

/-! ### [..] * n -/
variable {es : List Expr} {b : Expr} {tb : TEd} {ta : TAd}
def dRep (ta : TAd) (tb : TEd) : TEd := fun δ Q => ta δ fun xs δ1 => xs.length ≤ 1000 ∧ tb δ1 fun y δ2 => match y with
  | .int k => -1000000 ≤ k ∧ k ≤ 10000 ∧ Q (.lst (List.replicate k.toNat xs).flatten) δ2
  | _ => False
theorem DenL.rep {K : PySem.W.Frag} {G : Hp} {vs : List V} {ds : List D} (h : DenL K G vs ds) : ∀ k : Nat, DenL K G (List.replicate k vs).flatten (List.replicate k ds).flatten
  | 0 => .nil
  | k + 1 => by
    rw [List.replicate_succ, List.flatten_cons, List.replicate_succ, List.flatten_cons]
    exact h.append (DenL.rep h k)
theorem de_rep {lp : Pos} (ha : DA X es ta) (hb : DE X b tb) : DE X (.BinOp (.List es lp) .Mult b pos) (dRep ta tb) :=
  pe_imp (pe_op op_rep (L2.pe_lst ha) hb) fun σ H Q2 ⟨n, δ, G, Q, R, h, k⟩ => ⟨n, δ, G, _, R, h, fun vs G1 H1 ds δ1 R1 s1 d1 ⟨h1, h2⟩ => ⟨by rw [d1.length]; exact Nat.le_trans h1 (by decide), fun p hp => by
    have sG : Same G1 (upd G1 p (.lst vs)) := same_upd (R1.sub.free hp) _
    refine ⟨n, δ1, upd G1 p (.lst vs), _, R1.laid hp _, h2, fun w G3 H3 y δ3 R3 s3 d3 h3 => ?_⟩
    split at h3
    · rename_i i
      cases d3.int_inv
      have hp3 : H3 p = some (.lst vs) := R3.sub _ _ (s3 _ _ upd_same)
      have hl := d1.length
      have hk : vs.length * i.toNat ≤ sizeLine := by
        have : vs.length * i.toNat ≤ 1000 * 10000 := Nat.mul_le_mul (by omega) (by omega)
        exact Nat.le_trans this (by decide)
      refine ⟨p, i, vs, rfl, rfl, hp3, by omega, by omega, hk, fun q hq => ?_⟩
      exact k _ _ _ _ δ3 (R3.laid hq _) (s1.trans (sG.trans (s3.trans (same_upd (R3.sub.free hq) _)))) (.lst (SqL.of upd_same) (((d1.up (sG.trans s3)).rep _).up (same_upd (R3.sub.free hq) _))) h3.2.2
    · exact h3.elim⟩⟩
/-! ### a < b <= c -/
variable {a c : Expr} {ta' tc : TEd}
def dChain (p p' : Int → Int → Bool) (ta tb tc : TEd) : TEd := fun δ Q => ta δ fun x δ1 => tb δ1 fun y δ2 => match x, y with
  | .int i, .int j => if p i j = true then tc δ2 fun z δ3 => match z with
      | .int k => Q (.bl (p' j k)) δ3
      | _ => False
    else Q (.bl false) δ2
  | _, _ => False
theorem chain_lift {g g' : Int → Int → Bool} : ∀ σ H Q, lE X.K (dChain g g' ta' tb tc) σ H Q → tChain (rI0 fun i j => .bl (g i j)) (rI0 fun i j => .bl (g' i j)) (lE X.K ta') (lE X.K tb) (lE X.K tc) σ H Q := fun σ H Q2 ⟨n, δ, G, Q, R, h, k⟩ =>
  ⟨n, δ, G, _, R, h, fun v G1 H1 x δ1 R1 s1 d1 h1 => ⟨n, δ1, G1, _, R1, h1, fun w G2 H2 y δ2 R2 s2 d2 h2 => by
    split at h2
    · rename_i i j
      cases d1.int_inv; cases d2.int_inv
      refine ⟨i, j, rfl, rfl, g i j, rfl, ?_⟩
      split at h2
      · rename_i hc
        rw [if_pos hc]
        refine ⟨n, δ2, G2, _, R2, h2, fun u G3 H3 z δ3 R3 s3 d3 h3 => ?_⟩
        split at h3
        · rename_i l
          cases d3.int_inv
          exact ⟨j, l, rfl, rfl, k _ G3 H3 _ δ3 R3 (s1.trans (s2.trans s3)) (.bl _) h3⟩
        · exact h3.elim
      · rename_i hc
        rw [if_neg hc]
        exact k _ G2 H2 _ δ2 R2 (s1.trans s2) (.bl _) h2
    · exact h2.elim⟩⟩
theorem de_chain {op op' : CmpOp} {g g' : Int → Int → Bool} (ho : OpR X (compareOp op) (rI0 fun i j => .bl (g i j))) (ho' : OpR X (compareOp op') (rI0 fun i j => .bl (g' i j))) (ha : DE X a ta') (hb : DE X b tb) (hc : DE X c tc)
    (hm : lastMarks [op, op'] [b, c] = false := by with_unfolding_all rfl) : DE X (.Compare a [op, op'] [b, c] pos) (dChain g g' ta' tb tc) := pe_imp (pe_chain ho ho' ha hb hc hm) chain_lift
theorem dt_chain {op op' : CmpOp} {g g' : Int → Int → Bool} (ho : OpR X (compareOp op) (rI0 fun i j => .bl (g i j))) (ho' : OpR X (compareOp op') (rI0 fun i j => .bl (g' i j))) (ha : DE X a ta') (hb : DE X b tb) (hc : DE X c tc)
    (hm : lastMarks [op, op'] [b, c] = false := by with_unfolding_all rfl) : DT X (.Compare a [op, op'] [b, c] pos) (dB (dChain g g' ta' tb tc)) :=
  pt_imp (pt_chain ho ho' ha hb hc hm) fun σ H Q2 ⟨n, δ, G, Q, R, h, k⟩ => chain_lift σ H _ ⟨n, δ, G, _, R, h, fun v G1 H1 d δ1 R1 s1 d1 h1 => by
    cases d with
    | bl c => exact ⟨c, d1.bl_inv, k c G1 H1 δ1 R1 s1 h1⟩
    | _ => exact h1.elim⟩
end
end Dl

namespace Dl
open PySem PySem.Spec PyProof.Rows L2
/-! ## zip of two lists or tuples -/
section
variable {A : Around} {prog : Program} {w : World} {s : Shared} {E : Value → Shared → Prop}
theorem nextTup_item {j t : Addr} {i : Nat} {its : Array Value} {x : Value} {Q : Value → Shared → Prop} (hj : s.heap.IsTupleIter j t i) (ht : s.heap.IsTuple t its) (hx : its[i]? = some x)
    (q : ∀ g, g.IsTupleIter j t (i + 1) → Heap.SameBut j s.heap g → Q x { s with heap := g }) : wpAny (model prog w) A (Builtin.SmallTypes.nextOf (.ref j)) Q E s := by
  obtain ⟨oj, ej, cj, dj⟩ := id hj
  obtain ⟨ot, et, _, nt, dt⟩ := ht
  unfold Builtin.SmallTypes.nextOf
  refine wpAny_bind (wpAny_callSpecial?_slot (name := Str.ofString "__next__") hj.typeIs F.slot_tuple_iterator_next (wpAny_call_entry F.slot_tuple_iterator_next hj.typeIs F.entry_tuple_iterator_next ?_ (F.args_tuple_iterator_next_1 _)))
  show wpAny _ _ (field (.ref j) 0 >>= _) _ _ s
  refine wpAny_bind (wpAny_field ej dj (x := .ref t) rfl ?_)
  show wpAny _ _ (if (Value.ref t == Value.none) = true then _ else _) _ _ _
  rw [if_neg (fun z : (Value.ref t == Value.none) = true => Bool.false_ne_true z)]
  show wpAny _ _ (field (.ref j) 1 >>= _) _ _ s
  refine wpAny_bind (wpAny_field ej dj (x := .int i 0) rfl ?_)
  show wpAny _ _ (seqItems? (.ref t) >>= _) _ _ _
  refine wpAny_bind (wpAny_seqItems et dt ?_)
  simp only [hx, Int.toNat_natCast]
  refine wpAny_bind (wpAny_setField ej dj (by simp) (wpAny_pure ⟨x, rfl, wpAny_pure (q _ ⟨_, Heap.get?_update_self _ ej (Obj.isFreed_of_fields (Obj.data_mapFields dj _)), (Obj.cls_mapFields ..).trans cj, ?_⟩ (Heap.SameBut.update ..))⟩))
  rw [Obj.data_mapFields dj]
  simp [rawInt]
theorem nextTup_end {j t : Addr} {i : Nat} {its : Array Value} {Q : Value → Shared → Prop} (hh : A.handled = none) (hj : s.heap.IsTupleIter j t i) (ht : s.heap.IsTuple t its) (hx : its[i]? = none)
    (q : ∀ g e, Heap.ExtBut j s.heap g → (∃ o, g.get? e = some o ∧ o.cls = .type "StopIteration") → E (.ref e) { s with heap := g }) : wpAny (model prog w) A (Builtin.SmallTypes.nextOf (.ref j)) Q E s := by
  obtain ⟨oj, ej, cj, dj⟩ := id hj
  obtain ⟨ot, et, _, nt, dt⟩ := ht
  unfold Builtin.SmallTypes.nextOf
  refine wpAny_bind (wpAny_callSpecial?_slot (name := Str.ofString "__next__") hj.typeIs F.slot_tuple_iterator_next (wpAny_call_entry F.slot_tuple_iterator_next hj.typeIs F.entry_tuple_iterator_next ?_ (F.args_tuple_iterator_next_1 _)))
  show wpAny _ _ (field (.ref j) 0 >>= _) _ _ s
  refine wpAny_bind (wpAny_field ej dj (x := .ref t) rfl ?_)
  show wpAny _ _ (if (Value.ref t == Value.none) = true then _ else _) _ _ _
  rw [if_neg (fun z : (Value.ref t == Value.none) = true => Bool.false_ne_true z)]
  show wpAny _ _ (field (.ref j) 1 >>= _) _ _ s
  refine wpAny_bind (wpAny_field ej dj (x := .int i 0) rfl ?_)
  show wpAny _ _ (seqItems? (.ref t) >>= _) _ _ _
  refine wpAny_bind (wpAny_seqItems et dt ?_)
  simp only [hx, Int.toNat_natCast]
  refine wpAny_bind (wpAny_rule (wpAny_bind (wpAny_setField ej dj (by simp) (show wpAny _ _ (newExc (.type "StopIteration") [] >>= _) _ _ _ from wpAny_bind ?_))))
  simp only [newTuple, newExc]
  refine wpAny_bind (wpAny_newObj_type (wpAny_bind (m := firstArgMember _ _) (wpAny_of_eq (a := Value.none) (by first | rfl | (simp only [firstArgMember]; rfl)) (wpAny_newObj_type ?_ (by size_fits)))) (by size_fits))
  simp only [raiseNew]
  refine wpAny_bind (wpAny_handled ?_)
  first
    | rw [show A.in1.handled = none from hh]
    | rw [hh]
  exact wpAny_bind (wpAny_pure (wpAny_throw (q _ _ (((Heap.SameBut.update ..).extBut.push _).push _) ⟨_, Heap.get?_push_size _ rfl, rfl⟩)))
/-- an iterator over a list (false) or a tuple (true) -/
def SubIt (b : Bool) (j a : Addr) (its : Array Value) (i : Nat) (h : Heap) : Prop := match b with
  | false => h.IsListIter j a i ∧ h.IsList a its
  | true => h.IsTupleIter j a i ∧ h.IsTuple a its
theorem SubIt.ext {b : Bool} {j a c : Addr} {its : Array Value} {i : Nat} {h g : Heap} (x : SubIt b j a its i h) (k : Heap.ExtBut c h g) (n1 : j ≠ c) (n2 : a ≠ c) : SubIt b j a its i g := by
  cases b with
  | false => exact ⟨x.1.extBut k n1, x.2.extBut k n2⟩
  | true => exact ⟨x.1.extBut k n1, x.2.extBut k n2⟩
theorem SubIt.at {b : Bool} {j a : Addr} {its : Array Value} {i : Nat} {h g : Heap} (x : SubIt b j a its i h) (k1 : ∀ o, h.get? j = some o → g.get? j = some o) (k2 : ∀ o, h.get? a = some o → g.get? a = some o) : SubIt b j a its i g := by
  cases b with
  | false => exact ⟨x.1.at k1, x.2.at k2⟩
  | true => exact ⟨x.1.at k1, x.2.at k2⟩
theorem SubIt.obj {b : Bool} {j a : Addr} {its : Array Value} {i : Nat} {h : Heap} (x : SubIt b j a its i h) : ∃ o, h.get? j = some o ∧ ∀ v, o.data ≠ .cell v := by
  cases b with
  | false => obtain ⟨⟨o, e, _, d⟩, _⟩ := x; exact ⟨o, e, fun v z => by rw [d] at z; cases z⟩
  | true => obtain ⟨⟨o, e, _, d⟩, _⟩ := x; exact ⟨o, e, fun v z => by rw [d] at z; cases z⟩
theorem sub_item {b : Bool} {j a : Addr} {its : Array Value} {i : Nat} {x : Value} {Q : Value → Shared → Prop} (h : SubIt b j a its i s.heap) (ne : a ≠ j) (hx : its[i]? = some x)
    (q : ∀ g, SubIt b j a its (i + 1) g → Heap.SameBut j s.heap g → Q x { s with heap := g }) : wpAny (model prog w) A (Builtin.SmallTypes.nextOf (.ref j)) Q E s := by
  cases b with
  | false => exact wpAny_nextOf_list_item h.1 h.2 hx fun g y k => q g ⟨y, h.2.extBut k.extBut ne⟩ k
  | true => exact nextTup_item h.1 h.2 hx fun g y k => q g ⟨y, h.2.extBut k.extBut ne⟩ k
theorem sub_end {b : Bool} {j a : Addr} {its : Array Value} {i : Nat} {Q : Value → Shared → Prop} (hh : A.handled = none) (h : SubIt b j a its i s.heap) (hx : its[i]? = none)
    (q : ∀ g e, Heap.ExtBut j s.heap g → (∃ o, g.get? e = some o ∧ o.cls = .type "StopIteration") → E (.ref e) { s with heap := g }) : wpAny (model prog w) A (Builtin.SmallTypes.nextOf (.ref j)) Q E s := by
  cases b with
  | false => exact wpAny_nextOf_list_end hh h.1 h.2 hx q
  | true => exact nextTup_end hh h.1 h.2 hx q

variable {zz ti to i1 i2 a1 a2 : Addr} {b1 b2 : Bool} {k : Nat} {xs ys : Array Value} {u v : Value}
theorem zipS_item {x y : Value} {Q : Value → Shared → Prop} (Z : ZipApart zz ti to i1 i2 a1 a2) (hz : IsZip s.heap zz ti to .none) (hp : IsPair s.heap ti (.ref i1) (.ref i2)) (ho : IsPair s.heap to u v)
    (s1 : SubIt b1 i1 a1 xs k s.heap) (s2 : SubIt b2 i2 a2 ys k s.heap) (hx : xs[k]? = some x) (hy : ys[k]? = some y)
    (q : ∀ g, IsZip g zz ti to (rawInt s.heap.objs.size) → IsPair g to x y → SubIt b1 i1 a1 xs (k + 1) g → SubIt b2 i2 a2 ys (k + 1) g → IsPair g s.heap.objs.size x y →
      (∀ c o, c ≠ zz → c ≠ to → c ≠ i1 → c ≠ i2 → s.heap.get? c = some o → g.get? c = some o) → Q (.ref s.heap.objs.size) { s with heap := g }) :
    wpAny (model prog w) A (Builtin.«zip.__next__» ⟨[.ref zz], []⟩) (fun f t => ∃ r, f = .done (.ret r) ∧ Q r t) E s := by
  show wpAny _ _ (field (.ref zz) 2 >>= _) _ _ _
  refine wpAny_bind (wpAny_field hz rfl (x := .bool false) rfl (show wpAny _ _ (field (.ref zz) 3 >>= _) _ _ _ from wpAny_bind (wpAny_field hz rfl (x := .ref ti) rfl (wpAny_bind (wpAny_seqItems hp rfl ?_)))))
  show wpAny _ _ (Builtin.SmallTypes.ownedTupleIsFree (.ref zz) >>= _) _ _ _
  refine wpAny_bind ?_
  unfold Builtin.SmallTypes.ownedTupleIsFree
  refine wpAny_bind (wpAny_field hz rfl (x := .none) rfl (wpAny_pure ?_))
  simp only [if_true]
  refine wpAny_bind (wpAny_rule (wpAny_bind (wpAny_field hz rfl (x := .ref to) rfl (wpAny_bind (wpAny_setField_rec hz (by simp) fun g1 z1 m1 => ?_)))))
  have z1' : IsZip g1 zz ti to .ellipsis := z1
  refine wpAny_bind ?_
  simp only [List.zipIdx_cons, List.forIn_cons, List.zipIdx_nil, List.forIn_nil]
  refine wpAny_bind (wpAny_bind (wpAny_onRaise (show wpAny _ _ (Builtin.SmallTypes.nextOf (.ref i1) >>= _) _ _ _ from wpAny_bind (sub_item (s1.ext m1.extBut Z.i1z Z.l1z) Z.l1i1 hx fun g2 y2 m2 => wpAny_pure ?_))))
  have o2 : IsPair g2 to u v := m2.extBut _ _ Z.TOi1 (m1.extBut _ _ Z.TOz ho)
  refine wpAny_bind (wpAny_seqItems o2 rfl (wpAny_bind (wpAny_updateSeq_pair o2 fun g3 o3 m3 => wpAny_bind (wpAny_letGo (wpAny_pure ?_)))))
  have o3' : IsPair g3 to x v := o3
  have t3 : SubIt b2 i2 a2 ys k g3 := ((s2.ext m1.extBut Z.i2z Z.l2z).ext m2.extBut Z.i12.symm Z.l2i1).ext m3.extBut Z.TOi2.symm Z.l2TO
  refine wpAny_bind (wpAny_bind (wpAny_onRaise (show wpAny _ _ (Builtin.SmallTypes.nextOf (.ref i2) >>= _) _ _ _ from wpAny_bind (sub_item t3 Z.l2i2 hy fun g4 y4 m4 => wpAny_pure ?_))))
  have o4 : IsPair g4 to x v := m4.extBut _ _ Z.TOi2 o3'
  refine wpAny_bind (wpAny_seqItems o4 rfl (wpAny_bind (wpAny_updateSeq_pair o4 fun g5 o5 m5 => wpAny_bind (wpAny_letGo (wpAny_pure (wpAny_pure ?_))))))
  have o5' : IsPair g5 to x y := o5
  refine wpAny_bind (wpAny_seqItems o5' rfl (wpAny_bind (wpAny_newTuple ?_)))
  have sz : g5.objs.size = s.heap.objs.size := by rw [m5.1, m4.1, m3.1, m2.1, m1.1]
  have z5 : IsZip g5 zz ti to .ellipsis := m5.extBut _ _ Z.TOz.symm (m4.extBut _ _ Z.i2z.symm (m3.extBut _ _ Z.TOz.symm (m2.extBut _ _ Z.i1z.symm z1')))
  have kp : ∀ c o, c ≠ zz → c ≠ to → c ≠ i1 → c ≠ i2 → s.heap.get? c = some o → g5.get? c = some o := fun c o n1 n2 n3 n4 e => m5.extBut _ _ n2 (m4.extBut _ _ n4 (m3.extBut _ _ n2 (m2.extBut _ _ n3 (m1.extBut _ _ n1 e))))
  have y5 : SubIt b1 i1 a1 xs (k + 1) g5 := ((y2.ext m3.extBut Z.TOi1.symm Z.l1TO).ext m4.extBut Z.i12 Z.l1i2).ext m5.extBut Z.TOi1.symm Z.l1TO
  have w5 : SubIt b2 i2 a2 ys (k + 1) g5 := y4.ext m5.extBut Z.TOi2.symm Z.l2TO
  have zlt : zz < g5.objs.size := Heap.lt_size z5
  show wpAny _ _ (Builtin.SmallTypes.ownedTupleHandOut (.ref zz) (.ref g5.objs.size) >>= _) _ _ _
  refine wpAny_bind ?_
  unfold Builtin.SmallTypes.ownedTupleHandOut
  have z6 : IsZip (g5.push { cls := .type "tuple", data := .seq #[x, y] }) zz ti to .ellipsis := Heap.get?_push_of_some _ z5
  refine wpAny_bind (wpAny_setField_rec z6 (by simp) fun g7 z7 m7 => ?_)
  have z7' : IsZip g7 zz ti to (rawInt g5.objs.size) := z7
  refine wpAny_setField_rec z7' (by simp) fun g8 z8 m8 => ?_
  have z8' : IsZip g8 zz ti to (rawInt g5.objs.size) := z8
  have up : ∀ c o, c ≠ zz → g5.get? c = some o → g8.get? c = some o := fun c o n1 e => m8.extBut _ _ n1 (m7.extBut _ _ n1 (Heap.get?_push_of_some _ e))
  have p8 : IsPair g8 g5.objs.size x y := m8.extBut _ _ (Nat.ne_of_gt zlt) (m7.extBut _ _ (Nat.ne_of_gt zlt) (Heap.get?_push_size _ rfl))
  rw [sz] at z8' p8
  refine wpAny_pure ⟨_, rfl, ?_⟩
  show Q (.ref g5.objs.size) _
  rw [sz]
  exact q g8 z8' (up _ _ Z.TOz o5') (y5.at (fun o e => up _ o Z.i1z e) (fun o e => up _ o Z.l1z e)) (w5.at (fun o e => up _ o Z.i2z e) (fun o e => up _ o Z.l2z e)) p8 fun c o n1 n2 n3 n4 e => up c o n1 (kp c o n1 n2 n3 n4 e)
theorem zipS_end {Q : Fin → Shared → Prop} (hh : A.handled = none) (Z : ZipApart zz ti to i1 i2 a1 a2) (hz : IsZip s.heap zz ti to .none) (hp : IsPair s.heap ti (.ref i1) (.ref i2)) (ho : IsPair s.heap to u v)
    (s1 : SubIt b1 i1 a1 xs k s.heap) (s2 : SubIt b2 i2 a2 ys k s.heap) (he : xs[k]? = none ∨ ys[k]? = none)
    (q : ∀ g e, (∀ c o, c ≠ zz → c ≠ to → c ≠ i1 → c ≠ i2 → s.heap.get? c = some o → g.get? c = some o) → (∃ o, g.get? e = some o ∧ o.cls = .type "StopIteration") → E (.ref e) { s with heap := g }) :
    wpAny (model prog w) A (Builtin.«zip.__next__» ⟨[.ref zz], []⟩) Q E s := by
  show wpAny _ _ (field (.ref zz) 2 >>= _) _ _ _
  refine wpAny_bind (wpAny_field hz rfl (x := .bool false) rfl (show wpAny _ _ (field (.ref zz) 3 >>= _) _ _ _ from wpAny_bind (wpAny_field hz rfl (x := .ref ti) rfl (wpAny_bind (wpAny_seqItems hp rfl ?_)))))
  show wpAny _ _ (Builtin.SmallTypes.ownedTupleIsFree (.ref zz) >>= _) _ _ _
  refine wpAny_bind ?_
  unfold Builtin.SmallTypes.ownedTupleIsFree
  refine wpAny_bind (wpAny_field hz rfl (x := .none) rfl (wpAny_pure ?_))
  simp only [if_true]
  refine wpAny_bind (wpAny_rule (wpAny_bind (wpAny_field hz rfl (x := .ref to) rfl (wpAny_bind (wpAny_setField_rec hz (by simp) fun g1 z1 m1 => ?_)))))
  have z1' : IsZip g1 zz ti to .ellipsis := z1
  refine wpAny_bind ?_
  simp only [List.zipIdx_cons, List.forIn_cons, List.zipIdx_nil, List.forIn_nil]
  cases hx : xs[k]? with
  | none =>
    refine wpAny_bind (wpAny_bind (wpAny_onRaise (show wpAny _ _ (Builtin.SmallTypes.nextOf (.ref i1) >>= _) _ _ _ from wpAny_bind (sub_end hh (s1.ext m1.extBut Z.i1z Z.l1z) hx fun g2 e m2 ⟨oe, ee, ce⟩ => ?_))))
    have z2 : IsZip g2 zz ti to .ellipsis := m2 _ _ Z.i1z.symm z1'
    have ne : e ≠ zz := fun c => by subst c; rw [z2] at ee; cases ee; simp at ce
    exact wpAny_setField_rec z2 (by simp) fun g3 _ m3 => q g3 e (fun c o n1 _ n3 _ h => m3.extBut _ _ n1 (m2 _ _ n3 (m1.extBut _ _ n1 h))) ⟨oe, m3.extBut _ _ ne ee, ce⟩
  | some x =>
    have hy : ys[k]? = none := he.resolve_left (by rw [hx]; exact fun z => nomatch z)
    refine wpAny_bind (wpAny_bind (wpAny_onRaise (show wpAny _ _ (Builtin.SmallTypes.nextOf (.ref i1) >>= _) _ _ _ from wpAny_bind (sub_item (s1.ext m1.extBut Z.i1z Z.l1z) Z.l1i1 hx fun g2 y2 m2 => wpAny_pure ?_))))
    have o2 : IsPair g2 to u v := m2.extBut _ _ Z.TOi1 (m1.extBut _ _ Z.TOz ho)
    refine wpAny_bind (wpAny_seqItems o2 rfl (wpAny_bind (wpAny_updateSeq_pair o2 fun g3 o3 m3 => wpAny_bind (wpAny_letGo (wpAny_pure ?_)))))
    have t3 : SubIt b2 i2 a2 ys k g3 := ((s2.ext m1.extBut Z.i2z Z.l2z).ext m2.extBut Z.i12.symm Z.l2i1).ext m3.extBut Z.TOi2.symm Z.l2TO
    refine wpAny_bind (wpAny_bind (wpAny_onRaise (show wpAny _ _ (Builtin.SmallTypes.nextOf (.ref i2) >>= _) _ _ _ from wpAny_bind (sub_end hh t3 hy fun g4 e m4 ⟨oe, ee, ce⟩ => ?_))))
    have z4 : IsZip g4 zz ti to .ellipsis := m4 _ _ Z.i2z.symm (m3.extBut _ _ Z.TOz.symm (m2.extBut _ _ Z.i1z.symm z1'))
    have ne : e ≠ zz := fun c => by subst c; rw [z4] at ee; cases ee; simp at ce
    exact wpAny_setField_rec z4 (by simp) fun g5 _ m5 => q g5 e (fun c o n1 n2 n3 n4 h => m5.extBut _ _ n1 (m4 _ _ n4 (m3.extBut _ _ n2 (m2.extBut _ _ n3 (m1.extBut _ _ n1 h))))) ⟨oe, m5.extBut _ _ ne ee, ce⟩
theorem nextZip_item {x y : Value} {Q : Option Value → Shared → Prop} (Z : ZipApart zz ti to i1 i2 a1 a2) (hz : IsZip s.heap zz ti to .none) (hp : IsPair s.heap ti (.ref i1) (.ref i2)) (ho : IsPair s.heap to u v)
    (s1 : SubIt b1 i1 a1 xs k s.heap) (s2 : SubIt b2 i2 a2 ys k s.heap) (hx : xs[k]? = some x) (hy : ys[k]? = some y)
    (q : ∀ g, IsZip g zz ti to (rawInt s.heap.objs.size) → IsPair g to x y → SubIt b1 i1 a1 xs (k + 1) g → SubIt b2 i2 a2 ys (k + 1) g → IsPair g s.heap.objs.size x y →
      (∀ c o, c ≠ zz → c ≠ to → c ≠ i1 → c ≠ i2 → s.heap.get? c = some o → g.get? c = some o) → Q (some (.ref s.heap.objs.size)) { s with heap := g }) : wpAny (model prog w) A (pyNext (.ref zz)) Q E s := by
  have ty : s.TypeIs (.ref zz) "zip" := ⟨_, hz, rfl⟩
  unfold pyNext
  exact wpAny_bind (wpAny_attempt (wpAny_callSpecial?_slot (name := Str.ofString "__next__") ty F.slot_zip_next (wpAny_call_entry F.slot_zip_next ty F.entry_zip_next
    (zipS_item Z hz hp ho s1 s2 hx hy fun g c1 c2 c3 c4 c5 c6 => wpAny_pure (q g c1 c2 c3 c4 c5 c6)) (F.args_zip_next_1 _))))
theorem nextZip_end {Q : Option Value → Shared → Prop} (hh : A.handled = none) (Z : ZipApart zz ti to i1 i2 a1 a2) (hz : IsZip s.heap zz ti to .none) (hp : IsPair s.heap ti (.ref i1) (.ref i2)) (ho : IsPair s.heap to u v)
    (s1 : SubIt b1 i1 a1 xs k s.heap) (s2 : SubIt b2 i2 a2 ys k s.heap) (he : xs[k]? = none ∨ ys[k]? = none)
    (q : ∀ g, (∀ c o, c ≠ zz → c ≠ to → c ≠ i1 → c ≠ i2 → s.heap.get? c = some o → g.get? c = some o) → Q none { s with heap := g }) : wpAny (model prog w) A (pyNext (.ref zz)) Q E s := by
  have ty : s.TypeIs (.ref zz) "zip" := ⟨_, hz, rfl⟩
  unfold pyNext
  refine wpAny_bind (wpAny_attempt (wpAny_callSpecial?_slot (name := Str.ofString "__next__") ty F.slot_zip_next (wpAny_call_entry F.slot_zip_next ty F.entry_zip_next
    (zipS_end hh Z hz hp ho s1 s2 he fun g e kk ⟨o, eo, co⟩ => ?_) (F.args_zip_next_1 _))))
  exact wpAny_bind (wpAny_isInstance (T := "StopIteration") (b := true) ⟨o, eo, co⟩ isSubtype_stop (wpAny_pure (q _ kk)))

def SeqIs (b : Bool) (a : Addr) (its : Array Value) (h : Heap) : Prop := match b with
  | false => h.IsList a its
  | true => h.IsTuple a its
def itCls : Bool → String
  | false => "list_iterator"
  | true => "tuple_iterator"
abbrev zh1 (b : Bool) (h : Heap) (p : Addr) : Heap := h.push { cls := .type (itCls b), data := .fields #[.ref p, .int 0 0] }
abbrev zh2 (b c : Bool) (h : Heap) (p q : Addr) : Heap := (zh1 b h p).push { cls := .type (itCls c), data := .fields #[.ref q, .int 0 0] }
abbrev zh3 (b c : Bool) (h : Heap) (p q : Addr) : Heap := (zh2 b c h p q).push { cls := .type "tuple", data := .seq #[.ref h.objs.size, .ref (zh1 b h p).objs.size] }
abbrev zh4 (b c : Bool) (h : Heap) (p q : Addr) : Heap := (zh3 b c h p q).push { cls := .type "tuple", data := .seq #[.none, .none] }
abbrev zh5 (b c : Bool) (h : Heap) (p q : Addr) : Heap := (zh4 b c h p q).push { cls := .type "zip", data := .fields #[.none, .bool false, .bool false, .ref (zh2 b c h p q).objs.size, .ref (zh3 b c h p q).objs.size] }
set_option maxHeartbeats 4000000 in
theorem meetsZip (b c : Bool) (p q : Addr) (xs ys : Array Value) : Meets (Builtin.«zip.__new__» ⟨[.type "zip", .ref p, .ref q], []⟩) (fun _ R s => SeqIs b p xs s.heap ∧ SeqIs c q ys s.heap ∧
    R (.ok (.ret (.ref (zh4 b c s.heap p q).objs.size))) { s with heap := zh5 b c s.heap p q }) :=
  .of_wp fun prog w A R s h => by
    obtain ⟨hp, g, d, tk, os⟩ := s
    obtain ⟨e1, e2, h⟩ := h
    have hsub := sub_zip
    cases b with
    | false =>
      have L1 : Heap.IsList (Shared.heap ⟨hp, g, d, tk, os⟩) p xs := e1
      cases c with
      | false =>
        have L2 : Heap.IsList (Shared.heap ⟨hp.push { cls := .type "list_iterator", data := .fields #[.ref p, .int 0 0] }, g, d, tk, os⟩) q ys := Heap.IsList.push e2 _
        wp_walk using wpAny_pyIter_list L1, wpAny_pyIter_list L2
        exact ⟨_, rfl, h⟩
      | true =>
        have L2 : Heap.IsTuple (Shared.heap ⟨hp.push { cls := .type "list_iterator", data := .fields #[.ref p, .int 0 0] }, g, d, tk, os⟩) q ys := Heap.IsTuple.push e2 _
        wp_walk using wpAny_pyIter_list L1, wpAny_pyIter_tuple L2
        exact ⟨_, rfl, h⟩
    | true =>
      have L1 : Heap.IsTuple (Shared.heap ⟨hp, g, d, tk, os⟩) p xs := e1
      cases c with
      | false =>
        have L2 : Heap.IsList (Shared.heap ⟨hp.push { cls := .type "tuple_iterator", data := .fields #[.ref p, .int 0 0] }, g, d, tk, os⟩) q ys := Heap.IsList.push e2 _
        wp_walk using wpAny_pyIter_tuple L1, wpAny_pyIter_list L2
        exact ⟨_, rfl, h⟩
      | true =>
        have L2 : Heap.IsTuple (Shared.heap ⟨hp.push { cls := .type "tuple_iterator", data := .fields #[.ref p, .int 0 0] }, g, d, tk, os⟩) q ys := Heap.IsTuple.push e2 _
        wp_walk using wpAny_pyIter_tuple L1, wpAny_pyIter_tuple L2
        exact ⟨_, rfl, h⟩
theorem subIt_0 {b : Bool} {j a : Addr} {its : Array Value} {h : Heap} (e : h.get? j = some { cls := .type (itCls b), data := .fields #[.ref a, .int 0 0] }) (k : SeqIs b a its h) : SubIt b j a its 0 h := by
  cases b with
  | false => exact ⟨⟨_, e, rfl, rfl⟩, k⟩
  | true => exact ⟨⟨_, e, rfl, rfl⟩, k⟩
theorem SeqIs.at {b : Bool} {a : Addr} {its : Array Value} {h g : Heap} (x : SeqIs b a its h) (k : ∀ o, h.get? a = some o → g.get? a = some o) : SeqIs b a its g := by
  cases b with
  | false => exact Heap.IsList.at x k
  | true => exact Heap.IsTuple.at x k
theorem SeqIs.lt {b : Bool} {a : Addr} {its : Array Value} {h : Heap} (x : SeqIs b a its h) : a < h.objs.size := by
  cases b with
  | false => obtain ⟨o, e, _⟩ := x; exact Heap.lt_size e
  | true => obtain ⟨o, e, _⟩ := x; exact Heap.lt_size e
theorem callZip {Q : Value → Shared → Prop} (e1 : SeqIs b1 a1 xs s.heap) (e2 : SeqIs b2 a2 ys s.heap)
    (q : ∀ g, IsZip g (s.heap.objs.size + 4) (s.heap.objs.size + 2) (s.heap.objs.size + 3) .none → IsPair g (s.heap.objs.size + 2) (.ref s.heap.objs.size) (.ref (s.heap.objs.size + 1)) → IsPair g (s.heap.objs.size + 3) .none .none →
      SubIt b1 s.heap.objs.size a1 xs 0 g → SubIt b2 (s.heap.objs.size + 1) a2 ys 0 g → (∀ c o, s.heap.get? c = some o → g.get? c = some o) → Q (.ref (s.heap.objs.size + 4)) { s with heap := g }) :
    wpAny (model prog w) A (call (.type "zip") [.ref a1, .ref a2]) Q E s := by
  refine callType_new F.called_zip (by decide) (F.typeCall_zip_2 _ _) (F.newCall_zip_2 _ _) (fun ob => F.args_object_init_3 ob _ _) F.entry_zip_new (meetsZip b1 b2 a1 a2 xs ys) ⟨e1, e2, ?_⟩
  have n1 : (zh1 b1 s.heap a1).objs.size = s.heap.objs.size + 1 := Heap.size_push ..
  have n2 : (zh2 b1 b2 s.heap a1 a2).objs.size = s.heap.objs.size + 2 := by rw [Heap.size_push, n1]
  have n3 : (zh3 b1 b2 s.heap a1 a2).objs.size = s.heap.objs.size + 3 := by rw [Heap.size_push, n2]
  have n4 : (zh4 b1 b2 s.heap a1 a2).objs.size = s.heap.objs.size + 4 := by rw [Heap.size_push, n3]
  have w5 : (zh5 b1 b2 s.heap a1 a2).get? (zh4 b1 b2 s.heap a1 a2).objs.size = some _ := Heap.get?_push_size _ rfl
  have w4 : (zh5 b1 b2 s.heap a1 a2).get? (zh3 b1 b2 s.heap a1 a2).objs.size = some _ := Heap.get?_push_of_some _ (Heap.get?_push_size _ rfl)
  have w3 : (zh5 b1 b2 s.heap a1 a2).get? (zh2 b1 b2 s.heap a1 a2).objs.size = some _ := Heap.get?_push_of_some _ (Heap.get?_push_of_some _ (Heap.get?_push_size _ rfl))
  have w2 : (zh5 b1 b2 s.heap a1 a2).get? (zh1 b1 s.heap a1).objs.size = some _ := Heap.get?_push_of_some _ (Heap.get?_push_of_some _ (Heap.get?_push_of_some _ (Heap.get?_push_size _ rfl)))
  have w1 : (zh5 b1 b2 s.heap a1 a2).get? s.heap.objs.size = some _ := Heap.get?_push_of_some _ (Heap.get?_push_of_some _ (Heap.get?_push_of_some _ (Heap.get?_push_of_some _ (Heap.get?_push_size _ rfl))))
  have kp : ∀ c o, s.heap.get? c = some o → (zh5 b1 b2 s.heap a1 a2).get? c = some o := fun c o e => Heap.get?_push_of_some _ (Heap.get?_push_of_some _ (Heap.get?_push_of_some _ (Heap.get?_push_of_some _ (Heap.get?_push_of_some _ e))))
  show _ ∧ _
  rw [n2, n3, n4] at w5
  rw [n1, n2] at w3
  rw [n3] at w4
  rw [n1] at w2
  rw [n4]
  exact ⟨⟨_, w5, rfl⟩, q _ w5 w3 w4 (subIt_0 w1 (e1.at fun o e => kp _ o e)) (subIt_0 w2 (e2.at fun o e => kp _ o e)) kp⟩
end
end Dl

namespace Dl
open PySem PySem.Spec PyProof.Rows L2
/-! ## zip as what a loop walks -/
def SqB (K : PySem.W.Frag) (b : Bool) (H : Hp) (a : Addr) (xs : List V) : Prop := match b with
  | false => SqL K H a xs
  | true => SqT K H a xs
def ItIs (b : Bool) (j a : Addr) (i : Nat) (h : Heap) : Prop := match b with
  | false => h.IsListIter j a i
  | true => h.IsTupleIter j a i
def Itz (K : PySem.W.Frag) (b1 : Bool) (a1 : Addr) (b2 : Bool) (a2 : Addr) : It :=
  ⟨fun i H => ∃ xs ys x y, SqB K b1 H a1 xs ∧ SqB K b2 H a2 ys ∧ xs[i]? = some x ∧ ys[i]? = some y,
   fun i H v H' => ∃ p x y, v = .ref p ∧ H p = none ∧ H' = upd H p (.tup [x, y]) ∧ (∀ xs, SqB K b1 H a1 xs → xs[i]? = some x) ∧ (∀ ys, SqB K b2 H a2 ys → ys[i]? = some y),
   fun i H => ∃ xs ys, SqB K b1 H a1 xs ∧ SqB K b2 H a2 ys ∧ (xs.length ≤ i ∨ ys.length ≤ i)⟩
section
variable {X : Cx} {pins : List (Addr × Obj)} {σ : L2.St} {H : Hp} {s : Shared} {b : Bool} {a : Addr} {xs ys : List V}
theorem Inv.seqB (I : Inv X pins σ H s) (h : SqB X.K b H a xs) : ∃ its : List Value, Vals xs its ∧ SeqIs b a its.toArray s.heap := by
  cases b with
  | false => obtain ⟨its, r, p, _⟩ := I.list h; exact ⟨its, r, p.isList⟩
  | true => obtain ⟨its, r, p, _⟩ := I.tuple h; exact ⟨its, r, p⟩
theorem Inv.seqB_inj (I : Inv X pins σ H s) (h : SqB X.K b H a xs) (h' : SqB X.K b H a ys) : xs = ys := by
  cases b with
  | false => exact I.list_inj h h'
  | true => exact I.tuple_inj h h'
theorem ItIs.sub {j : Addr} {i : Nat} {h : Heap} {its : Array Value} (x : ItIs b j a i h) (k : SeqIs b a its h) : SubIt b j a its i h := by
  cases b with
  | false => exact ⟨x, k⟩
  | true => exact ⟨x, k⟩
theorem SubIt.it {j : Addr} {i : Nat} {h : Heap} {its : Array Value} (x : SubIt b j a its i h) : ItIs b j a i h := by
  cases b with
  | false => exact x.1
  | true => exact x.1
theorem ItIs.at {j : Addr} {i : Nat} {h g : Heap} (x : ItIs b j a i h) (k : ∀ o, h.get? j = some o → g.get? j = some o) : ItIs b j a i g := by
  cases b with
  | false => exact Heap.IsListIter.at x k
  | true => exact Heap.IsTupleIter.at x k
theorem ItIs.obj {j : Addr} {i : Nat} {h : Heap} (x : ItIs b j a i h) : ∃ o, h.get? j = some o ∧ ∀ v, o.data ≠ .cell v := by
  cases b with
  | false => obtain ⟨o, e, _, d⟩ := x; exact ⟨o, e, fun v z => by rw [d] at z; cases z⟩
  | true => obtain ⟨o, e, _, d⟩ := x; exact ⟨o, e, fun v z => by rw [d] at z; cases z⟩
theorem SqB.seq {K : PySem.W.Frag} {H' : Hp} (e : Same H H') (h : SqB K b H a xs) : SqB K b H' a xs := by
  cases b with
  | false => exact Same.seq e h
  | true => exact Same.tupS e h
end
/-- the records of a zip: what they are at turn i -/
def ZipAt (zz ti to i1 i2 : Addr) (b1 : Bool) (a1 : Addr) (b2 : Bool) (a2 : Addr) (i : Nat) (h : Heap) : Prop :=
  IsZip h zz ti to .none ∧ IsPair h ti (.ref i1) (.ref i2) ∧ (∃ u v, IsPair h to u v) ∧ ItIs b1 i1 a1 i h ∧ ItIs b2 i2 a2 i h
theorem turn_zip {P : Program} {w : World} {K : PySem.W.Frag} {elts : List Expr} {kk : Nat} {tp : Pos} {zz ti to i1 i2 a1 a2 : Addr} {b1 b2 : Bool} (Z : ZipApart zz ti to i1 i2 a1 a2) :
    Turn P w K (.Tuple elts kk tp) (Itz K b1 a1 b2 a2) [zz, ti, to, i1, i2] zz (ZipAt zz ti to i1 i2 b1 a1 b2 a2) where
  mem := by simp
  obj := fun i h ⟨h1, h2, ⟨u, v, h3⟩, h4, h5⟩ b hb => by
    simp only [List.mem_cons, List.not_mem_nil, or_false] at hb
    rcases hb with rfl | rfl | rfl | rfl | rfl
    · exact ⟨_, h1, fun v z => nomatch z⟩
    · exact ⟨_, h2, fun v z => nomatch z⟩
    · exact ⟨_, h3, fun v z => nomatch z⟩
    · exact h4.obj
    · exact h5.obj
  keep := fun i h h' ⟨h1, h2, ⟨u, v, h3⟩, h4, h5⟩ k => ⟨k zz (by simp) _ h1, k ti (by simp) _ h2, ⟨u, v, k to (by simp) _ h3⟩, h4.at fun o e => k i1 (by simp) o e, h5.at fun o e => k i2 (by simp) o e⟩
  item := by
    intro X hP hw hK hc i pins s σ H E I hf st hg
    subst hP hw hK
    obtain ⟨h1, h2, ⟨u, v, h3⟩, h4, h5⟩ := st
    obtain ⟨xs, ys, x, y, q1, q2, hx, hy⟩ := hg
    obtain ⟨its1, r1, e1⟩ := Inv.seqB I q1
    obtain ⟨its2, r2, e2⟩ := Inv.seqB I q2
    obtain ⟨u1, hu1, ru1⟩ := r1.get hx
    obtain ⟨u2, hu2, ru2⟩ := r2.get hy
    refine nextZip_item Z h1 h2 h3 (h4.sub e1) (h5.sub e2) (by simpa using hu1) (by simpa using hu2) fun g z1 z2 z3 z4 z5 kp => ?_
    refine ⟨_, rfl, wpAny_letOwnedTupleGo_zip z1 fun g' z1' sb => ?_⟩
    have hfree : ∀ b ∈ [zz, ti, to, i1, i2], H b = none := fun b hb => (hf b hb).1
    have lt : ∀ {b : Addr} {o : Obj}, s.heap.get? b = some o → b ≠ s.heap.objs.size := fun e => Nat.ne_of_lt (Heap.lt_size e)
    have zlt : zz ≠ s.heap.objs.size := lt h1
    have kp' : ∀ c o, c ∉ [zz, ti, to, i1, i2] → s.heap.get? c = some o → g'.get? c = some o := fun c o hc' e => by
      simp only [List.mem_cons, not_or] at hc'
      exact sb.extBut _ _ hc'.1 (kp c o hc'.1 hc'.2.2.1 hc'.2.2.2.1 hc'.2.2.2.2.1 e)
    have trk : ∀ {b : Addr} {o : HO}, H b = some o → b ∉ [zz, ti, to, i1, i2] := fun e hb => by rw [hfree _ hb] at e; cases e
    have fr : H s.heap.objs.size = none := I.hok.fresh (Nat.le_refl _)
    have old : ∀ {b : Addr} {o : Obj}, s.heap.get? b = some o → b ∈ [zz, ti, to, i1, i2] → ∃ o', g'.get? b = some o' := fun {b o} e hb => by
      simp only [List.mem_cons, List.not_mem_nil, or_false] at hb
      rcases hb with rfl | rfl | rfl | rfl | rfl
      · exact ⟨_, z1'⟩
      · exact ⟨_, sb.extBut _ _ Z.TIz (kp _ _ Z.TIz Z.TITO Z.TIi1 Z.TIi2 h2)⟩
      · exact ⟨_, sb.extBut _ _ Z.TOz z2⟩
      · obtain ⟨o', e', _⟩ := z3.obj; exact ⟨_, sb.extBut _ _ Z.i1z e'⟩
      · obtain ⟨o', e', _⟩ := z4.obj; exact ⟨_, sb.extBut _ _ Z.i2z e'⟩
    have pT : IsPair g' s.heap.objs.size u1 u2 := sb.extBut _ _ zlt.symm z5
    have un : Un (frs X.stack) [zz, ti, to, i1, i2] H (upd H s.heap.objs.size (.tup [x, y])) s.heap g' := by
      refine ⟨fun b o e _ _ nx => kp' b o nx e, fun b o e _ _ nx => ⟨o.slots, kp' b o nx e⟩, fun b o e n _ => by rw [upd_ne (lt e)]; exact n, fun b o e nx => ⟨o, kp' b o nx e⟩, fun b zs e => ?_, fun b o' w' e => ?_, fun b ps e => ⟨#[], ?_⟩⟩
      · rw [upd_ne (ne_of_none e fr)]; exact e
      · rw [upd_ne (ne_of_none e fr)]; exact e
      · rw [upd_ne (ne_of_none e fr), e]; simp
    have hok : HOk X.prog X.w (upd H s.heap.objs.size (.tup [x, y])) g' := fun b o e => by
      by_cases hb : b = s.heap.objs.size
      · subst hb
        rw [upd_same] at e; cases e
        exact ⟨(show 2 ≤ sizeLine by decide), [u1, u2], .cons ru1 (.cons ru2 .nil), ⟨_, pT, rfl, _, rfl⟩⟩
      · rw [upd_ne hb] at e
        refine (I.hok b o e).stay (fun c w' hc' q => kp' c w' ?_ q) (fun c q => by rw [upd_ne (ne_of_none q fr)]; exact q) fun c zs q => by rw [upd_ne (ne_of_none q fr)]; exact q
        rcases hc' with rfl | hc'
        · exact trk e
        · exact trk hc'
    have I1 : Inv X pins σ (upd H s.heap.objs.size (.tup [x, y])) { s with heap := g' } := I.call' (s' := { s with heap := g' }) (ch := [zz, ti, to, i1, i2]) rfl un hok I.bare fun b hb => ⟨(hf b hb).2.2.2.1, (hf b hb).2.1, (hf b hb).2.2.2.2.1, (hf b hb).2.2.2.2.2⟩
    refine ⟨.ref s.heap.objs.size, _, I1, rfl, ⟨_, x, y, rfl, fr, rfl, fun zs hz => by rw [Inv.seqB_inj I hz q1]; exact hx, fun zs hz => by rw [Inv.seqB_inj I hz q2]; exact hy⟩,
      ⟨z1', sb.extBut _ _ Z.TIz (kp _ _ Z.TIz Z.TITO Z.TIi1 Z.TIi2 h2), ⟨_, _, sb.extBut _ _ Z.TOz z2⟩, z3.it.at fun o e => sb.extBut _ _ Z.i1z e, z4.it.at fun o e => sb.extBut _ _ Z.i2z e⟩, fun b hb => ?_⟩
    have hne : b ≠ s.heap.objs.size := fun z => by
      have := hfree b hb
      simp only [List.mem_cons, List.not_mem_nil, or_false] at hb
      rcases hb with rfl | rfl | rfl | rfl | rfl
      · exact lt h1 z
      · exact lt h2 z
      · exact lt h3 z
      · obtain ⟨o', e', _⟩ := h4.obj; exact lt e' z
      · obtain ⟨o', e', _⟩ := h5.obj; exact lt e' z
    rw [upd_ne hne]; exact hfree b hb
  done := by
    intro X hP hw hK hc i pins s σ H E I hf st hg
    subst hP hw hK
    obtain ⟨h1, h2, ⟨u, v, h3⟩, h4, h5⟩ := st
    obtain ⟨xs, ys, q1, q2, hl⟩ := hg
    obtain ⟨its1, r1, e1⟩ := Inv.seqB I q1
    obtain ⟨its2, r2, e2⟩ := Inv.seqB I q2
    have l1 := r1.length
    have l2 := r2.length
    refine nextZip_end (I.ok.hd hc) Z h1 h2 h3 (h4.sub e1) (h5.sub e2) (hl.imp (fun z => by simp; omega) fun z => by simp; omega) fun g kp => ⟨rfl, ?_⟩
    have hfree : ∀ b ∈ [zz, ti, to, i1, i2], H b = none := fun b hb => (hf b hb).1
    have kp' : ∀ c o, c ∉ [zz, ti, to, i1, i2] → s.heap.get? c = some o → g.get? c = some o := fun c o hc' e => by
      simp only [List.mem_cons, not_or] at hc'
      exact kp c o hc'.1 hc'.2.2.1 hc'.2.2.2.1 hc'.2.2.2.2.1 e
    have trk : ∀ {b : Addr} {o : HO}, H b = some o → b ∉ [zz, ti, to, i1, i2] := fun e hb => by rw [hfree _ hb] at e; cases e
    have un : Un (frs X.stack) [zz, ti, to, i1, i2] H H s.heap g := ⟨fun b o e _ _ nx => kp' b o nx e, fun b o e _ _ nx => ⟨o.slots, kp' b o nx e⟩, fun _ _ _ n _ => n, fun b o e nx => ⟨o, kp' b o nx e⟩, fun _ _ e => e, fun _ _ _ e => e, fun b ps e => ⟨#[], by rw [e]; simp⟩⟩
    have hok : HOk X.prog X.w H g := fun b o e => by
      refine (I.hok b o e).stay (fun c w' hc' q => kp' c w' ?_ q) (fun c q => q) fun c zs q => q
      rcases hc' with rfl | hc'
      · exact trk e
      · exact trk hc'
    exact I.call' (s' := { s with heap := g }) (ch := [zz, ti, to, i1, i2]) rfl un hok I.bare fun b hb => ⟨(hf b hb).2.2.2.1, (hf b hb).2.1, (hf b hb).2.2.2.2.1, (hf b hb).2.2.2.2.2⟩
  self := fun _ _ _ _ _ st h => wpAny_pyIter_zip st.1 h
section
variable {X : Cx} {elts : List Expr} {kk : Nat} {tp p pos : Pos} {a c : Expr}
def iZip (K : PySem.W.Frag) (ta : TA) : TI := fun σ H R => ta σ H fun vs H1 => ∃ a1 a2 b1 b2, vs = [.ref a1, .ref a2] ∧ (∃ xs, SqB K b1 H1 a1 xs) ∧ (∃ ys, SqB K b2 H1 a2 ys) ∧ R (Itz K b1 a1 b2 a2) H1
theorem pi_zip {ta : TA} (hg : Gl X "zip") (hm : X.mg "zip" = none) (ha : PA X [a, c] ta) (hs : starEach [a, c] X.env = (false, eval a X.env) :: starEach [c] X.env) (hpl : (backTo pos (starEach [c] X.env)).any (·.1) = false) :
    PI X (.Tuple elts kk tp) (.Call (.Name "zip" p) [a, c] [] pos) (iZip X.K ta) := by
  intro pins s σ H R I h
  refine Call_ (ld_blt I hg hm boot_zip (PyProof.Rows.callWith_type1 (thn (ha pos pins s σ H _ I h) fun us s1 ⟨vs, H1, I1, r1, a1, a2, b1, b2, ev, ⟨xs, q1⟩, ⟨ys, q2⟩, q⟩ => ?_) hs hpl))
  subst ev
  obtain ⟨u1, u2, rfl, ru1, ru2⟩ := r1.two
  cases ru1
  cases ru2
  obtain ⟨its1, v1, e1⟩ := Inv.seqB I1 q1
  obtain ⟨its2, v2, e2⟩ := Inv.seqB I1 q2
  refine callZip e1 e2 fun g z1 z2 z3 z4 z5 kp => wpAny_pyIter_zip z1 ?_
  have l1 : @LT.lt Nat _ a1 s1.heap.objs.size := e1.lt
  have l2 : @LT.lt Nat _ a2 s1.heap.objs.size := e2.lt
  have Z : ZipApart (s1.heap.objs.size + 4) (s1.heap.objs.size + 2) (s1.heap.objs.size + 3) s1.heap.objs.size (s1.heap.objs.size + 1) a1 a2 := by
    refine ⟨?_, ?_, ?_, ?_, ?_, ?_, ?_, ?_, ?_, ?_, ?_, ?_, ?_, ?_, ?_, ?_, ?_, ?_⟩ <;> first | exact Nat.ne_of_lt (by omega) | exact Nat.ne_of_gt (by omega)
  refine ⟨_, _, _, _, H1, rfl, I1.kept (t' := s1.toks) kp, turn_zip Z, ⟨z1, z2, ⟨_, _, z3⟩, z4.it, z5.it⟩, fun b hb => ?_, q⟩
  have hge : s1.heap.objs.size ≤ b := by
    simp only [List.mem_cons, List.not_mem_nil, or_false] at hb
    rcases hb with rfl | rfl | rfl | rfl | rfl <;> omega
  exact I1.fpOk hge (I1.hok.fresh hge)
theorem zipW_get {l m : List D} {i : Nat} {x y : D} (h1 : l[i]? = some x) (h2 : m[i]? = some y) : (List.zipWith (fun x y => D.tup [x, y]) l m)[i]? = some (.tup [x, y]) := by
  rw [List.getElem?_zipWith, h1, h2]
theorem jok_zip {K : PySem.W.Frag} {G : Hp} {b1 b2 : Bool} {a1 a2 : Addr} {vs ws : List V} {l m : List D} (h1 : SqB K b1 G a1 vs) (h2 : SqB K b2 G a2 ws) (d1 : DenL K G vs l) (d2 : DenL K G ws m) :
    JOk K G (Itz K b1 a1 b2 a2) (List.zipWith (fun x y => D.tup [x, y]) l m) := by
  have e1 := d1.length
  have e2 := d2.length
  have el : (List.zipWith (fun x y => D.tup [x, y]) l m).length = min l.length m.length := List.length_zipWith
  refine ⟨fun i G1 H1 s1 s2 hi => ?_, fun i G1 H1 x H2 s1 s2 hi y => ?_, fun i G1 H1 s1 s2 hi => ?_⟩
  · rw [el] at hi
    exact ⟨vs, ws, vs[i]'(by omega), ws[i]'(by omega), h1.seq (s1.trans s2), h2.seq (s1.trans s2), by simp, by simp⟩
  · rw [el] at hi
    obtain ⟨p, v, u, rfl, hp, rfl, k1, k2⟩ := y
    obtain ⟨dx, hx, ex⟩ := d1.getV (k1 vs (h1.seq (s1.trans s2)))
    obtain ⟨dy, hy, ey⟩ := d2.getV (k2 ws (h2.seq (s1.trans s2)))
    have sg : Same G1 (upd G1 p (.tup [v, u])) := same_upd (s2.free hp) _
    exact ⟨_, _, Ext.laid s2 hp _, zipW_get hx hy, .tup (SqT.of upd_same) (.cons (ex.up (s1.trans sg)) (.cons (ey.up (s1.trans sg)) .nil))⟩
  · rw [el] at hi
    exact ⟨vs, ws, h1.seq (s1.trans s2), h2.seq (s1.trans s2), by omega⟩
def diZip (ta : TAd) : TId := fun δ Q => ta δ fun ds δ1 => match ds with
  | [d, e] => ∃ l m, seqF d = some l ∧ seqF e = some m ∧ Q (List.zipWith (fun x y => D.tup [x, y]) l m) δ1
  | _ => False
theorem den_sqb {K : PySem.W.Frag} {G : Hp} {v : V} {d : D} {l : List D} (h : Den K G v d) (e : seqF d = some l) : ∃ b a vs, v = .ref a ∧ SqB K b G a vs ∧ DenL K G vs l := by
  rcases seqF_some e with rfl | rfl
  · obtain ⟨a, vs, rfl, q, k⟩ := h.lst_inv; exact ⟨false, a, vs, rfl, q, k⟩
  · obtain ⟨a, vs, rfl, q, k⟩ := h.tup_inv; exact ⟨true, a, vs, rfl, q, k⟩
theorem di_zip {ta : TAd} (hm : X.mg "zip" = none) (ha : DA X [a, c] ta) (hg : Gl X "zip" := by rfl) (hs : starEach [a, c] X.env = (false, eval a X.env) :: starEach [c] X.env := by rfl) (hpl : (backTo pos (starEach [c] X.env)).any (·.1) = false := by rfl) :
    DI X (.Tuple elts kk tp) (.Call (.Name "zip" p) [a, c] [] pos) (diZip ta) :=
  pi_imp (pi_zip hg hm ha hs hpl) fun σ H R2 ⟨n, δ, G, Q, R, h, k⟩ => ⟨n, δ, G, _, R, h, fun vs G1 H1 ds δ1 R1 s1 d1 h1 => by
    split at h1
    · obtain ⟨l, m, e1, e2, q⟩ := h1
      cases d1 with
      | cons x1 d1 => cases d1 with
        | cons x2 d1 =>
          cases d1
          obtain ⟨b1, a1, ws1, rfl, q1, k1⟩ := den_sqb x1 e1
          obtain ⟨b2, a2, ws2, rfl, q2, k2⟩ := den_sqb x2 e2
          exact ⟨a1, a2, b1, b2, rfl, ⟨_, q1.seq R1.sub⟩, ⟨_, q2.seq R1.sub⟩, k _ G1 H1 _ δ1 R1 s1 (jok_zip q1 q2 k1 k2) q⟩
    · exact h1.elim⟩
end
end Dl

namespace Dl
open PySem PySem.Spec PyProof.Rows L2
/-! ## target = value, name op= value, more names, // and % by any number -/
section
variable {X : Cx} {a b e : Expr} {ta tb te : TEd} {pos : Pos}
theorem de_modN (ha : DE X a ta) (hb : DE X b tb) : DE X (.BinOp a .Mod b pos) (dOp (rIC (fun _ j => j ≠ 0) fun i j => .int (Int.fmod i j)) ta tb) := de_bin op_modN (os_ic fun _ _ _ => .int _) ha hb
theorem de_fdivN (ha : DE X a ta) (hb : DE X b tb) : DE X (.BinOp a .FloorDiv b pos) (dOp (rIC CDivN fun i j => .int (Int.fdiv i j)) ta tb) := de_bin op_fdivN (os_ic fun _ _ _ => .int _) ha hb
def dAsg (te : TEd) (g : TGd) : TSd := fun E δ => te δ fun d δ1 => g d δ1 E.nx
theorem ds_asg {tg : Expr} {g : TGd} (he : DE X e te) (hg : DG X tg g) (hs : swapsWithSole [tg] e pos.line X.env = pure false := by rfl) (hw : swappedStores [tg] e X.env = pure none := by rfl)
    (h1 : (assignEach [tg] X.env).map (·.2) = [assign tg X.env] := by rfl) : DS X (.Assign [tg] e pos) (dAsg te g) :=
  ps_imp (ps_asg he hg hs hw h1) fun F σ H ⟨n, δ, G, E, R, h, k⟩ => ⟨n, δ, G, _, R, h, fun v G1 H1 d δ1 R1 s1 d1 h1 => ⟨n, δ1, G1, d, E.nx, R1, d1, h1, fun δ' σ' R' q' => k.nx δ' σ' G1 H1 R' q'⟩⟩
def dAug (i : Nat) (f : Int → Int → Int) (te : TEd) : TSd := fun E δ => match δ[i]? with
  | some (.sh (.int x)) => te δ fun y δ1 => match y with
    | .int j => E.nx (δ1.set i (.sh (.int (f x j))))
    | _ => False
  | _ => False
theorem ds_aug (i : Nat) {x : Str} {op : Operator} {f : Int → Int → Int} {pos' : Pos} (hN : X.N.Nodup) (ho : PIp X op (ipI f)) (he : DE X e te) (hi : X.N[i]? = some x := by rfl) (hx : Loc X.env.scope x := by first | exact Or.inl rfl | exact Or.inr rfl)
    (hf : X.fn x = true ∨ X.env.scope.names.lookup x = some .local := by first | exact .inl rfl | exact .inr rfl | assumption) : DS X (.AugAssign (.Name x pos') op e pos) (dAug i f te) :=
  ps_imp (ps_aug (i := i) hN hi hx he ho hf) fun F σ H ⟨n, δ, G, E, R, h, k⟩ => by
    unfold dAug at h
    split at h
    · rename_i x e0
      obtain ⟨v, g1, g2⟩ := R.sl i _ e0
      cases g2.int_inv
      refine ⟨_, g1, n, δ, G, _, R, h, fun v G1 H1 d δ1 R1 s1 d1 h1 => ?_⟩
      cases d with
      | int j => exact ⟨x, j, rfl, d1.int_inv, k.nx _ _ G1 H1 (R1.set i (.int _)) h1⟩
      | _ => exact h1.elim
    · exact h.elim
/-! ### (a, b, c), (a, b, c, d) -/
def gdTup3 (i j l : Nat) : TGd := fun d δ Q => match d with
  | .tup [x, y, z] => Q (((δ.set i (.sh x)).set j (.sh y)).set l (.sh z))
  | _ => False
def gdTup4 (i j l m : Nat) : TGd := fun d δ Q => match d with
  | .tup [x, y, z, w] => Q ((((δ.set i (.sh x)).set j (.sh y)).set l (.sh z)).set m (.sh w))
  | _ => False
theorem dg_tup3 (i j l : Nat) {x y z : Str} {px py pz : Pos} {kk : Nat} (hc : X.calm = true) (hN : X.N.Nodup) (hi : X.N[i]? = some x := by rfl) (hx : Loc X.env.scope x := by first | exact Or.inl rfl | exact Or.inr rfl) (hj : X.N[j]? = some y := by rfl) (hy : Loc X.env.scope y := by first | exact Or.inl rfl | exact Or.inr rfl)
    (hl : X.N[l]? = some z := by rfl) (hz : Loc X.env.scope z := by first | exact Or.inl rfl | exact Or.inr rfl)
    (hfx : X.fn x = true ∨ X.env.scope.names.lookup x = some .local := by first | exact .inl rfl | exact .inr rfl) (hfy : X.fn y = true ∨ X.env.scope.names.lookup y = some .local := by first | exact .inl rfl | exact .inr rfl)
    (hfz : X.fn z = true ∨ X.env.scope.names.lookup z = some .local := by first | exact .inl rfl | exact .inr rfl)
    (hs1 : (assignEach [.Name x px, .Name y py, .Name z pz] X.env).map (·.2) = assign (.Name x px) X.env :: (assignEach [.Name y py, .Name z pz] X.env).map (·.2) := by rfl)
    (hs2 : (assignEach [.Name y py, .Name z pz] X.env).map (·.2) = assign (.Name y py) X.env :: (assignEach [.Name z pz] X.env).map (·.2) := by rfl)
    (hs3 : (assignEach [.Name z pz] X.env).map (·.2) = assign (.Name z pz) X.env :: (assignEach [] X.env).map (·.2) := by rfl)
    (hn : (assignEach [.Name x px, .Name y py, .Name z pz] X.env).length = 3 := by rfl) (hst : (assignEach [.Name x px, .Name y py, .Name z pz] X.env).findIdx? (·.1) = none := by rfl) : DG X (.Tuple [.Name x px, .Name y py, .Name z pz] kk pos) (gdTup3 i j l) :=
  pg_imp (pg_tup hc (pgs_cons (pg_name (i := i) hN hi hx hfx) (pgs_cons (pg_name (i := j) hN hj hy hfy) (pgs_cons (pg_name (i := l) hN hl hz hfz) pgs_nil hs3) hs2) hs1) hn hst) fun v σ H Q2 ⟨n, δ, G, d, Q, R, hv, h, k⟩ => by
    unfold gdTup3 at h
    split at h
    · rename_i dx dy dz
      obtain ⟨a, vs, rfl, hq, hl'⟩ := hv.tup_inv
      cases hl' with | cons h1 t1 => cases t1 with | cons h2 t2 => cases t2 with | cons h3 t3 =>
        cases t3
        exact ⟨a, _, rfl, Same.tupS R.sub hq, rfl, _, _, rfl, _, _, rfl, _, _, rfl, rfl, k _ _ (((R.set i h1).set j h2).set l h3) h⟩
    · exact h.elim
theorem dg_tup4 (i j l m : Nat) {x y z w : Str} {px py pz pw : Pos} {kk : Nat} (hc : X.calm = true) (hN : X.N.Nodup) (hi : X.N[i]? = some x := by rfl) (hx : Loc X.env.scope x := by first | exact Or.inl rfl | exact Or.inr rfl) (hj : X.N[j]? = some y := by rfl) (hy : Loc X.env.scope y := by first | exact Or.inl rfl | exact Or.inr rfl)
    (hl : X.N[l]? = some z := by rfl) (hz : Loc X.env.scope z := by first | exact Or.inl rfl | exact Or.inr rfl) (hm : X.N[m]? = some w := by rfl) (hw : Loc X.env.scope w := by first | exact Or.inl rfl | exact Or.inr rfl)
    (hfx : X.fn x = true ∨ X.env.scope.names.lookup x = some .local := by first | exact .inl rfl | exact .inr rfl) (hfy : X.fn y = true ∨ X.env.scope.names.lookup y = some .local := by first | exact .inl rfl | exact .inr rfl)
    (hfz : X.fn z = true ∨ X.env.scope.names.lookup z = some .local := by first | exact .inl rfl | exact .inr rfl) (hfw : X.fn w = true ∨ X.env.scope.names.lookup w = some .local := by first | exact .inl rfl | exact .inr rfl)
    (hs1 : (assignEach [.Name x px, .Name y py, .Name z pz, .Name w pw] X.env).map (·.2) = assign (.Name x px) X.env :: (assignEach [.Name y py, .Name z pz, .Name w pw] X.env).map (·.2) := by rfl)
    (hs2 : (assignEach [.Name y py, .Name z pz, .Name w pw] X.env).map (·.2) = assign (.Name y py) X.env :: (assignEach [.Name z pz, .Name w pw] X.env).map (·.2) := by rfl)
    (hs3 : (assignEach [.Name z pz, .Name w pw] X.env).map (·.2) = assign (.Name z pz) X.env :: (assignEach [.Name w pw] X.env).map (·.2) := by rfl)
    (hs4 : (assignEach [.Name w pw] X.env).map (·.2) = assign (.Name w pw) X.env :: (assignEach [] X.env).map (·.2) := by rfl)
    (hn : (assignEach [.Name x px, .Name y py, .Name z pz, .Name w pw] X.env).length = 4 := by rfl) (hst : (assignEach [.Name x px, .Name y py, .Name z pz, .Name w pw] X.env).findIdx? (·.1) = none := by rfl) : DG X (.Tuple [.Name x px, .Name y py, .Name z pz, .Name w pw] kk pos) (gdTup4 i j l m) :=
  pg_imp (pg_tup hc (pgs_cons (pg_name (i := i) hN hi hx hfx) (pgs_cons (pg_name (i := j) hN hj hy hfy) (pgs_cons (pg_name (i := l) hN hl hz hfz) (pgs_cons (pg_name (i := m) hN hm hw hfw) pgs_nil hs4) hs3) hs2) hs1) hn hst) fun v σ H Q2 ⟨n, δ, G, d, Q, R, hv, h, k⟩ => by
    unfold gdTup4 at h
    split at h
    · rename_i dx dy dz dw
      obtain ⟨a, vs, rfl, hq, hl'⟩ := hv.tup_inv
      cases hl' with | cons h1 t1 => cases t1 with | cons h2 t2 => cases t2 with | cons h3 t3 => cases t3 with | cons h4 t4 =>
        cases t4
        exact ⟨a, _, rfl, Same.tupS R.sub hq, rfl, _, _, rfl, _, _, rfl, _, _, rfl, _, _, rfl, rfl, k _ _ ((((R.set i h1).set j h2).set l h3).set m h4) h⟩
    · exact h.elim
/-! ### xs.extend(l) of a list of one's own -/
def dExt (i : Nat) (te : TEd) : TSd := fun E δ => match δ[i]? with
  | some (.ow _) => te δ fun d δ1 => match δ1[i]?, d with
    | some (.ow l), .lst m => l.length + m.length ≤ sizeLine ∧ E.nx (δ1.set i (.ow (l ++ m)))
    | _, _ => False
  | _ => False
end
/-! ### sum(xs) of ints -/
section
variable {X : Cx} {e : Expr} {es : List Expr} {t : TAd} {p pos : Pos}
def intsF : List D → Option (List Int)
  | [] => some []
  | .int i :: r => (intsF r).map (i :: ·)
  | _ :: _ => none
theorem intsF_some : ∀ {l : List D} {ns : List Int}, intsF l = some ns → l = ns.map D.int
  | [], ns, h => by cases h; rfl
  | .int i :: r, ns, h => by
    unfold intsF at h
    cases q : intsF r with
    | none => rw [q] at h; cases h
    | some m => rw [q] at h; cases h; rw [intsF_some q]; rfl
theorem intsF_map : ∀ ns : List Int, intsF (ns.map D.int) = some ns
  | [] => rfl
  | i :: r => by show (intsF (r.map D.int)).map (i :: ·) = _; rw [intsF_map r]; rfl
theorem DenL.ints_inv {K : PySem.W.Frag} {G : Hp} : ∀ {vs : List V} {ns : List Int}, DenL K G vs (ns.map D.int) → vs = ns.map V.int
  | _, [], .nil => rfl
  | _, _ :: _, .cons h t => by rw [h.int_inv, DenL.ints_inv t]; rfl
def cSum : RC := fun ds Q => match ds with
  | [.lst l] => ∃ ns, intsF l = some ns ∧ Q (.int ns.sum)
  | _ => False
end
end Dl

namespace Dl
open PySem L2
/-! ## readings of more constructs -/
def dSlG (te : TEd) (tl th : TOd) : TEd := fun δ Q => te δ fun x δ1 => tl δ1 fun l δ2 => th δ2 fun u δ3 => ∃ d, slF x l u = some d ∧ Q d δ3
def stepTake (k : Nat) (l : List D) : List D := (List.range ((l.length + k - 1) / k)).filterMap fun i => l[k * i]?
def dSlS (k : Nat) (te : TEd) : TEd := fun δ Q => te δ fun x δ1 => match x with
  | .lst l => Q (.lst (stepTake k l)) δ1
  | _ => False
def boolsF : List D → Option (List Bool)
  | [] => some []
  | .bl i :: r => (boolsF r).map (i :: ·)
  | _ :: _ => none
theorem boolsF_some : ∀ {l : List D} {ns : List Bool}, boolsF l = some ns → l = ns.map D.bl
  | [], ns, h => by cases h; rfl
  | .bl i :: r, ns, h => by
    unfold boolsF at h
    cases q : boolsF r with
    | none => rw [q] at h; cases h
    | some m => rw [q] at h; cases h; rw [boolsF_some q]; rfl
theorem boolsF_map : ∀ ns : List Bool, boolsF (ns.map D.bl) = some ns
  | [] => rfl
  | i :: r => by show (boolsF (r.map D.bl)).map (i :: ·) = _; rw [boolsF_map r]; rfl
def cAll : RC := fun ds Q => match ds with
  | [.lst l] => ∃ bs, boolsF l = some bs ∧ Q (.bl (bs.all id))
  | _ => False
def lstF : D → Option (List D)
  | .lst l => some l
  | _ => none
theorem lstF_lst {l : List D} : lstF (.lst l) = some l := rfl
def cSorted : RC := fun ds Q => match ds with
  | [d] => ∃ l, seqF d = some l ∧ ∃ ns, intsF l = some ns ∧ ns.length < 64 ∧ ∀ ms : List Int, ms.Perm ns → ms.Pairwise (· ≤ ·) → Q (.lst (ms.map D.int))
  | _ => False
def cMinL : RC := fun ds Q => match ds with
  | [d] => ∃ l, lstF d = some l ∧ ∃ ns, intsF l = some ns ∧ ns ≠ [] ∧ ns.length < 64 ∧ ∀ m : Int, m ∈ ns → (∀ x ∈ ns, m ≤ x) → Q (.int m)
  | _ => False
def cSortSet : RC := fun ds Q => match ds with
  | [d] => ∃ l, seqF d = some l ∧ ∃ ns, intsF l = some ns ∧ ns.length < 64 ∧ ∀ ms : List Int, ms.Pairwise (· < ·) → (∀ t, t ∈ ms ↔ t ∈ ns) → Q (.lst (ms.map D.int))
  | _ => False
def cLenSet : RC := fun ds Q => match ds with
  | [d] => ∃ l, lstF d = some l ∧ ∃ ns, intsF l = some ns ∧ ns.length < 64 ∧ ∀ ms : List Int, ms.Pairwise (· < ·) → (∀ t, t ∈ ms ↔ t ∈ ns) → Q (.int ms.length)
  | _ => False
def enumL (l : List D) : List D := (List.range l.length).map fun i => .tup [.int ((i : Nat) : Int), l.getD i .non]
def diEnum (ta : TAd) : TId := fun δ Q => ta δ fun ds δ1 => match ds with
  | [d] => ∃ l, seqF d = some l ∧ Q (enumL l) δ1
  | _ => False
def gdLst3 (i j l : Nat) : TGd := fun d δ Q => match d with
  | .lst [x, y, z] => Q (((δ.set i (.sh x)).set j (.sh y)).set l (.sh z))
  | _ => False
/-- the signs of a written text -/
def signL (x : Str) : List D := x.cps.toList.map fun c => .str ⟨#[c]⟩
def atS (x : Str) : D → Option D
  | .int i => if 0 ≤ i then (signL x)[i.toNat]? else none
  | _ => none
theorem atS_int {x : Str} {i : Int} : atS x (.int i) = if 0 ≤ i then (signL x)[i.toNat]? else none := rfl
def dSign (x : Str) (te : TEd) : TEd := fun δ Q => te δ fun d δ1 => ∃ e, atS x d = some e ∧ Q e δ1
def diSigns (x : Str) : TId := fun δ Q => Q (signL x) δ
def cMinD (c : Int) : RC := fun ds Q => match ds with
  | [d] => ∃ l, lstF d = some l ∧ ∃ ns, intsF l = some ns ∧ ns.length < 64 ∧ (ns = [] → Q (.int c)) ∧ ∀ m : Int, m ∈ ns → (∀ x ∈ ns, m ≤ x) → Q (.int m)
  | _ => False
end Dl

namespace HT
open PySem PyProof.Rows
section
variable {prog : Program} {w : World} {A : Around} {E : Value → Shared → Prop} {s : Shared}
/-- t[:] of a tuple is the tuple itself -/
theorem tupleWhole {t sl : Addr} {its : Array Value} {vl vu : Value} {lo hi : Option Int} {Q : Value → Shared → Prop} (ht : IsTup s.heap t its) (hs : s.heap.IsSliceOf sl vl vu .none) (pl : IsPart vl lo) (pu : IsPart vu hi)
    (hw : sIx its.size 0 lo = 0 ∧ sIx its.size its.size hi = its.size) (q : Q (.ref t) s) : wpAny (model prog w) A (getItem (.ref t) (.ref sl)) Q E s := by
  obtain ⟨o, eo, co, _⟩ := id hs
  have ty : s.TypeIs (.ref sl) "slice" := ⟨o, eo, co⟩
  unfold getItem
  try with_reducible refine wpAny_holding ?_
  first | refine wpAny_bind (wpAny_pure ?_) | skip
  refine wpAny_bind (wpAny_sequenceKey ht.typeIs (by decide) (wpAny_bind (wpAny_callSpecial?_slot (name := Str.ofString "__getitem__") ht.typeIs PyProof.Rows.slot_tuple_getitem (wpAny_call_entry PyProof.Rows.slot_tuple_getitem ht.typeIs entry_tuple_getitem ?_ (args_tuple_getitem _ _)))))
  show wpAny _ _ (Builtin.Tuple.tupleItemsOf (.ref t) >>= _) _ _ s
  refine wpAny_bind (tupleItemsOf_ ht (wpAny_bind (wpAny_typeOf ty ?_)))
  rw [if_pos (by decide)]
  refine wpAny_bind (sliceApplied_gen hs pl pu ?_)
  show wpAny _ _ (if (((sIx its.size 0 lo : Nat) : Int) == 0 && (1 : Int) == 1 && (sIx its.size its.size hi - sIx its.size 0 lo) == its.size) = true then _ else _) _ _ s
  rw [if_pos (by rw [hw.1, hw.2]; simp)]
  unfold Builtin.Tuple.tupleIsExact
  refine wpAny_bind (wpAny_bind (wpAny_typeOf ht.typeIs (wpAny_pure ?_)))
  rw [if_pos (by decide)]
  exact wpAny_bind (wpAny_rule (wpAny_pure ⟨_, rfl, wpAny_pure q⟩))
end
end HT
namespace Dl
open PySem PySem.Spec PyProof.Rows L2
section
variable {X : Cx} {a : Expr} {ta : TEd} {pos : Pos}
/-! ### slices, the whole of a tuple too -/
theorem sl_tupW : SlR X (fun x lo hi H Q => ∃ a xs, x = .ref a ∧ SqT X.K H a xs ∧ (HT.sIx xs.length 0 lo = 0 ∧ HT.sIx xs.length xs.length hi = xs.length) ∧ Q (.ref a) H) := by
  intro pins s σ H x v vl vu lo hi sl Q I rx hs pl pu ⟨a, xs, e, hx, hw, q⟩
  subst e
  cases rx
  obtain ⟨its, r, ht, hz⟩ := I.tuple hx
  have el : its.toArray.size = xs.length := by rw [List.size_toArray]; exact r.length.symm
  exact ⟨"tuple", _, PyProof.Rows.slot_tuple_getitem.lookup, ht.typeIs, HT.tupleWhole ht hs pl pu (by rw [el]; exact hw) ⟨.ref a, H, I, rfl, q⟩⟩
theorem cut_whole {l : List D} {lo hi : Option Int} (h : HT.sIx l.length 0 lo = 0 ∧ HT.sIx l.length l.length hi = l.length) : cutD l lo hi = l := by
  unfold cutD; rw [h.1, h.2, List.drop_zero, Nat.sub_zero, List.take_length]
theorem de_sliceG {lo hi : Option Expr} {tl th : TOd} {p2 : Pos} (he : DE X a ta) (hl : DO X lo tl) (hu : DO X hi th) : DE X (.Subscript a (.Slice lo hi none p2) pos) (dSlG ta tl th) :=
  pe_imp (pe_slice (SlR.or (SlR.or sl_list sl_tup) sl_tupW) he hl hu) fun σ H Q2 ⟨n, δ, G, Q, R, h, k⟩ => ⟨n, δ, G, _, R, h, fun v G1 H1 d δ1 R1 s1 d1 h1 => ⟨n, δ1, G1, _, R1, h1, fun l G2 H2 δ2 R2 s2 h2 => ⟨n, δ2, G2, _, R2, h2, fun u G3 H3 δ3 R3 s3 ⟨w, e, h3⟩ => by
    have d3 := d1.up (s2.trans s3)
    cases d with
    | lst m =>
      cases e
      obtain ⟨a, vs, rfl, ha, la⟩ := d3.lst_inv
      exact .inl (.inl ⟨a, vs, rfl, R3.sub.seq ha, fun p hp => k _ _ _ _ δ3 (R3.laid hp _) (s1.trans (s2.trans (s3.trans (same_upd (R3.sub.free hp) _)))) (.lst (SqL.of upd_same) ((cut_den la l u).up (same_upd (R3.sub.free hp) _))) h3⟩)
    | tup m =>
      cases e
      obtain ⟨a, vs, rfl, ha, la⟩ := d3.tup_inv
      by_cases hw : HT.sIx m.length 0 l = 0 ∧ HT.sIx m.length m.length u = m.length
      · rw [cut_whole hw] at h3
        exact .inr ⟨a, vs, rfl, Same.tupS R3.sub ha, by rw [la.length]; exact hw, k _ G3 H3 _ δ3 R3 (s1.trans (s2.trans s3)) d3 h3⟩
      · exact .inl (.inr ⟨a, vs, rfl, Same.tupS R3.sub ha, by rw [la.length]; exact hw, fun p hp => k _ _ _ _ δ3 (R3.laid hp _) (s1.trans (s2.trans (s3.trans (same_upd (R3.sub.free hp) _)))) (.tup (SqT.of upd_same) ((cut_den la l u).up (same_upd (R3.sub.free hp) _))) h3⟩)
    | _ => cases e⟩⟩⟩
/-! ### xs[::k] of a list -/
def stepTakeV {α : Type} (k : Nat) (l : List α) : List α := (List.range ((l.length + k - 1) / k)).filterMap fun i => l[k * i]?
theorem stepTake_den {K : PySem.W.Frag} {G : Hp} {vs : List V} {l : List D} (h : DenL K G vs l) (k : Nat) : DenL K G (stepTakeV k vs) (stepTake k l) := by
  unfold stepTakeV stepTake
  rw [h.length]
  generalize (List.range ((l.length + k - 1) / k)) = is
  induction is with
  | nil => exact .nil
  | cons i is ih =>
    cases q : l[k * i]? with
    | none =>
      have q' : vs[k * i]? = none := by rw [List.getElem?_eq_none_iff] at q ⊢; rw [h.length]; exact q
      rw [List.filterMap_cons_none (f := fun i => vs[k * i]?) q', List.filterMap_cons_none (f := fun i => l[k * i]?) q]; exact ih
    | some d =>
      obtain ⟨v, q', hv⟩ := h.get q
      rw [List.filterMap_cons_some (f := fun i => vs[k * i]?) q', List.filterMap_cons_some (f := fun i => l[k * i]?) q]; exact .cons hv ih
theorem stepTake_vals {k : Nat} {vs : List V} {its : List Value} (h : Vals vs its) : Vals (stepTakeV k vs) (stepTakeV k its) := by
  unfold stepTakeV
  rw [h.length]
  generalize (List.range ((its.length + k - 1) / k)) = is
  induction is with
  | nil => exact .nil
  | cons i is ih =>
    cases q : vs[k * i]? with
    | none =>
      have q' := h.none_of q
      rw [List.filterMap_cons_none (f := fun i => vs[k * i]?) q, List.filterMap_cons_none (f := fun i => its[k * i]?) q']; exact ih
    | some d =>
      obtain ⟨v, q', hv⟩ := h.get q
      rw [List.filterMap_cons_some (f := fun i => vs[k * i]?) q, List.filterMap_cons_some (f := fun i => its[k * i]?) q']; exact .cons hv ih
theorem stepPick {k : Nat} (hk : 0 < k) (its : List Value) : slicePick its.toArray none none (some (k : Int)) = (stepTakeV k its).toArray := by
  have kp : ((k : Int) > 0) := by omega
  unfold slicePick sliceBounds sliceRange stepTakeV
  simp only [Option.getD_some, kp, if_true, List.size_toArray]
  congr 1
  rw [List.filterMap_map]
  have ec : (if (0 : Int) < (its.length : Nat) then (((its.length : Nat) : Int) - 0 + (k : Int) - 1) / (k : Int) else 0).toNat = (its.length + k - 1) / k := by
    split
    · rw [show (((its.length : Nat) : Int) - 0 + (k : Int) - 1) = ((its.length + k - 1 : Nat) : Int) by omega, ← Int.natCast_ediv, Int.toNat_natCast]
    · have : its.length = 0 := by omega
      rw [this, Nat.div_eq_of_lt (by omega)]; rfl
  rw [ec]
  congr 1
  funext i
  show its.toArray[((0 : Int) + (k : Int) * (i : Int)).toNat]? = _
  rw [show ((0 : Int) + (k : Int) * (i : Int)).toNat = k * i by rw [Int.zero_add, ← Int.natCast_mul]; omega]
  simp
def tSlS (K : PySem.W.Frag) (k : Nat) (te : TE) : TE := fun σ H Q => te σ H fun x H1 => ∃ a xs, x = .ref a ∧ SqL K H1 a xs ∧ ∀ p, H1 p = none → Q (.ref p) (upd H1 p (.lst (stepTakeV k xs)))
theorem stepTakeV_len {α : Type} {k : Nat} (hk : 0 < k) {l : List α} : (stepTakeV k l).length ≤ l.length := by
  unfold stepTakeV
  refine Nat.le_trans (List.length_filterMap_le ..) ?_
  rw [List.length_range]
  have : (l.length + k - 1) / k < l.length + 1 := by
    rw [Nat.div_lt_iff_lt_mul hk]
    have : l.length * 1 ≤ l.length * k := Nat.mul_le_mul_left _ hk
    rw [Nat.add_mul]; omega
  omega
theorem pe_sliceS {te : TE} (k : Nat) (hk : 0 < k) {j : Nat} {pc p2 : Pos} (he : PE X a te) : PE X (.Subscript a (.Slice none none (some (.Constant (.int (k : Int)) j pc)) p2) pos) (tSlS X.K k te) := by
  intro pins s σ H Q I h
  refine Subscript_ (thn (he pins s σ H _ I h) fun v s1 ⟨x, H1, I1, r1, a, xs, e, hx, q⟩ => ?_)
  subst e
  cases r1
  refine wpAny_Slice ?_
  rw [evalPart_none, evalPart_some]
  refine wpAny_pure (wpAny_pure (wpAny_Constant_int ?_))
  have I2 := (I1.tok (s1.toks + 1)).kept (t' := s1.toks + 1) (h' := s1.heap.push { cls := .type "slice", data := .fields #[.none, .none, .int (k : Int) s1.toks] }) fun b ob q => Heap.get?_push_of_some _ q
  obtain ⟨its, r, ht, hz⟩ := I2.list hx
  have hl := r.length
  refine tail_any (ops := [.ref a, .ref s1.heap.objs.size]) ht.isList.typeIs slot_list_getitem.lookup (wpAny_getItem_list_slice ht.isList (Heap.IsSliceOf.new ..) .none .none (.int _ _) (by simp; omega) ?_ (by rw [List.size_toArray, ← hl]; exact hz)) (by with_unfolding_all rfl)
  rw [stepPick hk]
  exact ⟨.ref _, _, I2.lnew (t' := s1.toks + 1) (stepTake_vals r) (Nat.le_trans (stepTakeV_len hk) hz), rfl, q _ I2.fresh⟩
theorem de_sliceS (k : Nat) {j : Nat} {pc p2 : Pos} (he : DE X a ta) (hk : 0 < k := by decide) : DE X (.Subscript a (.Slice none none (some (.Constant (.int (k : Int)) j pc)) p2) pos) (dSlS k ta) :=
  pe_imp (pe_sliceS k hk he) fun σ H Q2 ⟨n, δ, G, Q, R, h, kk⟩ => ⟨n, δ, G, _, R, h, fun v G1 H1 d δ1 R1 s1 d1 h1 => by
    cases d with
    | lst l =>
      obtain ⟨a, vs, rfl, ha, la⟩ := d1.lst_inv
      exact ⟨a, vs, rfl, R1.sub.seq ha, fun p hp => kk _ _ _ _ δ1 (R1.laid hp _) (s1.trans (same_upd (R1.sub.free hp) _)) (.lst (SqL.of upd_same) ((stepTake_den la k).up (same_upd (R1.sub.free hp) _))) h1⟩
    | _ => exact h1.elim⟩
end
end Dl

namespace Dl
open PySem PySem.Spec PyProof.Rows L2
/-! ## sum, all, sorted of a list; extend; three names out of a list -/
section
variable {X : Cx} {e : Expr} {es : List Expr} {t : TAd} {p pos : Pos}
theorem call_sumI (hc : X.calm = true) : CallR X (.builtin "sum") (fun xs H Q => ∃ (p : Addr) (ns : List Int), xs = [.ref p] ∧ SqL X.K H p (ns.map V.int) ∧ Q (.int ns.sum) H) := by
  rintro pins s σ H xs us Q I r ⟨p, ns, rfl, hq, q⟩
  obtain ⟨u, rfl, ru⟩ := r.one
  cases ru
  obtain ⟨its, rv, pl, hz⟩ := I.list hq
  have hi := intsAre_of rv
  obtain ⟨ys, ey⟩ := hi.allInts.items
  refine sum_intListG (I.ok.hd hc) (ey ▸ pl.isList) fun g tk t' hk => ?_
  have e1 : preSum (numAt ys) ys.size = ns.sum := by
    have e0 : numsOf its.toArray.toList = ns := hi.numsOf
    rw [ey, nums_intItems] at e0
    rw [preSum_eq, List.take_of_length_le (by simp), e0]
  rw [e1]
  exact ⟨.int _, H, I.kept (t' := tk) hk, ⟨_, rfl⟩, q⟩
theorem cs_sum {K : PySem.W.Frag} : CallS K (fun xs H Q => ∃ (p : Addr) (ns : List Int), xs = [.ref p] ∧ SqL K H p (ns.map V.int) ∧ Q (.int ns.sum) H) cSum := fun G H xs ds Q Q2 s hd h k => by
  unfold cSum at h
  split at h
  · obtain ⟨ns, e, q⟩ := h
    obtain ⟨v, rfl, d1⟩ := denl1 hd
    obtain ⟨a, vs, rfl, ha, la⟩ := d1.lst_inv
    rw [intsF_some e] at la
    have ev : vs = ns.map V.int := DenL.ints_inv la
    subst ev
    exact ⟨a, ns, rfl, s.seq ha, k _ G H _ (Ext.refl s) (.int _) q⟩
  · exact h.elim
theorem de_sum (hc : X.calm = true) (hm : X.mg "sum" = none) (ha : DA X (e :: es) t) (hg : Gl X "sum" := by rfl) (he : starEach (e :: es) X.env = (false, eval e X.env) :: starEach es X.env := by rfl) (hpl : (backTo pos (starEach es X.env)).any (·.1) = false := by rfl) : DE X (.Call (.Name "sum" p) (e :: es) [] pos) (dCall cSum t) :=
  de_callB (call_sumI hc) cs_sum hm (by rfl) ha hg (by decide) (by decide) he hpl
/-! ### all -/
def rAllB (K : PySem.W.Frag) : List V → Hp → VK → Prop := fun xs H Q => ∃ (p : Addr) (bs : List Bool), xs = [.ref p] ∧ SqL K H p (bs.map V.bl) ∧ Q (.bl (bs.all id)) H
theorem vals_bools : ∀ {bs : List Bool} {us : List Value}, Vals (bs.map V.bl) us → us = bs.map Value.bool
  | [], _, .nil => rfl
  | b :: bs, _, .cons r t => by cases r; rw [vals_bools t]; rfl
theorem all_range : ∀ bs : List Bool, ((List.range bs.length).all fun i => (bs[i]?).getD true) = bs.all id
  | [] => rfl
  | b :: bs => by
    rw [List.length_cons, List.range_succ_eq_map, List.all_cons, List.all_map, List.all_cons]
    have := all_range bs
    simp only [List.getElem?_cons_zero, Option.getD_some, id]
    congr 1
theorem call_allB (hc : X.calm = true) : CallR X (.builtin "all") (rAllB X.K) := by
  rintro pins s σ H xs us Q I r ⟨p, bs, rfl, hq, q⟩
  obtain ⟨u, rfl, ru⟩ := r.one
  cases ru
  obtain ⟨its, rv, pl, hz⟩ := I.list hq
  have ei := vals_bools rv
  have lt : p < s.heap.objs.size := by obtain ⟨_, z, _⟩ := pl.isList; exact Heap.lt_size z
  refine call_all_walk (wpAny_pyIter_list pl.isList ⟨s.heap.objs.size, _, _, _, _, _, fun i => (bs[i]?).getD true, rfl, Walks.list (A := X.A.in1) (I.ok.hd hc) _ p (Nat.ne_of_lt lt) its.toArray, ⟨⟨_, Heap.get?_push_size _ rfl, rfl, rfl⟩, pl.isList.push _⟩, fun i v s' Q' E' hv hQ => ?_, fun g tk hk => ?_⟩)
  · have hv' : its[i]? = some v := by simpa using hv
    rw [ei, List.getElem?_map] at hv'
    cases q' : bs[i]? with
    | none => rw [q'] at hv'; cases hv'
    | some b =>
      rw [q'] at hv'
      cases hv'
      simp only [q', Option.getD_some] at hQ
      exact wpAny_truthy_bool hQ
  · have e : ((List.range its.toArray.size).all fun i => (bs[i]?).getD true) = bs.all id := by
      rw [List.size_toArray, ei, List.length_map]; exact all_range bs
    rw [e]
    refine ⟨.bl _, H, I.kept (t' := tk) fun b o z => hk b o (fun hm => ?_) (Heap.get?_push_of_some _ z), rfl, q⟩
    rw [List.mem_singleton.mp hm] at z
    exact Nat.lt_irrefl _ (Heap.lt_size z)
theorem DenL.bools_inv {K : PySem.W.Frag} {G : Hp} : ∀ {vs : List V} {ns : List Bool}, DenL K G vs (ns.map D.bl) → vs = ns.map V.bl
  | _, [], .nil => rfl
  | _, _ :: _, .cons h t => by rw [h.bl_inv, DenL.bools_inv t]; rfl
theorem cs_all {K : PySem.W.Frag} : CallS K (rAllB K) cAll := fun G H xs ds Q Q2 s hd h k => by
  unfold cAll at h
  split at h
  · obtain ⟨bs, e, q⟩ := h
    obtain ⟨v, rfl, d1⟩ := denl1 hd
    obtain ⟨a, vs, rfl, ha, la⟩ := d1.lst_inv
    rw [boolsF_some e] at la
    have ev : vs = bs.map V.bl := DenL.bools_inv la
    subst ev
    exact ⟨a, bs, rfl, s.seq ha, k _ G H _ (Ext.refl s) (.bl _) q⟩
  · exact h.elim
theorem de_all (hc : X.calm = true) (hm : X.mg "all" = none) (ha : DA X (e :: es) t) (hg : Gl X "all" := by rfl) (he : starEach (e :: es) X.env = (false, eval e X.env) :: starEach es X.env := by rfl) (hpl : (backTo pos (starEach es X.env)).any (·.1) = false := by rfl) : DE X (.Call (.Name "all" p) (e :: es) [] pos) (dCall cAll t) :=
  de_callB (call_allB hc) cs_all hm (by rfl) ha hg (by decide) (by decide) he hpl
/-! ### xs.extend(l) -/
open AutoSeq1 in
theorem meetsExt (l : Addr) (xs : Array Value) (n : Nat) (b : Addr) (ys : Array Value) (m : Nat) (dd : Option Addr) (sl : Array (Option Value)) (h0 : ¬ (!xs.isEmpty && Builtin.List.listTooLong (xs.size + ys.size)) = true) (h1 : xs.size ≤ sizeLine) (h2 : xs.size + ys.size ≤ sizeLine + 1) :
    Meets (Builtin.«list.extend» ⟨[.ref l, .ref b], []⟩) (fun _ R s => s.heap.get? l = some { cls := .type "list", dict := none, data := .seq xs n, slots := #[] } ∧ s.heap.get? b = some { cls := .type "list", dict := dd, data := .seq ys m, slots := sl } ∧
      R (.ok (.ret Value.none)) { s with heap := s.heap.update l (Obj.mapSeq fun x => x ++ ys) }) :=
  .of_wp fun prog w A R s h => by
    obtain ⟨hp, g, d, tk, os⟩ := s
    obtain ⟨hl, hb, h⟩ := h
    have f3 := AutoSeq1.sub_list_list
    have hz' : (xs ++ ys).size ≤ sizeLine + 1 := by rw [Array.size_append]; exact h2
    wp_walk using (wpAny_updateSeq hl rfl (hz := h1) (_hz' := hz')), wpAny_loadPart' hl, wpAny_loadPart' hb
    exact ⟨_, rfl, h⟩
def rExtendS (K : PySem.W.Frag) : V → List V → Hp → VK → Prop := fun x vs H Q => ∃ (l b : Addr) (xs zs : List V), x = .ref l ∧ vs = [.ref b] ∧ H l = some (.lst xs) ∧ SqL K H b zs ∧ xs.length + zs.length ≤ sizeLine ∧ Q .non (upd H l (.lst (xs ++ zs)))
theorem mt_extendS : MtM X "list.extend" (rExtendS X.K) := by
  rintro pins s σ H x vs v us Q I rx rv ⟨l, b, xs, zs, rfl, rfl, hH, hB, hz, q⟩
  cases rx
  obtain ⟨u, rfl, ru⟩ := rv.one
  cases ru
  obtain ⟨z, its, n, r, hl, e⟩ := I.lstM hH
  obtain ⟨its2, r2, pl2, z2⟩ := I.list hB
  obtain ⟨⟨cls2, dd2, data2, sl2⟩, n2, e2, c2, d2, k2⟩ := pl2
  simp only at c2 d2 k2
  subst c2 d2 k2
  have el := r.length
  have el2 := r2.length
  have hno : ¬ (!its.toArray.isEmpty && Builtin.List.listTooLong (its.toArray.size + its2.toArray.size)) = true := by
    rw [notLongL (by rw [List.size_toArray, List.size_toArray]; omega), Bool.and_false]; exact Bool.false_ne_true
  refine call_meets F.slot_list_extend ⟨_, e, rfl⟩ F.entry_list_extend (F.args_list_extend_2 _ _) (meetsExt l its.toArray n b its2.toArray n2 none sl2 hno (by rw [List.size_toArray]; omega) (by rw [List.size_toArray, List.size_toArray]; omega)) ⟨e, e2, ?_⟩
  refine ⟨.non, _, I.lset (its' := its ++ its2) hH e (by simp) (r.append r2) (by rw [List.length_append]; exact hz), rfl, q⟩
theorem ds_extend (i : Nat) {x : Str} {e₀ : Expr} {np ap cp : Pos} {te : TEd} (he : DE X e₀ te) (hN : X.N[i]? = some x := by rfl) (hv : Vis X.env.scope x := by first | exact Or.inl rfl | exact Or.inr (Or.inl rfl) | exact Or.inr (Or.inr rfl))
    (hd : (x == ("__debug__" : Str)) = false := by decide) (hcd : (x == ("__classdict__" : Str)) = false := by decide)
    (hs : swapsWith (.Call (.Attribute (.Name x np) "extend" ap) [e₀] [] cp) none pos.line X.env = pure false := by rfl)
    (hbase : attributeBase (.Name x np) "extend" X.env (eval (.Name x np) X.env) = eval (.Name x np) X.env := by rfl)
    (hfew : ((backTo cp (starEach [e₀] X.env)).all (fun x => !x.1) && (backToKw cp (keywordEach [] X.env)).all (fun x => x.1.isSome)
      && decide ([e₀].length + ([] : List Keyword).length + (if ([] : List Keyword).isEmpty then 0 else 1) < 30)) = true := by rfl)
    (hline : (ap.endLine == cp.line) = true := by rfl) (hst : starEach [e₀] X.env = (false, eval e₀ X.env) :: starEach [] X.env := by rfl) (hplain : (backTo cp (starEach [] X.env)).any (·.1) = false := by rfl) :
    DS X (.Expr (.Call (.Attribute (.Name x np) "extend" ap) [e₀] [] cp) pos) (dExt i te) :=
  ps_imp (ps_expr (pe_bm PySem.F.plainAttrs_list PySem.F.slot_list_extend PySem.F.type_list_extend mt_extendS (pe_var hN hv hd hcd) (pa_cons he pa_nil hst) hbase hfew hline hst hplain) hs) fun F σ H ⟨n, δ, G, E, R, h, k⟩ => by
    unfold dExt at h
    split at h
    · rename_i l0 e0
      obtain ⟨p, vs, g1, g2, g3, g4, g5⟩ := R.sl i _ e0
      refine ⟨.ref p, g1, .inl ⟨rfl, vs, SqL.of g2⟩, n, δ, G, _, R, h, fun v G1 H1 d δ1 R1 s1 d1 h1 => ?_⟩
      split at h1
      · rename_i l1 m e1
        obtain ⟨q, ws, k1, k2, k3, k4, k5⟩ := R1.sl i _ e1
        rw [g1] at k1; cases k1
        obtain ⟨b, zs, rfl, hb, lb⟩ := d1.lst_inv
        exact ⟨p, b, ws, zs, rfl, rfl, k2, R1.sub.seq hb, by rw [k5.length, lb.length]; exact h1.1, k.nx _ σ G1 _ (R1.change e1 g1 (k5.append lb)) h1.2⟩
      · exact h1.elim
    · exact h.elim
end
end Dl

namespace Dl
open PySem PySem.Spec PyProof.Rows L2
/-! ## enumerate; a written text walked, and a sign of it -/
section
variable {X : Cx} {pins : List (Addr × Obj)} {σ : L2.St} {H : Hp} {s : Shared} {fp : List Addr}
/-- an iterator's records have turned, and a new tuple lies there -/
theorem Inv.yields {g : Heap} {tk : Nat} {vs : List V} {us : List Value} (I : Inv X pins σ H s) (hf : ∀ b ∈ fp, FpOk X pins H b) (fo : ∀ b ∈ fp, ∃ o, s.heap.get? b = some o)
    (kp : ∀ c o, c ∉ fp → s.heap.get? c = some o → g.get? c = some o) (pT : IsTup g s.heap.objs.size us.toArray) (rv : Vals vs us) (hz : vs.length ≤ sizeLine) :
    Inv X pins σ (upd H s.heap.objs.size (.tup vs)) { s with heap := g, toks := tk } ∧ ∀ b ∈ fp, upd H s.heap.objs.size (.tup vs) b = none := by
  have hfree : ∀ b ∈ fp, H b = none := fun b hb => (hf b hb).1
  have lt : ∀ {b : Addr} {o : Obj}, s.heap.get? b = some o → b ≠ s.heap.objs.size := fun e => Nat.ne_of_lt (Heap.lt_size e)
  have trk : ∀ {b : Addr} {o : HO}, H b = some o → b ∉ fp := fun e hb => by rw [hfree _ hb] at e; cases e
  have fr : H s.heap.objs.size = none := I.hok.fresh (Nat.le_refl _)
  have un : Un (frs X.stack) fp H (upd H s.heap.objs.size (.tup vs)) s.heap g := by
    refine ⟨fun b o e _ _ nx => kp b o nx e, fun b o e _ _ nx => ⟨o.slots, kp b o nx e⟩, fun b o e n _ => by rw [upd_ne (lt e)]; exact n, fun b o e nx => ⟨o, kp b o nx e⟩, fun b zs e => ?_, fun b o' w' e => ?_, fun b ps e => ⟨#[], ?_⟩⟩
    · rw [upd_ne (ne_of_none e fr)]; exact e
    · rw [upd_ne (ne_of_none e fr)]; exact e
    · rw [upd_ne (ne_of_none e fr), e]; simp
  have hok : HOk X.prog X.w (upd H s.heap.objs.size (.tup vs)) g := fun b o e => by
    by_cases hb : b = s.heap.objs.size
    · subst hb
      rw [upd_same] at e; cases e
      exact ⟨hz, us, rv, pT⟩
    · rw [upd_ne hb] at e
      refine (I.hok b o e).stay (fun c w' hc' q => kp c w' ?_ q) (fun c q => by rw [upd_ne (ne_of_none q fr)]; exact q) fun c zs q => by rw [upd_ne (ne_of_none q fr)]; exact q
      rcases hc' with rfl | hc'
      · exact trk e
      · exact trk hc'
  refine ⟨I.call' (s' := { s with heap := g, toks := tk }) (ch := fp) rfl un hok I.bare fun b hb => ⟨(hf b hb).2.2.2.1, (hf b hb).2.1, (hf b hb).2.2.2.2.1, (hf b hb).2.2.2.2.2⟩, fun b hb => ?_⟩
  obtain ⟨o, eo⟩ := fo b hb
  rw [upd_ne (lt eo)]; exact hfree b hb
/-- an iterator's records have turned, and no more -/
theorem Inv.turns {g : Heap} {tk : Nat} (I : Inv X pins σ H s) (hf : ∀ b ∈ fp, FpOk X pins H b) (kp : ∀ c o, c ∉ fp → s.heap.get? c = some o → g.get? c = some o) : Inv X pins σ H { s with heap := g, toks := tk } := by
  have hfree : ∀ b ∈ fp, H b = none := fun b hb => (hf b hb).1
  have trk : ∀ {b : Addr} {o : HO}, H b = some o → b ∉ fp := fun e hb => by rw [hfree _ hb] at e; cases e
  have un : Un (frs X.stack) fp H H s.heap g := ⟨fun b o e _ _ nx => kp b o nx e, fun b o e _ _ nx => ⟨o.slots, kp b o nx e⟩, fun _ _ _ n _ => n, fun b o e nx => ⟨o, kp b o nx e⟩, fun _ _ e => e, fun _ _ _ e => e, fun b ps e => ⟨#[], by rw [e]; simp⟩⟩
  have hok : HOk X.prog X.w H g := fun b o e => by
    refine (I.hok b o e).stay (fun c w' hc' q => kp c w' ?_ q) (fun c q => q) fun c zs q => q
    rcases hc' with rfl | hc'
    · exact trk e
    · exact trk hc'
  exact I.call' (s' := { s with heap := g, toks := tk }) (ch := fp) rfl un hok I.bare fun b hb => ⟨(hf b hb).2.2.2.1, (hf b hb).2.1, (hf b hb).2.2.2.2.1, (hf b hb).2.2.2.2.2⟩
end
/-! ### enumerate -/
theorem draws_sub {P : Program} {w : World} {A : Around} (hh : A.handled = none) {b : Bool} {j a : Addr} (ne : a ≠ j) (its : Array Value) :
    Draws P w A j [j, a] its.size (fun i v => its[i]? = some v) (SubIt b j a its) where
  live := fun _ _ st => let ⟨o, e, _⟩ := st.obj; ⟨o, e⟩
  frame := fun _ _ _ st k => st.at (fun o e => k j (by simp) o e) fun o e => k a (by simp) o e
  item := fun i s Q E hi st q => sub_item st ne (x := its[i]) (by simp [hi]) fun g y m => q _ g s.toks (by simp [hi]) y m
  done := fun s Q E st q => sub_end hh st (by simp) q
theorem draws_end {P : Program} {w : World} {A : Around} (hh : A.handled = none) {b : Bool} {j a : Addr} {its : Array Value} {i0 : Nat} (hx : its[i0]? = none) :
    Draws P w A j [j, a] 0 (fun _ _ => False) (fun _ h => SubIt b j a its i0 h) where
  live := fun _ _ st => let ⟨o, e, _⟩ := st.obj; ⟨o, e⟩
  frame := fun _ _ _ st k => st.at (fun o e => k j (by simp) o e) fun o e => k a (by simp) o e
  item := fun i s Q E hi _ _ => absurd hi (Nat.not_lt_zero _)
  done := fun s Q E st q => sub_end hh st hx q
def Ite (K : PySem.W.Frag) (b : Bool) (a : Addr) : It :=
  ⟨fun i H => ∃ xs x, SqB K b H a xs ∧ xs[i]? = some x,
   fun i H v H' => ∃ p x, v = .ref p ∧ H p = none ∧ H' = upd H p (.tup [.int (i : Nat), x]) ∧ ∀ xs, SqB K b H a xs → xs[i]? = some x,
   fun i H => ∃ xs, SqB K b H a xs ∧ xs.length ≤ i⟩
theorem turn_enum {P : Program} {w : World} {K : PySem.W.Frag} {elts : List Expr} {kk : Nat} {tp : Pos} {en j a : Addr} {b : Bool} (n1 : en ≠ j) (n2 : a ≠ j) (n3 : a ≠ en) :
    Turn P w K (.Tuple elts kk tp) (Ite K b a) [en, j] en (fun i h => (∃ old, IsEnum h en j (i : Nat) old) ∧ ItIs b j a i h) where
  mem := by simp
  obj := fun i h ⟨⟨old, h1⟩, h2⟩ c hc => by
    simp only [List.mem_cons, List.not_mem_nil, or_false] at hc
    rcases hc with rfl | rfl
    · exact ⟨_, h1, fun v z => nomatch z⟩
    · exact h2.obj
  keep := fun i h h' ⟨⟨old, h1⟩, h2⟩ k => ⟨⟨old, k en (by simp) _ h1⟩, h2.at fun o e => k j (by simp) o e⟩
  item := by
    intro X hP hw hK hc i pins s σ H E I hf ⟨⟨old, h1⟩, h2⟩ ⟨xs, x, q1, hx⟩
    subst hP hw hK
    obtain ⟨its, r, e1⟩ := Inv.seqB I q1
    obtain ⟨u, hu, ru⟩ := r.get hx
    have hlt : i < its.toArray.size := by rw [List.size_toArray]; exact (List.getElem?_eq_some_iff.mp hu).1
    refine wpAny_pyNext_enum_itemD (draws_sub (A := X.A.in1) (b := b) (I.ok.hd hc) n2 its.toArray) h1 (h2.sub e1) hlt n1 (by simp [n1, Ne.symm n3]) fun y g tk hy z1 z2 z3 z4 kp => ?_
    have ey : y = u := by
      have : its[i]? = some y := by simpa using hy
      rw [hu] at this; exact (Option.some.inj this).symm
    subst ey
    refine ⟨_, rfl, wpAny_letOwnedTupleGo_enum z1 fun g' z1' sb => ?_⟩
    have lte : en ≠ s.heap.objs.size := Nat.ne_of_lt (Heap.lt_size h1)
    obtain ⟨I1, fr1⟩ := Inv.yields (fp := [en, j]) (tk := tk + 1) (g := g') (vs := [.int (i : Nat), x]) (us := [.int (i : Nat) tk, y]) I hf
      (fun c hc' => by
        simp only [List.mem_cons, List.not_mem_nil, or_false] at hc'
        rcases hc' with rfl | rfl
        · exact ⟨_, h1⟩
        · obtain ⟨o, eo, _⟩ := h2.obj; exact ⟨o, eo⟩)
      (fun c o hc' e => by
        simp only [List.mem_cons, List.not_mem_nil, or_false, not_or] at hc'
        exact sb.extBut _ _ hc'.1 (kp c o hc'.1 hc'.2 e))
      ⟨_, sb.extBut _ _ (Ne.symm lte) z3, rfl, _, rfl⟩ (.cons ⟨_, rfl⟩ (.cons ru .nil)) (by show 2 ≤ sizeLine; decide)
    refine ⟨.ref s.heap.objs.size, _, I1, rfl, ⟨_, x, rfl, I.hok.fresh (Nat.le_refl _), rfl, fun ys hy' => by rw [Inv.seqB_inj I hy' q1]; exact hx⟩, ⟨⟨_, by rw [show (((i + 1 : Nat) : Nat) : Int) = ((i : Nat) : Int) + 1 by omega]; exact z1'⟩, z2.it.at fun o e => sb.extBut _ _ (Ne.symm n1) e⟩, fr1⟩
  done := by
    intro X hP hw hK hc i pins s σ H E I hf ⟨⟨old, h1⟩, h2⟩ ⟨xs, q1, hl⟩
    subst hP hw hK
    obtain ⟨its, r, e1⟩ := Inv.seqB I q1
    have hx : its.toArray[i]? = none := by simp; rw [← r.length]; exact hl
    refine wpAny_pyNext_enum_endD (draws_end (A := X.A.in1) (b := b) (I.ok.hd hc) hx) h1 (h2.sub e1) fun g kp => ⟨rfl, ?_⟩
    exact Inv.turns (fp := [en, j]) (tk := s.toks) I hf fun c o hc' e => kp c o (fun z => hc' (by simp [z])) e
  self := fun A i s Q E ⟨⟨old, h1⟩, h2⟩ q => wpAny_pyIter_enum h1 q
abbrev enH (b : Bool) (h : Heap) (p : Addr) : Heap := (zh1 b h p).push { cls := .type "enumerate", data := .fields #[.none, .bool false, .ref h.objs.size, rawInt 0, .none, .none] }
set_option maxHeartbeats 4000000 in
open AutoSeq1 in
theorem meetsEnum (b : Bool) (p : Addr) (xs : Array Value) : Meets (Builtin.«enumerate.__new__» ⟨[.type "enumerate", .ref p], []⟩) (fun _ R s => SeqIs b p xs s.heap ∧ R (.ok (.ret (.ref (zh1 b s.heap p).objs.size))) { s with heap := enH b s.heap p }) :=
  .of_wp fun prog w A R s h => by
    obtain ⟨hp, g, d, tk, os⟩ := s
    obtain ⟨e1, h⟩ := h
    have hsub := sub_enumerate
    cases b with
    | false =>
      have L1 : Heap.IsList (Shared.heap ⟨hp, g, d, tk, os⟩) p xs := e1
      obtain ⟨o, ho, _, _⟩ := id L1
      wp_walk using wpAny_loadPart' ho
      refine wpAny_stack_any fun st => wpAny_pure ?_
      split
      · rename_i c _ _ _ _ _
        cases (c == Value.type "enumerate") <;> (wp_walk using wpAny_loadPart' ho, wpAny_pyIter_list L1; exact ⟨_, rfl, h⟩)
      · wp_walk using wpAny_loadPart' ho, wpAny_pyIter_list L1
        exact ⟨_, rfl, h⟩
    | true =>
      have L1 : Heap.IsTuple (Shared.heap ⟨hp, g, d, tk, os⟩) p xs := e1
      obtain ⟨o, ho, _, _⟩ := id L1
      wp_walk using wpAny_loadPart' ho
      refine wpAny_stack_any fun st => wpAny_pure ?_
      split
      · rename_i c _ _ _ _ _
        cases (c == Value.type "enumerate") <;> (wp_walk using wpAny_loadPart' ho, wpAny_pyIter_tuple L1; exact ⟨_, rfl, h⟩)
      · wp_walk using wpAny_loadPart' ho, wpAny_pyIter_tuple L1
        exact ⟨_, rfl, h⟩
section
variable {prog : Program} {w : World} {A : Around} {E : Value → Shared → Prop} {s : Shared} {b : Bool} {p : Addr} {xs : Array Value}
theorem callEnum {Q : Value → Shared → Prop} (e1 : SeqIs b p xs s.heap)
    (q : ∀ g, IsEnum g (s.heap.objs.size + 1) s.heap.objs.size 0 .none → SubIt b s.heap.objs.size p xs 0 g → (∀ c o, s.heap.get? c = some o → g.get? c = some o) → Q (.ref (s.heap.objs.size + 1)) { s with heap := g }) :
    wpAny (model prog w) A (call (.type "enumerate") [.ref p]) Q E s := by
  refine callType_new F.called_enumerate (by decide) (F.typeCall_enumerate_1 _) (F.newCall_enumerate_1 _) (fun ob => F.args_object_init_2 ob _) F.entry_enumerate_new (meetsEnum b p xs) ⟨e1, ?_⟩
  have n1 : (zh1 b s.heap p).objs.size = s.heap.objs.size + 1 := Heap.size_push ..
  have w2 : (enH b s.heap p).get? (zh1 b s.heap p).objs.size = some _ := Heap.get?_push_size _ rfl
  have w1 : (enH b s.heap p).get? s.heap.objs.size = some _ := Heap.get?_push_of_some _ (Heap.get?_push_size _ rfl)
  have kp : ∀ c o, s.heap.get? c = some o → (enH b s.heap p).get? c = some o := fun c o e => Heap.get?_push_of_some _ (Heap.get?_push_of_some _ e)
  show _ ∧ _
  rw [n1] at w2 ⊢
  exact ⟨⟨_, w2, rfl⟩, q _ w2 (subIt_0 w1 (e1.at fun o e => kp _ o e)) kp⟩
end
section
variable {X : Cx} {elts : List Expr} {kk : Nat} {tp p pos : Pos} {a : Expr}
def iEnum (K : PySem.W.Frag) (ta : TA) : TI := fun σ H R => ta σ H fun vs H1 => ∃ a1 b1, vs = [.ref a1] ∧ (∃ xs, SqB K b1 H1 a1 xs) ∧ R (Ite K b1 a1) H1
theorem boot_enum : bootBuiltins "enumerate" = some (.type "enumerate") := by rfl
theorem pi_enum {ta : TA} (hg : Gl X "enumerate") (hm : X.mg "enumerate" = none) (ha : PA X [a] ta) (hs : starEach [a] X.env = (false, eval a X.env) :: starEach [] X.env) (hpl : (backTo pos (starEach [] X.env)).any (·.1) = false) :
    PI X (.Tuple elts kk tp) (.Call (.Name "enumerate" p) [a] [] pos) (iEnum X.K ta) := by
  intro pins s σ H R I h
  refine Call_ (ld_blt I hg hm boot_enum (PyProof.Rows.callWith_type1 (thn (ha pos pins s σ H _ I h) fun us s1 ⟨vs, H1, I1, r1, a1, b1, ev, ⟨xs, q1⟩, q⟩ => ?_) hs hpl))
  subst ev
  obtain ⟨u1, rfl, ru1⟩ := r1.one
  cases ru1
  obtain ⟨its1, v1, e1⟩ := Inv.seqB I1 q1
  refine callEnum e1 fun g z1 z2 kp => wpAny_pyIter_enum z1 ?_
  have l1 : @LT.lt Nat _ a1 s1.heap.objs.size := e1.lt
  refine ⟨_, _, _, _, H1, rfl, I1.kept (t' := s1.toks) kp, turn_enum (Nat.ne_of_gt (Nat.lt_succ_self _)) (Nat.ne_of_lt l1) (Nat.ne_of_lt (Nat.lt_succ_of_lt l1)), ⟨⟨_, z1⟩, z2.it⟩, fun b hb => ?_, q⟩
  have hge : s1.heap.objs.size ≤ b := by
    simp only [List.mem_cons, List.not_mem_nil, or_false] at hb
    rcases hb with rfl | rfl <;> omega
  exact I1.fpOk hge (I1.hok.fresh hge)
theorem jok_enum {K : PySem.W.Frag} {G : Hp} {b1 : Bool} {a1 : Addr} {vs : List V} {l : List D} (h1 : SqB K b1 G a1 vs) (d1 : DenL K G vs l) : JOk K G (Ite K b1 a1) (enumL l) := by
  have e1 := d1.length
  have el : (enumL l).length = l.length := by unfold enumL; rw [List.length_map, List.length_range]
  refine ⟨fun i G1 H1 s1 s2 hi => ?_, fun i G1 H1 x H2 s1 s2 hi y => ?_, fun i G1 H1 s1 s2 hi => ?_⟩
  · rw [el] at hi
    exact ⟨vs, vs[i]'(by omega), h1.seq (s1.trans s2), by simp⟩
  · rw [el] at hi
    obtain ⟨p, v, rfl, hp, rfl, k1⟩ := y
    obtain ⟨dx, hx, ex⟩ := d1.getV (k1 vs (h1.seq (s1.trans s2)))
    have sg : Same G1 (upd G1 p (.tup [.int (i : Nat), v])) := same_upd (s2.free hp) _
    have eg : (enumL l)[i]? = some (.tup [.int (i : Nat), dx]) := by
      unfold enumL
      rw [List.getElem?_map, List.getElem?_range hi]
      show some (D.tup [.int (i : Nat), l.getD i .non]) = _
      rw [List.getD_eq_getElem?_getD, hx]; rfl
    exact ⟨_, _, Ext.laid s2 hp _, eg, .tup (SqT.of upd_same) (.cons (.int _) (.cons (ex.up (s1.trans sg)) .nil))⟩
  · rw [el] at hi
    exact ⟨vs, h1.seq (s1.trans s2), by omega⟩
theorem di_enum {ta : TAd} (hm : X.mg "enumerate" = none) (ha : DA X [a] ta) (hg : Gl X "enumerate" := by rfl) (hs : starEach [a] X.env = (false, eval a X.env) :: starEach [] X.env := by rfl) (hpl : (backTo pos (starEach [] X.env)).any (·.1) = false := by rfl) :
    DI X (.Tuple elts kk tp) (.Call (.Name "enumerate" p) [a] [] pos) (diEnum ta) :=
  pi_imp (pi_enum hg hm ha hs hpl) fun σ H R2 ⟨n, δ, G, Q, R, h, k⟩ => ⟨n, δ, G, _, R, h, fun vs G1 H1 ds δ1 R1 s1 d1 h1 => by
    split at h1
    · obtain ⟨l, e1, q⟩ := h1
      cases d1 with
      | cons x1 d1 =>
        cases d1
        obtain ⟨b1, a1, ws1, rfl, q1, k1⟩ := den_sqb x1 e1
        exact ⟨a1, b1, rfl, ⟨_, q1.seq R1.sub⟩, k _ G1 H1 _ δ1 R1 s1 (jok_enum q1 k1) q⟩
    · exact h1.elim⟩
end
end Dl

namespace Dl
open PySem PySem.Spec PyProof.Rows L2
/-! ## min of a list of ints -/
section
variable {X : Cx} {e : Expr} {es : List Expr} {t : TAd} {p pos : Pos}
def rMinL (K : PySem.W.Frag) : List V → Hp → VK → Prop := fun xs H Q => ∃ (p : Addr) (ns : List Int), xs = [.ref p] ∧ SqL K H p (ns.map V.int) ∧ ns ≠ [] ∧ ∀ m : Int, m ∈ ns → (∀ x ∈ ns, m ≤ x) → Q (.int m) H
theorem call_minL (hc : X.calm = true) : CallR X (.builtin "min") (rMinL X.K) := by
  rintro pins s σ H xs us Q I r ⟨p, ns, rfl, hq, hne, q⟩
  obtain ⟨u, rfl, ru⟩ := r.one
  cases ru
  obtain ⟨its, rv, pl, hz⟩ := I.list hq
  have hi := intsAre_of rv
  obtain ⟨ys, ey⟩ := hi.allInts.items
  have e0 : numsOf its.toArray.toList = ns := hi.numsOf
  have el := rv.length
  rw [List.length_map] at el
  have l1 : (intItems ys).size = ns.length := by rw [← ey, List.size_toArray, el]
  have l2 : ys.size = ns.length := by simpa [intItems] using l1
  have lp : 0 < ns.length := List.length_pos_iff.mpr hne
  rw [ey, nums_intItems] at e0
  refine min_intList (I.ok.hd hc) (ey ▸ pl.isList) (by omega) fun v h' tk hv hk => ?_
  obtain ⟨t, rfl⟩ := intItems_at hv
  obtain ⟨h1, h2⟩ := argBest_lt (numAt ys) (ys.size - 1)
  refine ⟨.int _, H, I.kept (t' := tk) hk, ⟨t, rfl⟩, q _ ?_ fun x hx => ?_⟩
  · rw [← e0, numAt_eq]; exact getD_mem (by rw [List.length_map, Array.length_toList]; omega)
  · rw [← e0] at hx
    obtain ⟨j, hj, rfl⟩ := mem_getD hx
    rw [List.length_map, Array.length_toList] at hj
    rw [← numAt_eq]; exact h2 j (by omega)
theorem cs_minL {K : PySem.W.Frag} : CallS K (rMinL K) cMinL := fun G H xs ds Q Q2 s hd h k => by
  unfold cMinL at h
  split at h
  · obtain ⟨l, e0, ns, e, hne, h64, q⟩ := h
    obtain ⟨v, rfl, d1⟩ := denl1 hd
    unfold lstF at e0
    split at e0
    · cases e0
      obtain ⟨a, vs, rfl, ha, la⟩ := d1.lst_inv
      rw [intsF_some e] at la
      have ev : vs = ns.map V.int := DenL.ints_inv la
      subst ev
      exact ⟨a, ns, rfl, s.seq ha, hne, fun m p1 p2 => k _ G H _ (Ext.refl s) (.int _) (q m p1 p2)⟩
    · cases e0
  · exact h.elim
theorem de_minL (hc : X.calm = true) (hm : X.mg "min" = none) (ha : DA X (e :: es) t) (hg : Gl X "min" := by rfl) (he : starEach (e :: es) X.env = (false, eval e X.env) :: starEach es X.env := by rfl) (hpl : (backTo pos (starEach es X.env)).any (·.1) = false := by rfl) : DE X (.Call (.Name "min" p) (e :: es) [] pos) (dCall cMinL t) :=
  de_callB (call_minL hc) cs_minL hm (by rfl) ha hg (by decide) (by decide) he hpl
end
end Dl

namespace Dl
open PySem PySem.Spec PyProof.Rows L2
/-! ## min(l, default=c) -/
section
variable {P : Program} {w : World} {A : Around} {R : Result → Shared → Prop} {j : Addr} {fp wr : List Addr} {n : Nat} {V : Nat → Value → Prop} {St : Nat → Heap → Prop} {kw : List (Str × Value)} {bt : Nat → Nat → Bool}
abbrev mnCode (j : Addr) (b : Addr) (kw : List (Str × Value)) : Code := .builtin "min.loop" ⟨[.ref j, .none, .ref b], kw⟩
theorem nm_min : (toString "min" ++ toString ".loop" : String) = "min.loop" := by decide
/-- one is kept; the rest is walked -/
theorem min_rest (W : Walks P w A.in1 j fp wr n V St) (hc : CmpOf P w A.in1 .Lt V bt) (b : Addr) (hb : b ∉ fp) : ∀ (k i : Nat) (s : Shared) (x : Value) (c : Nat), k + (i + 1) = n → St (i + 1) s.heap → V (argBest bt i) x →
    s.heap.get? b = some { cls := .type "list", dict := none, data := .seq #[x, x] c, slots := #[] } →
    (∀ v g tk, V (argBest bt (n - 1)) v → (∀ a o, a ∉ wr → a ≠ b → s.heap.get? a = some o → g.get? a = some o) → R (.ok (.ret v)) { s with heap := g, toks := tk }) → codeAny (model P w) A (mnCode j b kw) R s
  | 0, i, s, x, c, hk, hst, hV, hB, hR => by
    have hw : b ∉ wr := fun h => hb (W.sub _ h)
    have en : i + 1 = n := by omega
    refine codeAny_builtin F.entry_min_loop ((Around.under_plainId F.plain_min_loop _).symm ▸ ?_)
    refine (show wpAny _ A.in1 (seqItems? (.ref b) >>= _) _ _ s from wpAny_bind (wpAny_seqItems hB rfl ?_))
    refine (show wpAny _ A.in1 (tryCatch (pyNext (.ref j)) _ >>= _) _ _ s from wpAny_bind (wpAny_tryCatch (W.done s _ _ (en ▸ hst) fun g tk kp => ?_)))
    refine (show wpAny _ A.in1 (updateSeq b (fun _ => #[]) >>= _) _ _ _ from wpAny_bind (wpAny_updateSeq (kp b _ hw hB) rfl (wpAny_bind (wpAny_letGo (wpAny_pure ?_)))))
    exact hR x _ tk (by rw [← en]; exact hV) fun a o ha hab e => (Heap.get?_update_other _ _ (Ne.symm hab)).trans (kp a o ha e)
  | k + 1, i, s, x, c, hk, hst, hV, hB, hR => by
    have hw : b ∉ wr := fun h => hb (W.sub _ h)
    refine codeAny_builtin F.entry_min_loop ((Around.under_plainId F.plain_min_loop _).symm ▸ ?_)
    refine (show wpAny _ A.in1 (seqItems? (.ref b) >>= _) _ _ s from wpAny_bind (wpAny_seqItems hB rfl ?_))
    refine (show wpAny _ A.in1 (tryCatch (pyNext (.ref j)) _ >>= _) _ _ s from wpAny_bind (wpAny_tryCatch (W.item (i + 1) s _ _ (by omega) hst fun v g tk hv hst' kp => ?_)))
    have hB' := kp b _ hw hB
    refine (show wpAny _ A.in1 (tryCatch (holding [v, v] (richCompare .Lt v x >>= _)) _ >>= _) _ _ _ from wpAny_bind (wpAny_tryCatch (wpAny_holding (wpAny_bind (hc (i + 1) (argBest bt i) v x _ _ _ hv hV ?_)))))
    refine wpAny_bind (wpAny_holding (wpAny_truthy_bool (wpAny_bind (wpAny_letGo (wpAny_pure ?_)))))
    cases q : bt (i + 1) (argBest bt i) with
    | true =>
      refine (show wpAny _ A.in1 (updateSeq b (fun _ => #[v, v]) >>= _) _ _ _ from wpAny_bind (wpAny_updateSeq hB' rfl (wpAny_bind (wpAny_letGo ?_))))
      rw [nm_min]
      refine wpAny_pure ⟨plainId_quiet F.plain_min_loop _, min_rest W hc b hb k (i + 1) _ v _ (by omega) (W.frame _ _ _ hst' fun a ha o e => ?_) (by show V (if bt (i + 1) (argBest bt i) = true then i + 1 else argBest bt i) v; rw [if_pos q]; exact hv) (Heap.get?_update_self _ hB' rfl) fun v' g' tk' hv' kp' => hR v' g' tk' hv' fun a o ha hab e => kp' a o ha hab ((Heap.get?_update_other _ _ (Ne.symm hab)).trans (kp a o ha e))⟩
      exact (Heap.get?_update_other _ _ (fun z : b = a => hb (z ▸ ha))).trans e
    | false =>
      refine (show wpAny _ A.in1 (letGo [v, v] >>= _) _ _ _ from wpAny_bind (wpAny_letGo ?_))
      rw [nm_min]
      exact wpAny_pure ⟨plainId_quiet F.plain_min_loop _, min_rest W hc b hb k (i + 1) _ x c (by omega) hst' (by show V (if bt (i + 1) (argBest bt i) = true then i + 1 else argBest bt i) x; rw [if_neg (by rw [q]; exact Bool.false_ne_true)]; exact hV) hB' fun v' g' tk' hv' kp' => hR v' g' tk' hv' fun a o ha hab e => kp' a o ha hab (kp a o ha e)⟩
/-- from the start, with a default -/
theorem min_from {d : Value} {nk : Str} (W : Walks P w A.in1 j fp wr n V St) (hc : CmpOf P w A.in1 .Lt V bt) (b : Addr) (hb : b ∉ fp) {s : Shared} {c : Nat} (hst : St 0 s.heap)
    (hB : s.heap.get? b = some { cls := .type "list", dict := none, data := .seq #[] c, slots := #[] })
    (h0 : n = 0 → ∀ g tk, (∀ a o, a ∉ wr → a ≠ b → s.heap.get? a = some o → g.get? a = some o) → R (.ok (.ret d)) { s with heap := g, toks := tk })
    (hR : 0 < n → ∀ v g tk, V (argBest bt (n - 1)) v → (∀ a o, a ∉ wr → a ≠ b → s.heap.get? a = some o → g.get? a = some o) → R (.ok (.ret v)) { s with heap := g, toks := tk }) : codeAny (model P w) A (mnCode j b [(nk, d)]) R s := by
  have hw : b ∉ wr := fun h => hb (W.sub _ h)
  refine codeAny_builtin F.entry_min_loop ((Around.under_plainId F.plain_min_loop _).symm ▸ ?_)
  refine (show wpAny _ A.in1 (seqItems? (.ref b) >>= _) _ _ s from wpAny_bind (wpAny_seqItems hB rfl ?_))
  by_cases hn : 0 < n
  · refine (show wpAny _ A.in1 (tryCatch (pyNext (.ref j)) _ >>= _) _ _ s from wpAny_bind (wpAny_tryCatch (W.item 0 s _ _ hn hst fun v g tk hv hst' kp => ?_)))
    have hB' := kp b _ hw hB
    refine (show wpAny _ A.in1 (updateSeq b (fun _ => #[v, v]) >>= _) _ _ _ from wpAny_bind (wpAny_updateSeq hB' rfl ?_))
    rw [nm_min]
    refine wpAny_pure ⟨plainId_quiet F.plain_min_loop _, min_rest W hc b hb (n - 1) 0 _ v _ (by omega) (W.frame _ _ _ hst' fun a ha o e => ?_) hv (Heap.get?_update_self _ hB' rfl) fun v' g' tk' hv' kp' => hR hn v' g' tk' hv' fun a o ha hab e => kp' a o ha hab ((Heap.get?_update_other _ _ (Ne.symm hab)).trans (kp a o ha e))⟩
    exact (Heap.get?_update_other _ _ (fun z : b = a => hb (z ▸ ha))).trans e
  · have en : 0 = n := by omega
    refine (show wpAny _ A.in1 (tryCatch (pyNext (.ref j)) _ >>= _) _ _ s from wpAny_bind (wpAny_tryCatch (W.done s _ _ (en ▸ hst) fun g tk kp => ?_)))
    refine (show wpAny _ A.in1 (rule _ >>= _) _ _ _ from wpAny_bind (wpAny_rule (wpAny_pure ?_)))
    exact h0 en.symm g tk fun a o ha _ e => kp a o ha e
end
section
variable {prog : Program} {w : World} {A : Around} {E : Value → Shared → Prop} {s : Shared}
def FinR (Q : Value → Shared → Prop) (E : Value → Shared → Prop) (r : Result) (t : Shared) : Prop := match r with
  | .ok (.ret v) => Q v t
  | .ok _ => False
  | .error e => E e t
def FinS (prog : Program) (w : World) (A : Around) (Q : Value → Shared → Prop) (E : Value → Shared → Prop) (f : Fin) (t : Shared) : Prop := match f with
  | .done f => FinR Q E (.ok f) t
  | .again c => c.quiet = true ∧ codeAny (model prog w) A c (FinR Q E) t
theorem callTreeK {id : String} {b : Builtin} {args : List Value} {kw : List (Str × Value)} {Q : Value → Shared → Prop} (hk : builtinKind id = none) (hp : plainId id = true) (hb : entryFor table id = some b) (ha : argsOk id ⟨args, kw⟩)
    (hc : wpAny (model prog w) A.in1 (b ⟨args, kw⟩) (FinS prog w A Q E) E s) : wpAny (model prog w) A (call (.builtin id) args kw) Q E s := by
  refine wpAny_call (codeAny_call_builtin hp hb ?_)
  simp only [checkBuiltinCall, hk]
  cases hs : Manifest.signature? id with
  | none => exact wpAny_pure hc
  | some sg =>
    have h2 : Bind.checkArgs id sg ⟨args, kw⟩ = pure () := by simpa only [argsOk, hs] using ha
    refine (show wpAny _ A.in1 (Bind.checkArgs id sg ⟨args, kw⟩) _ _ s from ?_)
    rw [h2]; exact wpAny_pure hc
theorem args_minD (x d : Value) : argsOk "min" ⟨[x], [("default", d)]⟩ := by unfold argsOk; kernel_rfl
theorem call_minD {x d : Value} {Q : Value → Shared → Prop}
    (h : wpAny (model prog w) A.in1 (pyIter x) (fun it s2 => ∃ j fp wr n V St bt, it = .ref j ∧ Walks prog w A.in1 j fp wr n V St ∧ St 0 s2.heap ∧ (∀ a ∈ fp, a < s2.heap.objs.size) ∧ CmpOf prog w A.in1 .Lt V bt ∧
      (n = 0 → ∀ g tk, (∀ a o, a ∉ wr → s2.heap.get? a = some o → g.get? a = some o) → Q d { s2 with heap := g, toks := tk }) ∧
      (0 < n → ∀ v g tk, V (argBest bt (n - 1)) v → (∀ a o, a ∉ wr → s2.heap.get? a = some o → g.get? a = some o) → Q v { s2 with heap := g, toks := tk })) E s) :
    wpAny (model prog w) A (call (.builtin "min") [x] [("default", d)]) Q E s := by
  refine callTreeK F.kind_min F.plain_min F.entry_min (args_minD _ _) ?_
  refine (show wpAny _ A.in1 (Builtin.Builtins.bindParams "min" ["key", "default"] 0 ⟨[], [("default", d)]⟩ >>= _) _ _ s from ?_)
  refine wpAny_bind (wpAny_of_eq (show Builtin.Builtins.bindParams "min" ["key", "default"] 0 ⟨[], [("default", d)]⟩ = pure [none, some d] from by kernel_rfl) ?_)
  refine wpAny_bind (wpAny_pure (wpAny_bind (wpAny_mono h (fun it s2 h2 => ?_) fun _ _ e => e)))
  obtain ⟨j, fp, wr, n, V, St, bt, rfl, W, hst, hfp, hc, q0, q1⟩ := h2
  refine wpAny_bind (wpAny_newObj_type ?_)
  have hb : s2.heap.objs.size ∉ fp := fun z => Nat.lt_irrefl _ (hfp _ z)
  rw [nm_min]
  refine wpAny_pure ⟨plainId_quiet F.plain_min_loop _, min_from W hc s2.heap.objs.size hb (W.frame _ _ _ hst fun a _ o e => Heap.get?_push_of_some _ e) (Heap.get?_push_size _ rfl) (fun e g tk kp => q0 e g tk fun a o ha z => kp a o ha (Nat.ne_of_lt (Heap.lt_size z)) (Heap.get?_push_of_some _ z)) fun e v g tk hv kp => q1 e v g tk hv fun a o ha z => kp a o ha (Nat.ne_of_lt (Heap.lt_size z)) (Heap.get?_push_of_some _ z)⟩
end
section
variable {X : Cx} {e : Expr} {te : TEd} {p pos kp cp : Pos} {c : Int} {j : Nat}
def rMinD (K : PySem.W.Frag) (c : Int) : List V → Hp → VK → Prop := fun xs H Q => ∃ (p : Addr) (ns : List Int), xs = [.ref p] ∧ SqL K H p (ns.map V.int) ∧ (ns = [] → Q (.int c) H) ∧ ∀ m : Int, m ∈ ns → (∀ x ∈ ns, m ≤ x) → Q (.int m) H
theorem pe_minD {t : TA} (hcl : X.calm = true) (hm : X.mg "min" = none) (ha : PA X [e] t) (hg : Gl X "min") (he : backTo pos (starEach [e] X.env) = (false, eval e X.env) :: backTo pos (starEach [] X.env)) (hpl : (backTo pos (starEach [e] X.env)).any (·.1) = false) :
    PE X (.Call (.Name "min" p) [e] [⟨some "default", .Constant (.int c) j cp, kp⟩] pos) (tCB (rMinD X.K c) t) := by
  intro pins s σ H Q I h
  refine wpAny_Call_Name_kw (ld_blt I hg hm (show bootBuiltins "min" = some (.builtin "min") by rfl) ?_)
  refine callWith_kw (thn (ha pos pins s σ H _ I h) fun us s1 ⟨vs, H1, I1, r1, q1⟩ => kws_cons (wpAny_Constant_int (kws_nil ?_))) he hpl
  obtain ⟨p, ns, rfl, hq, q0, qm⟩ := q1
  obtain ⟨u, rfl, ru⟩ := r1.one
  cases ru
  have I2 := I1.tok (s1.toks + 1)
  obtain ⟨its, rv, pl, hz⟩ := I2.list hq
  have hi := intsAre_of rv
  obtain ⟨ys, ey⟩ := hi.allInts.items
  have e0 : numsOf its.toArray.toList = ns := hi.numsOf
  have el := rv.length
  rw [List.length_map] at el
  have l1 : (intItems ys).size = ns.length := by rw [← ey, List.size_toArray, el]
  have l2 : ys.size = ns.length := by simpa [intItems] using l1
  rw [ey, nums_intItems] at e0
  refine call_minD (iter_intList (xs := ys) (ey ▸ pl.isList) fun s2 es st hfp hlI => ?_)
  subst es
  refine ⟨_, _, _, _, _, _, _, rfl, Walks.list (A := X.A.in1) (I.ok.hd hcl) _ p hlI (intItems ys), st, hfp, CmpOf.ints_lt (numAt ys) (fun _ _ => intItems_at), fun hn g tk kpt => ?_, fun hn v g tk hv kpt => ?_⟩
  · exact ⟨.int c, H1, I2.kept (t' := tk) (old_kept kpt), ⟨_, rfl⟩, q0 (List.eq_nil_of_length_eq_zero (by omega))⟩
  · obtain ⟨t, rfl⟩ := intItems_at hv
    obtain ⟨h1, h2⟩ := argBest_lt (numAt ys) (ys.size - 1)
    rw [show (intItems ys).size = ys.size by omega]
    refine ⟨.int _, H1, I2.kept (t' := tk) (old_kept kpt), ⟨t, rfl⟩, qm _ ?_ fun x hx => ?_⟩
    · rw [← e0, numAt_eq]; exact getD_mem (by rw [List.length_map, Array.length_toList]; omega)
    · rw [← e0] at hx
      obtain ⟨i, hi', rfl⟩ := mem_getD hx
      rw [List.length_map, Array.length_toList] at hi'
      rw [← numAt_eq]; exact h2 i (by omega)
theorem cs_minD {K : PySem.W.Frag} : CallS K (rMinD K c) (cMinD c) := fun G H xs ds Q Q2 s hd h k => by
  unfold cMinD at h
  split at h
  · obtain ⟨l, e0, ns, e, h64, q0, q⟩ := h
    obtain ⟨v, rfl, d1⟩ := denl1 hd
    unfold lstF at e0
    split at e0
    · cases e0
      obtain ⟨a, vs, rfl, ha, la⟩ := d1.lst_inv
      rw [intsF_some e] at la
      have ev : vs = ns.map V.int := DenL.ints_inv la
      subst ev
      exact ⟨a, ns, rfl, s.seq ha, fun z => k _ G H _ (Ext.refl s) (.int _) (q0 z), fun m p1 p2 => k _ G H _ (Ext.refl s) (.int _) (q m p1 p2)⟩
    · cases e0
  · exact h.elim
theorem de_minD (hcl : X.calm = true) (hm : X.mg "min" = none) (he : DE X e te) (hg : Gl X "min" := by rfl) (h0 : starEach [e] X.env = (false, eval e X.env) :: starEach [] X.env := by rfl) (hs : backTo pos (starEach [e] X.env) = (false, eval e X.env) :: backTo pos (starEach [] X.env) := by rfl) (hpl : (backTo pos (starEach [e] X.env)).any (·.1) = false := by rfl) :
    DE X (.Call (.Name "min" p) [e] [⟨some "default", .Constant (.int c) j cp, kp⟩] pos) (dCall (cMinD c) (dCons te dNil)) :=
  pe_imp (pe_minD hcl hm (da_cons he da_nil h0) hg hs hpl) (call_lift cs_minD)
end
end Dl

namespace Dl
open PySem PySem.Spec PyProof.Rows L2
/-! ## An exception of one's own on its way out -/
/-- how it lies behind a call: B is all that stands whatever the frames' slots are; E is told its class and the abstract heap -/
structure OutE (P : Program) (w : World) (outer : List Env) (H : Hp) (s : Shared) (ea : Addr) (C : Addr) (B : Heap) (H' : Hp) (s' : Shared) : Prop where
  os : s'.os = s.os
  bare : AllBare s'.gens
  un : Un (frs outer) [] H H' s.heap s'.heap
  fly : ∃ t, Heap.FlyingW B outer ea (.ref C) (.ref t) s'.heap
  hok : HOk P w H' B
  keep : ∀ b o, s.heap.get? b = some o → H b = none → b ∉ frs outer → B.get? b = some o
  th : ∀ b o, s.heap.get? b = some o → b ∉ frs outer → ∃ o', B.get? b = some o'
def CXE (P : Program) (w : World) : CXT := fun outer H s E e s' => ∃ (ea C : Addr) (B : Heap) (H' : Hp), e = .ref ea ∧ OutE P w outer H s ea C B H' s' ∧ E (.ref C) none H'
/-- the heap without the frames -/
abbrev noFr (X : Cx) (h : Heap) : Heap := PySem.W.hideAll h (frs X.stack)
section
variable {X : Cx} {pins : List (Addr × Obj)} {σ : L2.St} {H H' : Hp} {s s' : Shared} {ea C : Addr} {vs : List Value} {B h' : Heap}
theorem in_noFr (I : Inv X pins σ H s) {b : Addr} {o : Obj} (e : s.heap.get? b = some o) (n : b ∉ frs X.stack) : (noFr X s.heap).get? b = some o := PySem.W.hideAll_get _ e n
theorem hok_noFr (I : Inv X pins σ H s) : HOk X.prog X.w H (noFr X s.heap) := fun a o e => by
  refine (I.hok a o e).stay (fun b u hb q => in_noFr I q fun z => ?_) (fun _ q => q) fun _ _ q => q
  have hn := I.stkFree b z
  rcases hb with rfl | hb
  · rw [hn] at e; cases e
  · rw [hn] at hb; cases hb
theorem frs_cons {env : Env} {l : List Env} {b : Addr} (h : b ∈ frs (env :: l)) : env.frame = some b ∨ b ∈ frs l := by
  obtain ⟨e, he, hf⟩ := List.mem_filterMap.mp h
  rcases (List.mem_cons.mp he) with rfl | he
  · exact .inl hf
  · exact .inr (List.mem_filterMap.mpr ⟨e, he, hf⟩)
theorem frs_tail {env : Env} {l : List Env} {b : Addr} (h : b ∈ frs l) : b ∈ frs (env :: l) := by
  obtain ⟨e, he, hf⟩ := List.mem_filterMap.mp h
  exact List.mem_filterMap.mpr ⟨e, List.mem_cons_of_mem _ he, hf⟩
theorem ne_stack (I : Inv X pins σ H s) (hst : X.stack = X.env :: X.outer) (hfr : X.env.frame = some X.env.locals) {b : Addr} {o : Obj} (e : X.s₀.heap.get? b = some o) (nb : b ∉ frs X.outer) : b ∉ frs X.stack := fun z => by
  rw [hst] at z
  rcases frs_cons z with z | z
  · rw [hfr] at z; cases z
    exact absurd (Heap.lt_size e) (Nat.not_lt.mpr I.ok.above)
  · exact nb z
/-- from the def's entry to behind it -/
theorem un_out {h2 : Heap} (I : Inv X pins σ H s) (hst : X.stack = X.env :: X.outer) (hex : X.ex = []) (hfr : X.env.frame = some X.env.locals) (u : Un (frs X.stack) [] H H' s.heap h2) : Un (frs X.outer) [] X.H₀ H' X.s₀.heap h2 := by
  have b0 : Un (frs X.outer) [] X.H₀ H X.s₀.heap s.heap := by have z := I.base; rw [hex] at z; exact z
  have ne : ∀ b o, X.s₀.heap.get? b = some o → b ∉ frs X.outer → b ∉ frs X.stack := fun b o e nb z => by
    rw [hst] at z
    rcases frs_cons z with z | z
    · rw [hfr] at z; cases z
      exact absurd (Heap.lt_size e) (Nat.not_lt.mpr I.ok.above)
    · exact nb z
  refine ⟨fun b o e n nb nx => u.keep b o (b0.keep b o e n nb nx) (b0.free b o e n nx) (ne b o e nb) nx, fun b o e n hb nx => ?_, fun b o e n nx => ?_, fun b o e nx => ?_, fun b xs q => u.tups b xs (b0.tups b xs q), fun b o v q => u.frzs b o v (b0.frzs b o v q), fun b ps q => ?_⟩
  · obtain ⟨sl, e1⟩ := b0.slot b o e n hb nx
    obtain ⟨sl', e2⟩ := u.slot b _ e1 (b0.free b o e n nx) (by rw [hst]; exact frs_tail hb) nx
    exact ⟨sl', e2⟩
  · obtain ⟨o', e1⟩ := b0.there b o e nx
    exact u.free b o' e1 (b0.free b o e n nx) nx
  · obtain ⟨o', e1⟩ := b0.there b o e nx
    exact u.there b o' e1 nx
  · obtain ⟨m1, e1⟩ := b0.tbls b ps q
    obtain ⟨m2, e2⟩ := u.tbls b _ e1
    exact ⟨m1 ++ m2, by rw [e2, Array.append_assoc]⟩
/-- the frame that raised is left -/
theorem leave_first (I : Inv X pins σ H s) (hst : X.stack = X.env :: X.outer) (hfr : X.env.frame = some X.env.locals) (hex : X.ex = []) (hx : Heap.MadeExcOf s.heap h' ea (.ref C) vs) {Q : Unit → Shared → Prop} {E : Value → Shared → Prop}
    (hQ : ∀ s'', OutE X.prog X.w X.outer X.H₀ X.s₀ ea C (noFr X s.heap) H s'' → Q () s'') : wpAny (model X.prog X.w) X.A (leaving X.env (.ref ea)) Q E { s with heap := h' } := by
  have hin : ∀ env ∈ X.stack, ∀ b, env.frame = some b → b ∈ frs X.stack := fun env he b hb => List.mem_filterMap.mpr ⟨env, he, hb⟩
  have kb : (noFr X s.heap).StaysIn s.heap := fun b o q => PySem.W.of_hideAll _ q
  have ff : s.heap.FunFrames (noFr X s.heap) (X.env :: X.outer) := by
    have z : s.heap.FunFrames (noFr X s.heap) X.stack := PySem.W.funFrames_hide I.stack hin
    rw [← hst]; exact z
  refine wpAny_leaves_madeW (base := noFr X s.heap) (by rw [I.ok.frames, hst]) hfr kb ff hx fun h'' t x1 x2 x3 x4 => hQ _ ⟨I.os, I.bare, ?_, ⟨t, x1⟩, hok_noFr I, fun b o e n nb => ?_, fun b o e nb => ?_⟩
  · have up : ∀ b o, s.heap.get? b = some o → b ∉ frs X.stack → h''.get? b = some o := fun b o e n => x1.1 b o (in_noFr I e n)
    have u2 : Un (frs X.stack) [] H H s.heap h'' := by
      have sl : ∀ b o, s.heap.get? b = some o → b ∈ frs X.stack → ∃ z, h''.get? b = some { o with slots := z } := fun b o e hb => by
        obtain ⟨_, o', ho', nf⟩ := I.stack.mem hb
        rw [e] at ho'; cases ho'
        exact x4 b o (hx.keeps b o e) nf
      refine ⟨fun b o e _ nb _ => up b o e nb, fun b o e _ hb _ => sl b o e hb, fun _ _ _ n _ => n, fun b o e _ => ?_, fun _ _ q => q, fun _ _ _ q => q, fun _ ps q => ⟨#[], by rw [q]; simp⟩⟩
      by_cases hb : b ∈ frs X.stack
      · obtain ⟨z, hz⟩ := sl b o e hb; exact ⟨_, hz⟩
      · exact ⟨o, up b o e hb⟩
    exact un_out I hst hex hfr u2
  · have e1 := I.base.keep b o e n nb (by rw [hex]; simp)
    refine in_noFr I e1 ?_
    exact ne_stack I hst hfr e nb
  · obtain ⟨o', e1⟩ := I.base.there b o e (by rw [hex]; simp)
    exact ⟨o', in_noFr I e1 (ne_stack I hst hfr e nb)⟩
/-- a frame through which it passes is left -/
theorem leave_next (I : Inv X pins σ H s) (hst : X.stack = X.env :: X.outer) (hfr : X.env.frame = some X.env.locals) (hex : X.ex = []) (O : OutE X.prog X.w X.stack H s ea C B H' s') {Q : Unit → Shared → Prop} {E : Value → Shared → Prop}
    (hQ : ∀ s'', OutE X.prog X.w X.outer X.H₀ X.s₀ ea C B H' s'' → Q () s'') : wpAny (model X.prog X.w) X.A (leaving X.env (.ref ea)) Q E s' := by
  obtain ⟨t, fly⟩ := O.fly
  rw [hst] at fly
  refine wpAny_leaves_onW (by rw [I.ok.frames, hst]) hfr fly fun h'' x1 x2 => hQ _ ⟨O.os.trans I.os, O.bare, un_out I hst hex hfr ?_, ⟨t, x1⟩, O.hok, fun b o e n nb => ?_, fun b o e nb => ?_⟩
  · have sl : ∀ b o, s.heap.get? b = some o → H b = none → b ∈ frs X.stack → ∃ z, h''.get? b = some { o with slots := z } := fun b o e n hb => by
      obtain ⟨z, hz⟩ := O.un.slot b o e n hb (by simp)
      obtain ⟨_, o', ho', nf⟩ := I.stack.mem hb
      rw [e] at ho'; cases ho'
      obtain ⟨z', hz'⟩ := x2 b _ hz nf
      exact ⟨z', hz'⟩
    refine ⟨fun b o e n nb _ => x1.1 b o (O.keep b o e n nb), fun b o e n hb _ => sl b o e n hb, O.un.free, fun b o e nx => ?_, O.un.tups, O.un.frzs, O.un.tbls⟩
    by_cases hb : b ∈ frs X.stack
    · obtain ⟨z, hz⟩ := sl b o e (I.stkFree b hb) hb; exact ⟨_, hz⟩
    · cases q : H b with
      | none => exact ⟨o, x1.1 b o (O.keep b o e q hb)⟩
      | some u => obtain ⟨o', ho'⟩ := O.th b o e hb; exact ⟨o', x1.1 b o' ho'⟩
  · have e1 := I.base.keep b o e n nb (by rw [hex]; simp)
    refine O.keep b o e1 (I.base.free b o e n (by rw [hex]; simp)) ?_
    exact ne_stack I hst hfr e nb
  · obtain ⟨o', e1⟩ := I.base.there b o e (by rw [hex]; simp)
    exact O.th b o' e1 (ne_stack I hst hfr e nb)
end
end Dl

namespace Dl
open PySem PySem.Spec PyProof.Rows L2
/-! ## What raises -/
/-- what the context wants of an exception of the class at C that is raised here; n: the entry -/
structure WishM (X : Cx) (n : En) (C : Addr) : Prop where
  made : ∀ (pins : List (Addr × Obj)) (σ : L2.St) (H : Hp) (s : Shared) (h' : Heap) (ea : Addr) (vs : List Value), Inv X pins σ H s → (∃ δ G, Rel X.K n δ σ G H) → Heap.MadeExcOf s.heap h' ea (.ref C) vs → X.xe (.ref ea) { s with heap := h' }
/-- and of one that comes out of a call -/
structure Wish (X : Cx) (n : En) (C : Addr) : Prop where
  pass : ∀ (pins : List (Addr × Obj)) (σ : L2.St) (H : Hp) (s : Shared) (ea : Addr) (B : Heap) (H' : Hp) (s' : Shared), Inv X pins σ H s → OutE X.prog X.w X.stack H s ea C B H' s' → (∃ δ' σ' G', Rel X.K n δ' σ' G' H') → X.xe (.ref ea) s'
def lR (K : PySem.W.Frag) (n : En) (r : Ev → Prop) : TE := fun σ H _ => ∃ δ G, Rel K n δ σ G H ∧ r δ
def lRA (K : PySem.W.Frag) (n : En) (r : Ev → Prop) : TA := fun σ H _ => ∃ δ G, Rel K n δ σ G H ∧ r δ
def lRS (K : PySem.W.Frag) (n : En) (r : Ev → Prop) : TS := fun _ σ H => ∃ δ G, Rel K n δ σ G H ∧ r δ
abbrev RE (X : Cx) (n : En) (e : Expr) (r : Ev → Prop) : Prop := PE X e (lR X.K n r)
abbrev RA (X : Cx) (n : En) (es : List Expr) (r : Ev → Prop) : Prop := PA X es (lRA X.K n r)
abbrev RS (X : Cx) (n : En) (st : Stmt) (r : Ev → Prop) : Prop := PS X st (lRS X.K n r)
abbrev RSs (X : Cx) (n : En) (sts : List Stmt) (r : Ev → Prop) : Prop := PSs X sts (lRS X.K n r)
/-- a def's promise to raise -/
def spR (K : PySem.W.Frag) (C : Addr) (S : List D → Prop) : Sp := fun vs H _ E => ∃ (G : Hp) (ds : List D), Same G H ∧ DenL K G vs ds ∧ S ds ∧ ∀ G' H', Ext G H G' H' → E (.ref C) none H'
section
variable {X : Cx} {n : En} {C : Addr} {e a b c : Expr} {es : List Expr} {st : Stmt} {rest : List Stmt} {r ra rb : Ev → Prop} {pos : Pos}
theorem rss_here (h : RS X n st r) : RSs X n (st :: rest) r :=
  pss_imp (pss_cons h (u := fun _ _ _ => False) fun _ _ _ _ _ _ z => z.elim) fun D σ H z => z
theorem rss_later {t : TSd} (h1 : DS X st t) (h2 : RSs X n rest r) : RSs X n (st :: rest) (fun δ => t { nx := r, rt := fun _ _ => False } δ) :=
  pss_imp (pss_cons h1 h2) fun D σ H ⟨δ, G, R, h⟩ => ⟨n, δ, G, _, R, h, ⟨fun δ' σ' G' H' R' h' => ⟨δ', G', R', h'⟩, fun _ _ _ _ _ _ _ _ z => z.elim, fun _ _ _ _ _ z => z.elim, fun _ _ _ _ _ z => z.elim⟩⟩
theorem rs_if {sa sb : List Stmt} {tc : TTd} (hc : DT X c tc) (ha : RSs X n sa ra) (hb : RSs X n sb rb) : RS X n (.If c sa sb pos) (fun δ => tc δ fun q δ1 => if q = true then ra δ1 else rb δ1) :=
  ps_imp (ps_if hc ha hb) fun D σ H ⟨δ, G, R, h⟩ => ⟨n, δ, G, _, R, h, fun q G1 H1 δ1 R1 s1 h1 => by
    cases q with
    | true => rw [if_pos rfl] at h1; exact iteT ⟨δ1, G1, R1, h1⟩
    | false => rw [if_neg Bool.false_ne_true] at h1; exact iteF ⟨δ1, G1, R1, h1⟩⟩
theorem rs_no : RS X n st (fun _ => False) := fun _ _ _ _ _ _ ⟨_, _, _, z⟩ => z.elim
theorem rss_no {sts : List Stmt} : RSs X n sts (fun _ => False) := fun _ _ _ _ _ _ ⟨_, _, _, z⟩ => z.elim
theorem re_no : RE X n e (fun _ => False) := fun _ _ _ _ _ _ ⟨_, _, _, z⟩ => z.elim
theorem rs_expr (he : RE X n e r) (hs : swapsWith e none pos.line X.env = pure false := by rfl) : RS X n (.Expr e pos) r := ps_imp (ps_expr he hs) fun _ _ _ z => z
theorem rs_ret (he : RE X n e r) : RS X n (.Return (some e) pos) r := ps_imp (ps_ret he) fun _ _ _ z => z
theorem re_if {tc : TTd} (hc : DT X c tc) (ha : RE X n a ra) (hb : RE X n b rb) : RE X n (.IfExp c a b pos) (fun δ => tc δ fun q δ1 => if q = true then ra δ1 else rb δ1) :=
  pe_imp (pe_ifExp hc ha hb) fun σ H Q ⟨δ, G, R, h⟩ => ⟨n, δ, G, _, R, h, fun q G1 H1 δ1 R1 s1 h1 => by
    cases q with
    | true => rw [if_pos rfl] at h1; exact iteT ⟨δ1, G1, R1, h1⟩
    | false => rw [if_neg Bool.false_ne_true] at h1; exact iteF ⟨δ1, G1, R1, h1⟩⟩
theorem ra_here (he : RE X n e r) (hs : starEach (e :: es) X.env = (false, eval e X.env) :: starEach es X.env := by rfl) : RA X n (e :: es) r :=
  pa_imp (pa_cons he (t := fun _ _ _ => False) (fun _ _ _ _ _ _ _ z => z.elim) hs) fun _ _ _ z => z
theorem ra_later {te : TEd} (he : DE X e te) (hr : RA X n es r) (hs : starEach (e :: es) X.env = (false, eval e X.env) :: starEach es X.env := by rfl) : RA X n (e :: es) (fun δ => te δ fun _ δ1 => r δ1) :=
  pa_imp (pa_cons he hr hs) fun σ H Q ⟨δ, G, R, h⟩ => ⟨n, δ, G, _, R, h, fun v G1 H1 d δ1 R1 s1 d1 h1 => ⟨δ1, G1, R1, h1⟩⟩
theorem re_tup {x1} (h : RA X n es r) : RE X n (.Tuple es x1 pos) r := pe_imp (L2.pe_tup h) fun _ _ _ z => z
theorem re_binL {op : Operator} (ha : RE X n a r) : RE X n (.BinOp a op b pos) r :=
  pe_imp (pe_op (r := fun _ _ _ _ => False) (fun _ _ _ _ _ _ _ _ _ _ _ _ z => z.elim) ha (tb := fun _ _ _ => False) fun _ _ _ _ _ _ z => z.elim) fun _ _ _ z => z
theorem re_callB {x : Str} {p : Pos} {id : String} (hm : X.mg x = none) (hv : bootBuiltins x = some (.builtin id)) (ha : RA X n (e :: es) r) (hg : Gl X x := by rfl) (hn : x ≠ "__name__" := by decide) (hdb : (x == ("__debug__" : Str)) = false := by decide)
    (he : starEach (e :: es) X.env = (false, eval e X.env) :: starEach es X.env := by rfl) (hpl : (backTo pos (starEach es X.env)).any (·.1) = false := by rfl) : RE X n (.Call (.Name x p) (e :: es) [] pos) r :=
  pe_imp (pe_callB (r := fun _ _ _ => False) (fun _ _ _ _ _ _ _ _ _ z => z.elim) hg hm hv ha hn hdb he hpl) fun _ _ _ z => z
/-- f(..), which raises -/
theorem re_call {k : Nat} {f : Addr} {fd : FuncData} {ps : List Str} {S : List D → Prop} {x : Str} {p : Pos} {t : TAd} (W : Wish X n C) (F : FnOk X.prog X.w X.K X.mg X.base (CXE X.prog X.w) k f fd ps (spR X.K C S)) (hr : Room k X.A) (hm : X.mg x = some (.ref f)) (hk : PySem.W.keepIn X.K (.ref f) = true) (hb : Binds X.K fd ps [])
    (ha : DA X (e :: es) t) (hg : Gl X x := by rfl) (hdb : (x == ("__debug__" : Str)) = false := by decide) (he : starEach (e :: es) X.env = (false, eval e X.env) :: starEach es X.env := by rfl) (hpl : (backTo pos (starEach es X.env)).any (·.1) = false := by rfl) :
    RE X n (.Call (.Name x p) (e :: es) [] pos) (fun δ => t δ fun ds _ => S ds) := by
  have hx : Passes (CXE X.prog X.w) X (fun cls _ H' => cls = .ref C ∧ ∃ δ' σ' G', Rel X.K n δ' σ' G' H') := fun pins σ H s e s' I ⟨ea, C', B, H', ee, O, ec, hR⟩ => by
    cases ec; subst ee
    exact W.pass pins σ H s ea B H' s' I O hR
  exact pe_imp (pe_call F hr hg hm hk hb .nil hx ha hdb he hpl) fun σ H Q ⟨δ, G, R, h⟩ => ⟨n, δ, G, _, R, h, fun vs G1 H1 ds δ1 R1 s1 d1 h1 => by
    show spR X.K C S (vs ++ []) H1 Q _
    rw [List.append_nil]
    exact ⟨G1, ds, R1.sub, d1, h1, fun G' H' e => ⟨rfl, δ1, σ, G', R1.ext e⟩⟩⟩
end
section
variable {P : Program} {w : World} {K : PySem.W.Frag} {mg : Str → Option Value} {base : Heap}
/-- a def's body that raises -/
theorem fnR {x qual : Str} {st : Stmt} {f C : Addr} {fd : FuncData} {N ps : List Str} {k : Nat} {S : List D → Prop} (F : Fun K x qual st f fd) (Sc : FnScope N ps (defScope st)) (len : ∀ ds, S ds → ds.length = ps.length)
    (hbody : ∀ (cdv : Value) (A : Around) (outer : List Env) (s : Shared) (H : Hp) (E : XK) (n : En), Room k (A.deeper (envOfC qual (defScope st) s.heap.objs.size f cdv)) → Wish (cxOf (CXE P w) P w K mg base N qual (defScope st) f cdv A outer s H E) n C → WishM (cxOf (CXE P w) P w K mg base N qual (defScope st) f cdv A outer s H E) n C →
      ∃ r, RSs (cxOf (CXE P w) P w K mg base N qual (defScope st) f cdv A outer s H E) n (defBody st) r ∧ ∀ ds, S ds → r (startD N ds)) : FnOk P w K mg base (CXE P w) (k + 1) f fd ps (spR K C S) := by
  obtain ⟨oc, od, kV, doc, pm, an, cdv, ct, osl, rfl, lk, hcd⟩ := F.ex
  refine fn_of lk hcd Sc (fun vs H Q E ⟨G, ds, _, dn, h, _⟩ => by rw [dn.length]; exact len ds h) fun A outer s H vs Q E hr ⟨G, ds, sub, dn, h, hE⟩ => ?_
  have W : Wish (cxOf (CXE P w) P w K mg base N qual (defScope st) f cdv A outer s H E) ⟨G, H, fun _ => False⟩ C := ⟨fun pins σ H1 s1 ea B H' s' I O ⟨δ', σ', G', R⟩ => leave_next I rfl rfl rfl O fun s'' O' => ⟨ea, C, B, H', rfl, O', hE G' H' R.toExt⟩⟩
  have WM : WishM (cxOf (CXE P w) P w K mg base N qual (defScope st) f cdv A outer s H E) ⟨G, H, fun _ => False⟩ C := ⟨fun pins σ H1 s1 h' ea vs I ⟨δ, G1, R⟩ hx => leave_first I rfl rfl rfl hx fun s'' O => ⟨ea, C, _, H1, rfl, O, hE G1 H1 R.toExt⟩⟩
  obtain ⟨r, hr1, hr2⟩ := hbody cdv A outer s H E ⟨G, H, fun _ => False⟩ hr W WM
  exact ⟨_, hr1, startD N ds, G, rel_start (N := N) sub dn, hr2 ds h⟩
end
end Dl

namespace Dl
open PySem PySem.Spec PyProof.Rows L2
/-! ## raise C("..") -/
theorem rs_raise {X : Cx} {n : En} {C : Addr} {x t : Str} {j : Nat} {np p cpos pos : Pos} {bm : List Value} {B newId initId : String} {name : Str} {scope : Scope} {L a : Addr} {cd : Value} (W : WishM X n C) (hcalm : X.calm = true) (O : OwnCls x C bm newId X.mg X.base) (EB : ExcBaseFacts B newId initId bm)
    (henv : X.env = envOf name scope L a cd) (hk : scope.kind = .function) (hx : (envOf name scope L a cd).kindOf x = some .globalImplicit) (hd : (x == ("__debug__" : Str)) = false := by decide) :
    RS X n (.Raise (some (.Call (.Name x np) [.Constant (.str t) j p] [] cpos)) none pos) (fun _ => True) := by
  intro pins s σ H D I ⟨δ, G, R, _⟩
  obtain ⟨m, F⟩ := I.fr
  have args : wpAny (model X.prog X.w) X.A (spliced (backTo cpos (starEach [.Constant (.str t) j p] X.env))) (AP X pins σ fun vs H1 => vs = [.str t] ∧ H1 = H) X.xe s :=
    (pa_cons (X := X) (e := .Constant (.str t) j p) (es := []) pe_str pa_nil rfl) cpos pins s σ H _ I ⟨rfl, rfl⟩
  have eL : X.env.locals = L := by rw [henv]; rfl
  rw [eL] at F
  rw [henv] at args ⊢
  refine Raise_own F I.ok.mod.glob O EB (I.ok.hd hcalm) (thn args fun us s2 ⟨vs, H1, I2, rv, e1, e2⟩ => ⟨?_, I2.bk, fun h' ea hm => ?_⟩) rfl rfl hk hx hd
  · subst e1
    rw [← rv.length]
    show 1 ≤ sizeLine
    decide
  · subst e2
    exact W.made pins σ _ s2 h' ea us I2 ⟨δ, G, R⟩ hm
/-- the class, from the text -/
theorem own_in {K : PySem.W.Frag} {h : Heap} {mg : Str → Option Value} {x : Str} {C : Addr} {bmB : List Value} {newId : String} (X : K.In h) (G : h.Ns mainGlobals mg) (e : PySem.W.nsIn K mainGlobals x = some (some (.ref C))) (q : PySem.W.excIn K C bmB newId = true) : OwnCls x C bmB newId mg h := by
  refine ⟨PySem.W.mg_of X G e, ?_⟩
  unfold PySem.W.excIn at q
  split at q
  case h_2 => cases q
  rename_i dct cdt slo hlk
  split at q
  case h_2 => cases q
  rename_i Cc tl a0 a1 a2 a3 nid a5 hmro hsl
  simp only [Bool.and_eq_true, Bool.not_eq_true', beq_iff_eq] at q
  obtain ⟨⟨⟨⟨⟨q1, q2⟩, q3⟩, q4⟩, q5⟩, q6⟩ := q
  subst q1 q2
  obtain ⟨c1, c2, c3, c4, c5, c6, c7, c8, c9, c10, c11⟩ := cdt
  simp only at hmro q3 q5 q6
  subst hmro q3
  have es : slo = #[a0, a1, a2, a3, some (.builtin nid), a5] := by
    rcases slo with ⟨l⟩
    exact congrArg Array.mk hsl
  subst es
  exact ⟨tl, c4, c1, c5, c2, c6, c7, c8, c9, c10, dct, a0, a1, a2, a3, a5, h.nsMap c4, X _ _ hlk, .of_isNs (PySem.W.isNs_of_in X q5), PySem.W.nsMap_none_of_in X q5 q6, PySem.W.tail_of_in X q4⟩
end Dl

namespace Dl
open PySem PySem.Spec PyProof.Rows L2
/-! ## except Base, of an own class that has an own base -/
section
variable {A : Around} {M : Model} {E : Value → Shared → Prop}
variable {nm q nm' q' : Str} {C N R N' : Addr} {bs bm bs' bm' : List Value} {hdct hdct' : Bool} {sn sn' : List Str} {sub sub' : List Value} {ab ab' : Bool} {col col' : Option Bool} {dd dd' : Option Addr} {k0 k1 k2 k3 k5 j0 j1 j2 j3 j5 : Option Value} {newId newId' : String}
theorem excMatches_base {h : Heap} {g : Array GenState} {d : Drawn} {t : Nat} {os : OsState} {e : Addr} {oe : Obj} {Q : Bool → Shared → Prop}
    (hC : h.get? C = some (excClassObj nm q C N bs bm hdct sn sub ab col dd k0 k1 k2 k3 k5 newId)) (hR : h.get? R = some (excClassObj nm' q' R N' bs' bm' hdct' sn' sub' ab' col' dd' j0 j1 j2 j3 j5 newId')) (he : h.get? e = some oe) (hcls : oe.cls = .ref C)
    (hbase : bm'.contains (.type "BaseException") = true) (hin : bm.contains (.ref R) = true) (hq : Q true ⟨h, g, d, t, os⟩) : wpAny M A (excMatches (.ref e) (.ref R)) Q E ⟨h, g, d, t, os⟩ := by
  have c1 : (Value.ref R :: bm').contains (.type "BaseException") = true := by rw [List.contains_cons, hbase, Bool.or_true]
  have c2 : (Value.ref C :: bm).contains (.ref R) = true := by rw [List.contains_cons, hin, Bool.or_true]
  have f := tc_notTuple
  unfold excMatches
  repeat (first | (with_reducible refine wpAny_loadPart_at he ?_; rw [hcls]) | with_reducible refine wpAny_loadPart_at hR ?_ | (with_reducible refine wpAny_isSubtype_exc hR ?_; rw [c1]) | (with_reducible refine wpAny_isSubtype_exc hC ?_; rw [c2]) | wp_step)
  exact hq
end
section
variable {A : Around} {prog : Program} {w : World} {E : Value → Shared → Prop} {s : Shared} {env : Env}
/-- except R as n: the exception's class is C -/
theorem handleBy_base_as {e C R : Addr} {y : Str} {bmR : List Value} {newId newR : String} {mg : Str → Option Value} {t : Expr} {n : Str} {b0 : Stmt} {suite : List Stmt} {pos : Pos} {rest : List ExceptHandler} {Q : Flow → Shared → Prop}
    (hbase : bmR.contains (.type "BaseException") = true)
    (h : wpAny (model prog w) (A.mark (some (.ref e))) (eval t env) (fun c s1 => c = .ref R ∧ OwnCls y R bmR newR mg s1.heap ∧ (∃ bm N nm q bs hdct sn sub ab col dd k0 k1 k2 k3 k5, s1.heap.get? C = some (excClassObj nm q C N bs bm hdct sn sub ab col dd k0 k1 k2 k3 k5 newId) ∧ bm.contains (.ref R) = true) ∧ (∃ oe, s1.heap.get? e = some oe ∧ oe.cls = .ref C) ∧
      wpAny (model prog w) (A.mark (some (.ref e))) (setFlight (.ref e) none) (fun _ s2 =>
          wpAny (model prog w) (A.mark (some (.ref e))) (storeName env n (.ref e)) (fun _ s3 =>
            wpAny (model prog w) (A.mark (some (.ref e))) (execs (b0 :: suite) env)
              (fun f s4 => wpAny (model prog w) A (do bindName env n .none; unbindBehindTheSuite env n pos) (fun _ s5 => Q f s5) E s4)
              (fun _ _ => False) s3) (fun _ _ => False) s2) (fun _ _ => False) s1) (fun _ _ => False) s) :
    wpAny (model prog w) A (handleBy (.ref e) env (.ExceptHandler (some t) (some n) (b0 :: suite) pos :: rest)) Q E s := by
  refine wpAny_handleBy_cons (codeAny_handlers_test (wpAny_mono h (fun c s1 h1 => ?_) fun _ _ z => z.elim)) (by intro z; cases z)
  obtain ⟨rfl, O, ⟨bm, N, nm, q, bs, hdct, sn, sub, ab, col, dd, k0, k1, k2, k3, k5, hC, hin⟩, ⟨oe, he, hcls⟩, hk⟩ := h1
  obtain ⟨bm2, N2, nm2, q2, bs2, hdct2, sn2, sub2, ab2, col2, dd2, j0, j1, j2, j3, j5, mN2, hR, hN2, hni2, T2⟩ := O.obj
  obtain ⟨hh, g, d, tk, os⟩ := s1
  refine excMatches_base hC hR he hcls (T2.hasType hbase) hin (codeAny_handlers_suite_as ?_)
  exact wpAny_mono hk (fun _ s2 h2 => wpAny_mono h2 (fun _ s3 h3 => wpAny_mono h3 (fun f s4 h4 => h4) fun _ _ z => z.elim) fun _ _ z => z.elim) fun _ _ z => z.elim
end
end Dl

namespace Dl
open PySem PySem.Spec PyProof.Rows L2
/-! ## try, with an except suite that returns -/
theorem ObjOk.got {P : Program} {w : World} {H : Hp} {h : Heap} {a : Addr} {o : HO} (x : ObjOk P w H h a o) : ∃ ob, h.get? a = some ob := by
  cases o with
  | lst xs => obtain ⟨_, _, _, _, e⟩ := x; exact ⟨_, e⟩
  | tup xs => obtain ⟨_, _, _, ob, e, _⟩ := x; exact ⟨_, e⟩
  | dK kvs => obtain ⟨_, _, _, _, o, _, _, e, _⟩ := x; exact ⟨_, e⟩
  | dT kvs => obtain ⟨_, _, _, _, o, _, _, e, _⟩ := x; exact ⟨_, e⟩
  | set S n => obtain ⟨o, _, _, _, e, _⟩ := x; exact ⟨_, e⟩
  | ins C dx fs => obtain ⟨_, _, _, e, _⟩ := x; exact ⟨_, e⟩
  | own y => exact x
  | xd fs => obtain ⟨_, ⟨_, _, _, e, _⟩, _⟩ := x; exact ⟨_, e⟩
  | rng lo hi => obtain ⟨_, _, _, e⟩ := x; exact ⟨_, e⟩
  | frz ob u => obtain ⟨e, _⟩ := x; exact ⟨_, e⟩
  | tbl ps => exact ⟨_, (show h.get? a = some _ from x)⟩
  | met f y => exact ⟨_, (show h.get? a = some _ from x)⟩
  | ext φ => obtain ⟨_, e, _⟩ := x; exact e
/-- the context within an except suite -/
abbrev markX (Y : Cx) (ea : Addr) : Cx := { Y with A := Y.A.mark (some (.ref ea)), calm := false, xe := fun _ _ => False }
section
variable {X : Cx} {pins : List (Addr × Obj)} {σ : L2.St} {H H' : Hp} {s s' : Shared} {ea C : Addr} {B h' : Heap}
theorem Inv.marked (I : Inv X pins σ H s) (ea : Addr) : Inv (markX X ea) pins σ H s :=
  ⟨⟨I.ok.mod, I.ok.kind, I.ok.glob, I.ok.blt, I.ok.above, I.ok.inj, I.ok.has, I.ok.cab, fun z => (by cases z), I.ok.frames, I.ok.stk, I.ok.exf, I.ok.bs, I.ok.bsz, I.ok.noex, I.ok.exfs, I.ok.funs, I.ok.frf⟩, I.os, I.bare, I.base, I.loc, I.cell, I.free, I.freeC, I.pin, I.hok, I.len⟩
theorem Inv.unmarked (ok : X.Ok) (I : Inv (markX X ea) pins σ H s) : Inv X pins σ H s := ⟨ok, I.os, I.bare, I.base, I.loc, I.cell, I.free, I.freeC, I.pin, I.hok, I.len⟩
/-- the frame's names may be anything now -/
theorem Inv.anyNames {m' : Str → Option Value} {t' : Nat} (I : Inv X pins σ H s) (hn : h'.Ns X.env.locals m') (hs : Heap.SameBut X.env.locals s.heap h') : Inv X pins (List.replicate X.N.length none) H { s with heap := h', toks := t' } := by
  have same : ∀ b, b ≠ X.env.locals → h'.get? b = s.heap.get? b := fun b hb => hs.2 b hb
  have low : ∀ b o, X.s₀.heap.get? b = some o → b ≠ X.env.locals := fun b o e z => by
    subst z; exact absurd (Heap.lt_size e) (Nat.not_lt.mpr I.ok.above)
  refine ⟨I.ok, I.os, I.bare, ⟨fun b o e n n1 n2 => ?_, fun b o e n n1 n2 => ?_, I.base.free, fun b o e n2 => ?_, I.base.tups, I.base.frzs, I.base.tbls⟩, ⟨m', hn, fun i x v _ e => ?_⟩, fun x c e => ?_, I.free, I.freeC, fun p hp => ?_, fun a o e => ?_, by simp⟩
  · show h'.get? b = _; rw [same b (low b o e)]; exact I.base.keep b o e n n1 n2
  · obtain ⟨sl, e1⟩ := I.base.slot b o e n n1 n2; exact ⟨sl, (same b (low b o e)).trans e1⟩
  · obtain ⟨o', e1⟩ := I.base.there b o e n2; exact ⟨o', (same b (low b o e)).trans e1⟩
  · rw [List.getElem?_replicate] at e; split at e <;> cases e
  · obtain ⟨v, o, ho, hd⟩ := I.cell x c e; exact ⟨v, o, (same c (I.cne x c e)).trans ho, hd⟩
  · obtain ⟨p1, p2, p3, p4, p5⟩ := I.pin p hp; exact ⟨(same _ p3).trans p1, p2, p3, p4, p5⟩
  · refine (I.hok a o e).stay (fun b u hb q => (same b ?_).trans q) (fun _ q => q) fun _ _ q => q
    rintro rfl
    rcases hb with rfl | hb
    · rw [I.free] at e; cases e
    · rw [I.free] at hb; cases hb
theorem un_upto (I : Inv X pins σ H s) (O : OutE X.prog X.w X.stack H s ea C B H' s') (k : B.StaysIn h') (u : s'.heap.UpToSlots h') : Un (frs X.stack) [] H H' s.heap h' := by
  have sl : ∀ b o, s.heap.get? b = some o → H b = none → b ∈ frs X.stack → ∃ z, h'.get? b = some { o with slots := z } := fun b o e n hb => by
    obtain ⟨z, hz⟩ := O.un.slot b o e n hb (by simp)
    obtain ⟨_, o', ho', nf⟩ := I.stack.mem hb
    rw [e] at ho'; cases ho'
    obtain ⟨z', hz'⟩ := u b _ hz nf
    exact ⟨z', hz'⟩
  refine ⟨fun b o e n nb _ => k b o (O.keep b o e n nb), fun b o e n hb _ => sl b o e n hb, O.un.free, fun b o e nx => ?_, O.un.tups, O.un.frzs, O.un.tbls⟩
  by_cases hb : b ∈ frs X.stack
  · obtain ⟨z, hz⟩ := sl b o e (I.stkFree b hb) hb; exact ⟨_, hz⟩
  · obtain ⟨o', ho'⟩ := O.th b o e hb; exact ⟨o', k b o' ho'⟩
/-- behind it: the frame stands again -/
theorem Inv.landed (I : Inv X pins σ H s) (O : OutE X.prog X.w X.stack H s ea C B H' s') (k : B.StaysIn h') (u : s'.heap.UpToSlots h') : Inv X pins σ H' { s' with heap := h' } :=
  I.call' (s' := { s' with heap := h' }) (ch := []) O.os (un_upto I O k u) (O.hok.kept k) O.bare (fun b z => absurd z (by simp))
theorem OutE.free (O : OutE X.prog X.w X.stack H s ea C B H' s') : H' ea = none := by
  obtain ⟨t, fly⟩ := O.fly
  cases q : H' ea with
  | none => rfl
  | some o =>
    obtain ⟨ob, e⟩ := ObjOk.got (O.hok ea o q)
    rw [fly.2.1] at e; cases e
end
end Dl

namespace Dl
open PySem PySem.Spec PyProof.Rows L2
/-- the same context, other pins and another wish -/
abbrev pinX (Y : Cx) (pn : List (Addr × Obj)) (xe : Value → Shared → Prop) : Cx := { Y with pn := pn, xe := xe }
section
variable {Y : Cx} {pins pins1 pn : List (Addr × Obj)} {xe xe' : Value → Shared → Prop} {σ : L2.St} {H : Hp} {s : Shared}
theorem ok_pinX (ok : Y.Ok) : (pinX Y pn xe).Ok := ⟨ok.mod, ok.kind, ok.glob, ok.blt, ok.above, ok.inj, ok.has, ok.cab, ok.hd, ok.frames, ok.stk, ok.exf, ok.bs, ok.bsz, ok.noex, ok.exfs, ok.funs, ok.frf⟩
theorem ok_unpinX (ok : (pinX Y pn xe).Ok) : Y.Ok := ⟨ok.mod, ok.kind, ok.glob, ok.blt, ok.above, ok.inj, ok.has, ok.cab, ok.hd, ok.frames, ok.stk, ok.exf, ok.bs, ok.bsz, ok.noex, ok.exfs, ok.funs, ok.frf⟩
theorem Inv.toPin (I : Inv Y pins σ H s) (xe : Value → Shared → Prop) : Inv (pinX Y (Y.pn ++ pins) xe) [] σ H s :=
  ⟨ok_pinX I.ok, I.os, I.bare, I.base, I.loc, I.cell, I.free, I.freeC, fun p hp => I.pin p (by simpa using hp), I.hok, I.len⟩
theorem Inv.ofPin (I : Inv (pinX Y (Y.pn ++ pins) xe) pins1 σ H s) : Inv Y pins σ H s :=
  ⟨ok_unpinX I.ok, I.os, I.bare, I.base, I.loc, I.cell, I.free, I.freeC, fun p hp => I.pin p (List.mem_append_left _ hp), I.hok, I.len⟩
end
/-- what an except suite does that returns d: s the state behind the name's store -/
def SuiteOk (Y : Cx) (i : Nat) (C : Addr) (suite : List Stmt) (d : D) : Prop :=
  ∀ (ea : Addr) (oe : Obj) (pins : List (Addr × Obj)) (σ : L2.St) (H G : Hp) (s : Shared), oe.cls = .ref C → Same G H → Inv (markX Y ea) ((ea, oe) :: pins) σ H s → σ[i]? = some (some (.ref ea)) →
    wpAny (model Y.prog Y.w) (Y.A.mark (some (.ref ea))) (execs suite Y.env) (fun f s4 => ∃ u v σ' H' G', f = .ret u ∧ RelV v u ∧ Inv (markX Y ea) pins σ' H' s4 ∧ Ext G H G' H' ∧ Den Y.K G' v d) (fun _ _ => False) s
def dTry (tb : TSd) (r : Ev → Prop) (d : D) : TSd := fun E δ => tb E δ ∨ (r δ ∧ ∀ δ', E.rt d δ')
/-- what is wanted of an exception that the body of a try lets out -/
def hndl (Y : Cx) (hs : List ExceptHandler) (Q : Flow → Shared → Prop) : Value → Shared → Prop := fun e s1 =>
  wpAny (model Y.prog Y.w) Y.A (noteFrame e Y.env) (fun _ s2 => wpAny (model Y.prog Y.w) Y.A (setFlight e none) (fun _ s3 => wpAny (model Y.prog Y.w) Y.A (handleBy e Y.env hs) Q (fun _ _ => False) s3) (fun _ _ => False) s2) (fun _ _ => False) s1
/-- the classes, as the text has them -/
structure Base2 (Y : Cx) (C R : Addr) (rn : Str) : Prop where
  rb : ∃ bmR newR, OwnCls rn R bmR newR Y.mg Y.base ∧ bmR.contains (.type "BaseException") = true
  cb : ∃ newC bm N nm q bs hdct sn sub ab col dd k0 k1 k2 k3 k5, Y.base.get? C = some (excClassObj nm q C N bs bm hdct sn sub ab col dd k0 k1 k2 k3 k5 newC) ∧ bm.contains (.ref R) = true
section
variable {Y : Cx} {C R : Addr} {rn nme : Str} {i : Nat} {np hp pos : Pos} {body suite : List Stmt} {b0 : Stmt} {tb : TSd} {r : Ev → Prop} {d : D}
theorem caught {pins : List (Addr × Obj)} {σ : L2.St} {H H' : Hp} {s s' : Shared} {ea : Addr} {B : Heap} {F : Ends} (hst : Y.stack = Y.env :: Y.outer) (hfr : Y.env.frame = some Y.env.locals) (BB : Base2 Y C R rn) (hS : SuiteOk Y i C (b0 :: suite) d)
    (hN : Y.N.Nodup) (hi : Y.N[i]? = some nme) (hl : Y.env.scope.names.lookup nme = some .local) (hk : Y.env.kindOf nme = some .local) (hg : Gl Y rn) (hdb : (rn == ("__debug__" : Str)) = false) (J1 : Inv Y pins σ H s) (O : OutE Y.prog Y.w Y.stack H s ea C B H' s')
    {G : Hp} (hG : Same G H') (hF : ∀ v G' H'', Ext G H' G' H'' → Den Y.K G' v d → F.rt v H'') : hndl Y [.ExceptHandler (some (.Name rn np)) (some nme) (b0 :: suite) hp] (SP Y.nox pins F) (.ref ea) s' := by
  obtain ⟨bmR, newR, OR, hbR⟩ := BB.rb
  obtain ⟨newC, bm, N, nm, q, bs, hdct, sn, sub, ab, col, dd, k0, k1, k2, k3, k5, hC, hin⟩ := BB.cb
  obtain ⟨t, fly⟩ := O.fly
  rw [hst] at fly
  refine wpAny_looks_onW (by rw [J1.ok.frames, hst]) hfr fly fun h4 held4 sm4 => ?_
  refine wpAny_landsW held4 fun h5 fly5 sm5 => ?_
  have J5 : Inv Y pins σ H' { s' with heap := h5 } := Inv.landed (X := Y) J1 O fly5.1 (sm4.trans sm5)
  refine handleBy_base_as (C := C) (y := rn) (newId := newC) (mg := Y.mg) hbR (ld_glob (Inv.marked J5 ea) hg OR.bound ⟨rfl, OR.keeps J5.bk, ⟨bm, N, nm, q, bs, hdct, sn, sub, ab, col, dd, k0, k1, k2, k3, k5, J5.bk _ _ hC, hin⟩, fly5.there, ?_⟩ hdb)
  refine lands_againW fly5 fun h7 fly7 sm7 => ?_
  have J7 : Inv Y pins σ H' { s' with heap := h7 } := Inv.landed (X := Y) J1 O fly7.1 ((sm4.trans sm5).trans sm7)
  obtain ⟨oe, vs, T, oT, ts, he, ⟨hcls, _⟩, hdat, _⟩ := fly7.2.2.2
  have nf' : ea ∉ frs (Y.env :: Y.outer) := fun hb => by
    obtain ⟨_, o, ho, nfl⟩ := fly7.2.2.1.mem hb
    rw [he] at ho; cases ho
    exact nfl vs hdat
  have nl : ea ≠ Y.env.locals := fun z => nf' (List.mem_filterMap.mpr ⟨Y.env, List.mem_cons_self, by rw [hfr, z]⟩)
  have M7 : Inv (markX Y ea) ((ea, oe) :: pins) σ H' { s' with heap := h7 } := (Inv.marked J7 ea).pins_of fun p hp => by
    rcases (List.mem_cons.mp hp) with rfl | hp
    · exact ⟨he, OutE.free (X := Y) O, nl, fun z => nf' (frs_tail z), fun v z => by rw [hdat] at z; cases z⟩
    · exact J7.pin p (List.mem_append_right _ hp)
  refine store_ok (X := markX Y ea) (v := .ref ea) M7 hN hi (Or.inl hl) rfl (fun s8 I8 => ?_) (.inr hl)
  have hiσ : i < σ.length := by rw [J1.len]; exact (List.getElem?_eq_some_iff.mp hi).1
  refine wpAny_mono (hS ea oe pins _ H' G s8 hcls hG I8 (List.getElem?_set_self hiσ)) (fun f s9 ⟨u, v, σ9, H9, G9, ef, rv, I9, e9, d9⟩ => ?_) fun _ _ z => z
  subst ef
  have K9 : Inv Y pins _ H9 s9 := Inv.unmarked J1.ok I9
  obtain ⟨m9, hn9, _⟩ := K9.loc
  refine wpAny_nameGoes hk hn9 (by rw [J1.ok.kind]; rfl) fun h10 m10 hn10 hs10 => ?_
  exact ⟨v, _, H9, (Inv.anyNames K9 hn10 hs10).wish _, rv, hF v G9 H9 e9 d9⟩
theorem ds_try (hst : Y.stack = Y.env :: Y.outer) (hfr : Y.env.frame = some Y.env.locals) (BB : Base2 Y C R rn)
    (hb : DSs Y.nox body tb) (hr : ∀ (n : En) (pn : List (Addr × Obj)) (xe : Value → Shared → Prop), Wish (pinX Y pn xe) n C → RSs (pinX Y pn xe) n body r) (hS : SuiteOk Y i C (b0 :: suite) d)
    (hN : Y.N.Nodup) (hi : Y.N[i]? = some nme) (hl : Y.env.scope.names.lookup nme = some .local) (hk : Y.env.kindOf nme = some .local) (hg : Gl Y rn) (hdb : (rn == ("__debug__" : Str)) = false := by decide) :
    DS Y.nox (.Try body [.ExceptHandler (some (.Name rn np)) (some nme) (b0 :: suite) hp] [] [] pos) (dTry tb r d) := by
  intro pins s σ H F I ⟨n, δ, G, E, R0, h, k⟩
  refine wpAny_Try_except ?_
  rcases h with h | ⟨h, hd⟩
  · refine wpAny_mono (hb pins s σ H F I ⟨n, δ, G, E, R0, h, k⟩) (fun f s1 hs => ?_) fun e s1 z => z.elim
    cases f with
    | next => obtain ⟨σ1, H1, I1, q⟩ := hs; exact pss_nil pins s1 σ1 H1 F I1 q
    | ret u => exact hs
    | brk => exact hs
    | cont => exact hs
  · have IY : Inv Y pins σ H s := I.unwish
    have W : Wish (pinX Y (Y.pn ++ pins) (hndl Y [.ExceptHandler (some (.Name rn np)) (some nme) (b0 :: suite) hp] (SP Y.nox pins F))) n C := ⟨fun pins1 σ1 H1 s1 ea B H' s' I1 O ⟨δ', σ', G', R'⟩ => by
      refine caught hst hfr BB hS hN hi hl hk hg hdb (Inv.ofPin I1) O R'.sub fun v G2 H2 e dv => ?_
      exact k.rt v d δ' σ' G2 H2 (Rel.ext R' e) dv (hd δ')⟩
    refine wpAny_mono (hr n (Y.pn ++ pins) _ W [] s σ H ⟨fun _ _ => False, fun _ _ => False, fun _ _ => False, fun _ _ => False⟩ (Inv.toPin IY _) ⟨δ, G, R0, h⟩) (fun f s1 hs => ?_) fun e s1 z => z
    cases f with
    | next => obtain ⟨_, _, _, q⟩ := hs; exact q.elim
    | ret u => obtain ⟨_, _, _, _, _, q⟩ := hs; exact q.elim
    | brk => obtain ⟨_, _, _, q⟩ := hs; exact q.elim
    | cont => obtain ⟨_, _, _, q⟩ := hs; exact q.elim
end
end Dl

namespace Dl
open PySem PySem.Spec PyProof.Rows L2
/-! ## how often True is in a list of bools, and where first -/
theorem bools_of {us : List Value} : ∀ {bs : List Bool}, Vals (bs.map V.bl) us → us = bs.map Value.bool := by
  induction us with
  | nil => intro bs h; cases bs with
    | nil => rfl
    | cons b r => cases h
  | cons u us ih => intro bs h; cases bs with
    | nil => cases h
    | cons b r => cases h with
      | cons h1 h2 => cases (show u = Value.bool b from h1); rw [ih h2]; rfl
theorem den_bools {K : PySem.W.Frag} {G : Hp} : ∀ {bs : List Bool} {vs : List V}, DenL K G vs (bs.map D.bl) → vs = bs.map V.bl
  | [], _, h => by cases h; rfl
  | b :: r, _, h => by cases h with | cons h1 h2 => rw [h1.bl_inv, den_bools h2]; rfl
def isT : Value → Bool
  | .bool true => true
  | _ => false
def dCnt (ta : TEd) : TEd := fun δ Q => ta δ fun d δ1 => ∃ l, lstF d = some l ∧ ∃ bs, boolsF l = some bs ∧ Q (.int ((bs.count true : Nat) : Int)) δ1
def dFst (ta : TEd) : TEd := fun δ Q => ta δ fun d δ1 => ∃ l, lstF d = some l ∧ ∃ bs, boolsF l = some bs ∧ bs.length ≤ 1000 ∧ true ∈ bs ∧ Q (.int ((bs.idxOf true : Nat) : Int)) δ1
section
variable {X : Cx} {o : Expr} {ta : TEd}
def rCnt (K : PySem.W.Frag) : V → List V → Hp → VK → Prop := fun x vs H Q => ∃ (l : Addr) (bs : List Bool), x = .ref l ∧ vs = [.bl true] ∧ SqL K H l (bs.map V.bl) ∧ Q (.int ((bs.count true : Nat) : Int)) H
def rFst (K : PySem.W.Frag) : V → List V → Hp → VK → Prop := fun x vs H Q => ∃ (l : Addr) (bs : List Bool), x = .ref l ∧ vs = [.bl true] ∧ SqL K H l (bs.map V.bl) ∧ bs.length ≤ 1000 ∧ true ∈ bs ∧ Q (.int ((bs.idxOf true : Nat) : Int)) H
theorem idx_le : ∀ {bs : List Bool} {j : Nat} (h : j < bs.length), bs.idxOf bs[j] ≤ j
  | b :: r, 0, _ => by simp
  | b :: r, j + 1, h => by
    rw [List.getElem_cons_succ, List.idxOf_cons]
    have := idx_le (bs := r) (j := j) (by simpa using h)
    cases q : (b == r[j]'(by simpa using h)) with
    | true => simp
    | false => simp; omega
theorem cnt_isT : ∀ bs : List Bool, (bs.map Value.bool).countP isT = bs.count true
  | [] => rfl
  | b :: r => by
    have ih := cnt_isT r
    cases b
    · simp only [List.map_cons, List.countP_cons, isT, List.count_cons, ih]; rfl
    · simp only [List.map_cons, List.countP_cons, isT, List.count_cons, ih]; rfl
theorem eq_isT {A : Around} {s : Shared} {bs : List Bool} {y : Value} (h : y ∈ bs.map Value.bool) : SeqAt.EqAt A s y (.bool true) (isT y) := by
  obtain ⟨b, _, rfl⟩ := List.mem_map.mp h
  cases b
  · exact SeqAt.EqAt.bool_bool false true
  · exact SeqAt.EqAt.bool_bool true true
theorem mt_cnt : MtM X "list.count" (rCnt X.K) := by
  intro pins s σ H x vs v us Q I rx rv h
  obtain ⟨l, bs, rfl, rfl, hq, q⟩ := h
  cases rx
  obtain ⟨u, rfl, ru⟩ := rv.one
  cases (show u = Value.bool true from ru)
  obtain ⟨its, rv', pl, _⟩ := I.list hq
  have ei := bools_of rv'
  subst ei
  obtain ⟨⟨c0, d0, b0, s0⟩, at0, c1, n0, d1⟩ := id pl.isList
  simp only at c1 d1
  subst c1 d1
  have run := PySem.SeqAt.list_countAt l (bs.map Value.bool).toArray n0 d0 s0 (.bool true) isT
  refine call_meets PySem.F.slot_list_count ⟨_, at0, rfl⟩ PySem.F.entry_list_count (PySem.F.args_list_count_2 _ _) run ⟨at0, fun y hy => eq_isT (by simpa using hy), ?_⟩
  rw [show (bs.map Value.bool).toArray.toList.countP isT = bs.count true from cnt_isT bs]
  exact ⟨.int _, H, I.tok _, ⟨_, rfl⟩, q⟩
theorem mt_fst : MtM X "list.index" (rFst X.K) := by
  intro pins s σ H x vs v us Q I rx rv h
  obtain ⟨l, bs, rfl, rfl, hq, hz, hm, q⟩ := h
  cases rx
  obtain ⟨u, rfl, ru⟩ := rv.one
  cases (show u = Value.bool true from ru)
  obtain ⟨its, rv', pl, _⟩ := I.list hq
  have ei := bools_of rv'
  subst ei
  obtain ⟨⟨c0, d0, b0, s0⟩, at0, c1, n0, d1⟩ := id pl.isList
  simp only at c1 d1
  subst c1 d1
  have place := List.idxOf_lt_length_iff.mpr hm
  have found : isT ((bs.map Value.bool).toArray[bs.idxOf true]'(by simpa using place)) = true := by
    have e : bs[bs.idxOf true] = true := List.getElem_idxOf place
    simp [e, isT]
  have ahead : ∀ j (hj : j < (bs.map Value.bool).toArray.size), j < bs.idxOf true → isT (bs.map Value.bool).toArray[j] = false := fun j hj before => by
    have lt : j < bs.length := by simpa using hj
    have e : bs[j] ≠ true := fun z => by
      have : bs.idxOf true ≤ j := by
        rw [← z]
        exact idx_le lt
      omega
    have e2 : bs[j] = false := by simpa using e
    simp [e2, isT]
  have run := PySem.SeqAt.list_indexAt l (bs.map Value.bool).toArray n0 d0 s0 (.bool true) isT (bs.idxOf true) (by simpa using place) (by omega) found ahead
  refine call_meets PySem.F.slot_list_index ⟨_, at0, rfl⟩ PySem.F.entry_list_index (PySem.F.args_list_index_2 _ _) run ⟨at0, fun y hy => eq_isT (by simpa using hy), ?_⟩
  exact ⟨.int _, H, I.tok _, ⟨_, rfl⟩, q⟩
theorem de_cnt {ap cp p : Pos} {j : Nat} (ha : DE X o ta)
    (hbase : attributeBase o "count" X.env (eval o X.env) = eval o X.env := by rfl)
    (hfew : ((backTo cp (starEach [.Constant (.bool true) j p] X.env)).all (fun x => !x.1) && (backToKw cp (keywordEach [] X.env)).all (fun x => x.1.isSome)
      && decide ([Expr.Constant (.bool true) j p].length + ([] : List Keyword).length + (if ([] : List Keyword).isEmpty then 0 else 1) < 30)) = true := by rfl)
    (hline : (ap.endLine == cp.line) = true := by rfl) (hst : starEach [.Constant (.bool true) j p] X.env = (false, eval (.Constant (.bool true) j p) X.env) :: starEach [] X.env := by rfl) (hplain : (backTo cp (starEach [] X.env)).any (·.1) = false := by rfl) :
    DE X (.Call (.Attribute o "count" ap) [.Constant (.bool true) j p] [] cp) (dCnt ta) :=
  pe_imp (pe_bm PySem.F.plainAttrs_list PySem.F.slot_list_count PySem.F.type_list_count mt_cnt ha (pa_cons pe_bl pa_nil hst) hbase hfew hline hst hplain) fun σ H Q2 ⟨n, δ, G, Q, R, h, kk⟩ =>
    ⟨n, δ, G, _, R, h, fun v G1 H1 d δ1 R1 s1 d1 h1 => by
      obtain ⟨l, e0, bs, eb, h1⟩ := h1
      unfold lstF at e0
      split at e0
      · cases e0
        obtain ⟨a, vs, rfl, hs, la⟩ := d1.lst_inv
        rw [boolsF_some eb] at la
        have ev := den_bools la
        subst ev
        exact ⟨.inl ⟨rfl, _, R1.sub.seq hs⟩, a, bs, rfl, rfl, R1.sub.seq hs, kk _ G1 H1 _ δ1 R1 s1 (.int _) h1⟩
      · cases e0⟩
theorem de_fst {ap cp p : Pos} {j : Nat} (ha : DE X o ta)
    (hbase : attributeBase o "index" X.env (eval o X.env) = eval o X.env := by rfl)
    (hfew : ((backTo cp (starEach [.Constant (.bool true) j p] X.env)).all (fun x => !x.1) && (backToKw cp (keywordEach [] X.env)).all (fun x => x.1.isSome)
      && decide ([Expr.Constant (.bool true) j p].length + ([] : List Keyword).length + (if ([] : List Keyword).isEmpty then 0 else 1) < 30)) = true := by rfl)
    (hline : (ap.endLine == cp.line) = true := by rfl) (hst : starEach [.Constant (.bool true) j p] X.env = (false, eval (.Constant (.bool true) j p) X.env) :: starEach [] X.env := by rfl) (hplain : (backTo cp (starEach [] X.env)).any (·.1) = false := by rfl) :
    DE X (.Call (.Attribute o "index" ap) [.Constant (.bool true) j p] [] cp) (dFst ta) :=
  pe_imp (pe_bm PySem.F.plainAttrs_list PySem.F.slot_list_index PySem.F.type_list_index mt_fst ha (pa_cons pe_bl pa_nil hst) hbase hfew hline hst hplain) fun σ H Q2 ⟨n, δ, G, Q, R, h, kk⟩ =>
    ⟨n, δ, G, _, R, h, fun v G1 H1 d δ1 R1 s1 d1 h1 => by
      obtain ⟨l, e0, bs, eb, hz, hm, h1⟩ := h1
      unfold lstF at e0
      split at e0
      · cases e0
        obtain ⟨a, vs, rfl, hs, la⟩ := d1.lst_inv
        rw [boolsF_some eb] at la
        have ev := den_bools la
        subst ev
        exact ⟨.inl ⟨rfl, _, R1.sub.seq hs⟩, a, bs, rfl, rfl, R1.sub.seq hs, hz, hm, kk _ G1 H1 _ δ1 R1 s1 (.int _) h1⟩
      · cases e0⟩
end
end Dl

namespace Dl
open PySem PySem.Spec PySem.Calls PyProof.Rows L2
/-! ## isinstance of an exception of an own class -/
section
variable {A : Around} {E : Value → Shared → Prop} {prog : Program} {w : World} {h : Heap} {g : Array GenState} {d : Drawn} {t : Nat} {os : OsState} {o : Obj} {a : Addr}
  {nm q : Str} {C N : Addr} {bs bm : List Value} {hdct : Bool} {sn : List Str} {sub : List Value} {ab : Bool} {col : Option Bool} {dd : Option Addr} {k0 k1 k2 k3 k5 : Option Value} {newId : String}
theorem owner_class : ".".intercalate ("object.__class__".cutAt '.').dropLast = "object" := by decide +kernel
theorem cls_get {R : Result → Shared → Prop} (hC : h.get? C = some (excClassObj nm q C N bs bm hdct sn sub ab col dd k0 k1 k2 k3 k5 newId)) (hb : bm.contains (.type "object") = true)
    (px : h.get? a = some o) (pc : o.cls = .ref C) (hq : R (.ok (.ret (.ref C))) ⟨h, g, d, t, os⟩) :
    codeAny (model prog w) A (.call (.builtin "getset_descriptor.__get__") ⟨[.builtin "object.__class__", .ref a, .ref C], []⟩) R ⟨h, g, d, t, os⟩ := by
  have tdesc : (⟨h, g, d, t, os⟩ : Shared).TypeIs (.builtin "object.__class__") "getset_descriptor" := F.typeOf_object_class
  have hcB : (Value.ref C :: bm).contains (.type (".".intercalate ("object.__class__".cutAt '.').dropLast)) = true := by
    rw [owner_class, List.contains_cons, hb]; exact Bool.or_true _
  refine codeAny_call_builtin F.slot_gs_get.plain F.entry_gs_get (F.slot_gs_get.check _ _ _ _ _ _ _ _ tdesc (F.args_gs_get _ _ _) ?_)
  repeat (any_goals (first | assumption | done | (with_reducible refine wpAny_loadPart_at px ?_; rw [pc]) | (with_reducible refine wpAny_isSubtype_exc hC ?_; rw [hcB]) | wp_step))
  refine ⟨Code.quiet_builtin (_) (by decide +kernel), codeAny_builtin F.entry_object_class ?_⟩
  repeat (any_goals (first | assumption | done | (with_reducible refine wpAny_loadPart_at px ?_; rw [pc]) | wp_step))
theorem cls_entry {tk : Tok} {Q : Fin → Shared → Prop} (LC : PySem.W.Looks (model prog w) h (typeLookup (.ref C) "__class__") (some (.builtin "object.__class__"))) (hC : h.get? C = some (excClassObj nm q C N bs bm hdct sn sub ab col dd k0 k1 k2 k3 k5 newId)) (hb : bm.contains (.type "object") = true)
    (px : h.get? a = some o) (pc : o.cls = .ref C) (hq : Q (.done (.ret (.ref C))) ⟨h, g, d, t, os⟩) :
    wpAny (model prog w) A (Builtin.«object.__getattribute__» ⟨[.ref a, .str ("__class__") tk], []⟩) Q E ⟨h, g, d, t, os⟩ := by
  have tdesc : (⟨h, g, d, t, os⟩ : Shared).TypeIs (.builtin "object.__class__") "getset_descriptor" := F.typeOf_object_class
  have gs5 := F.typeOf_object_class
  have gs6 := F.slot_gs_get.lookup
  have gs7 := F.slot_gs_set.lookup
  repeat (any_goals (first | assumption | done | (with_reducible refine wpAny_loadPart_at px ?_; rw [pc]) | with_reducible refine LC.at ?_ | wp_step))
  refine cls_get hC hb px pc ?_
  repeat (any_goals (first | assumption | done | wp_step))
theorem cls_check {M : Model} {nameV : Value} {Q : Unit → Shared → Prop} (hC : h.get? C = some (excClassObj nm q C N bs bm hdct sn sub ab col dd k0 k1 k2 k3 k5 newId)) (hb : bm.contains (.type "BaseException") = true)
    (px : h.get? a = some o) (pc : o.cls = .ref C) (hq : Q () ⟨h, g, d, t, os⟩) : wpAny M A (checkBuiltinCall "BaseException.__getattribute__" ⟨[.ref a, nameV], []⟩) Q E ⟨h, g, d, t, os⟩ := by
  have kind : builtinKind "BaseException.__getattribute__" = some .slot := by decide +kernel
  have cut : splitId "BaseException.__getattribute__" = some ("BaseException", "__getattribute__") := by decide +kernel
  have hcB : (Value.ref C :: bm).contains (.type "BaseException") = true := by rw [List.contains_cons, hb]; exact Bool.or_true _
  have args := F.args_bexc_ga (.ref a) nameV
  simp only [checkBuiltinCall, kind, cut]
  refine wpAny_bind ?_
  · unfold isInstance
    repeat (first | done | (with_reducible refine wpAny_loadPart_at px ?_; rw [pc]) | (with_reducible refine wpAny_isSubtype_exc hC ?_; rw [hcB]) | wp_step)
    exact hq
theorem cls_by {tk : Tok} {Q : Value → Shared → Prop} (FB : ExcAttrFacts "ValueError") (LG : PySem.W.Looks (model prog w) h (typeLookup (.ref C) "__getattribute__") (some (.builtin "BaseException.__getattribute__"))) (LN : PySem.W.Looks (model prog w) h (typeLookup (.ref C) "__getattr__") none)
    (LC : PySem.W.Looks (model prog w) h (typeLookup (.ref C) "__class__") (some (.builtin "object.__class__"))) (hC : h.get? C = some (excClassObj nm q C N bs bm hdct sn sub ab col dd k0 k1 k2 k3 k5 newId)) (hb : bm.contains (.type "object") = true) (hb2 : bm.contains (.type "BaseException") = true)
    (px : h.get? a = some o) (pc : o.cls = .ref C) (hq : Q (.ref C) ⟨h, g, d, t, os⟩) : wpAny (model prog w) A (getAttrBy (.ref a) (.str "__class__" tk) false) Q E ⟨h, g, d, t, os⟩ := by
  have bnd := FB.ga.bind (.ref a)
  have ne : (Value.builtin "BaseException.__getattribute__" == Value.builtin "object.__getattribute__") = false := by decide +kernel
  have ne1 : (onTheHeap (Value.ref C) && Value.builtin "BaseException.__getattribute__" == Value.builtin "object.__getattribute__") = false := by rw [ne]; rfl
  repeat (any_goals (first | assumption | done | (with_reducible refine wpAny_loadPart_at px ?_; rw [pc]) | with_reducible refine LG.at ?_ | with_reducible refine LN.at ?_ | wp_step))
  refine codeAny_call_builtin FB.ga.plain F.entry_bexc_ga (cls_check hC hb2 px pc (cls_entry LC hC hb px pc ?_))
  repeat (any_goals (first | assumption | done | wp_step))
theorem cls_attr {Q : Option Value → Shared → Prop} (FB : ExcAttrFacts "ValueError") (LG : PySem.W.Looks (model prog w) h (typeLookup (.ref C) "__getattribute__") (some (.builtin "BaseException.__getattribute__"))) (LN : PySem.W.Looks (model prog w) h (typeLookup (.ref C) "__getattr__") none)
    (LC : PySem.W.Looks (model prog w) h (typeLookup (.ref C) "__class__") (some (.builtin "object.__class__"))) (hC : h.get? C = some (excClassObj nm q C N bs bm hdct sn sub ab col dd k0 k1 k2 k3 k5 newId)) (hb : bm.contains (.type "object") = true) (hb2 : bm.contains (.type "BaseException") = true)
    (px : h.get? a = some o) (pc : o.cls = .ref C) (hq : Q (some (.ref C)) ⟨h, g, d, t + 1, os⟩) : wpAny (model prog w) A (getAttr? (.ref a) "__class__") Q E ⟨h, g, d, t, os⟩ := by
  unfold getAttr? getAttrBy?
  repeat (any_goals (first | assumption | done | with_reducible apply cls_by FB LG LN LC hC hb hb2 px pc | wp_step))
end
end Dl

namespace Dl
open PySem PySem.Spec PySem.Calls PyProof.Rows L2
/-! ## isinstance of an exception, by K -/
theorem own_obj {K : PySem.W.Frag} {h : Heap} {C : Addr} {bmB : List Value} {newId : String} (X : K.In h) (q : PySem.W.excIn K C bmB newId = true) :
    ∃ bm N nm qq bs hdct sn sub ab col dd k0 k1 k2 k3 k5, h.get? C = some (excClassObj nm qq C N bs bm hdct sn sub ab col dd k0 k1 k2 k3 k5 newId) ∧ OwnTail h bmB bm := by
  unfold PySem.W.excIn at q
  split at q
  case h_2 => cases q
  rename_i dct cdt slo hlk
  split at q
  case h_2 => cases q
  rename_i Cc tl a0 a1 a2 a3 nid a5 hmro hsl
  simp only [Bool.and_eq_true, Bool.not_eq_true', beq_iff_eq] at q
  obtain ⟨⟨⟨⟨⟨q1, q2⟩, q3⟩, q4⟩, q5⟩, q6⟩ := q
  subst q1 q2
  obtain ⟨c1, c2, c3, c4, c5, c6, c7, c8, c9, c10, c11⟩ := cdt
  simp only at hmro q3 q5 q6
  subst hmro q3
  have es : slo = #[a0, a1, a2, a3, some (.builtin nid), a5] := by
    rcases slo with ⟨l⟩
    exact congrArg Array.mk hsl
  subst es
  exact ⟨tl, c4, c1, c5, c2, c6, c7, c8, c9, c10, dct, a0, a1, a2, a3, a5, X _ _ hlk, PySem.W.tail_of_in X q4⟩
/-- what of the text an exception's class must have -/
structure ExcC (K : PySem.W.Frag) (C : Addr) : Prop where
  ex : ∃ bmB newId, PySem.W.excIn K C bmB newId = true ∧ bmB.contains (.type "object") = true ∧ bmB.contains (.type "BaseException") = true
  ga : PySem.W.findIn K (.ref C) "__getattribute__" = some (some (.builtin "BaseException.__getattribute__"))
  gn : PySem.W.findIn K (.ref C) "__getattr__" = some none
  cl : PySem.W.findIn K (.ref C) "__class__" = some (some (.builtin "object.__class__"))
theorem kitx_exc {K : PySem.W.Frag} {ea C : Addr} {oe : Obj} (hcls : oe.cls = .ref C) (X : ExcC K C) : PySem.W.KitX K (.ref ea) (.ref C) (fun h => h.get? ea = some oe) where
  ty := fun M h _ p => by
    intro A Q E s k q
    show wpAny M A (do let z ← loadPart ea (some headPart); pure z.cls) Q E s
    exact wpAny_bind (wpAny_loadPart (k _ _ p) (wpAny_pure (by rw [hcls]; exact q)))
  it := fun M h KX _ => by
    obtain ⟨bmB, newId, hq, _⟩ := X.ex
    obtain ⟨bm, N, nm, qq, bs, hdct, sn, sub, ab, col, dd, k0, k1, k2, k3, k5, hC, _⟩ := own_obj KX hq
    intro A Q E s k q
    unfold isType loadHead
    exact wpAny_bind (wpAny_loadPart (k _ _ hC) (wpAny_pure q))
  ne := fun h tp dd its n sl KX htp => by
    obtain ⟨bmB, newId, hq, _⟩ := X.ex
    obtain ⟨bm, N, nm, qq, bs, hdct, sn, sub, ab, col, dd, k0, k1, k2, k3, k5, hC, _⟩ := own_obj KX hq
    refine Bool.eq_false_iff.mpr fun z => ?_
    have e : C = tp := Value.ref.inj (beq_iff_eq.mp z)
    subst e
    have z : Value.type "type" = Value.type "tuple" := congrArg Obj.cls (Option.some.inj (hC.symm.trans htp))
    exact absurd (Value.type.inj z) (by decide)
  ca := fun {prog w A E Q s} KX p k => by
    obtain ⟨bmB, newId, hq, hb1, hb2⟩ := X.ex
    obtain ⟨bm, N, nm, qq, bs, hdct, sn, sub, ab, col, dd, k0, k1, k2, k3, k5, hC, T⟩ := own_obj KX hq
    obtain ⟨h, g, d, t, os⟩ := s
    exact cls_attr PySem.F.attr_ValueError (PySem.W.looks_findIn KX X.ga) (PySem.W.looks_findIn KX X.gn) (PySem.W.looks_findIn KX X.cl) hC (T.hasType hb1) (T.hasType hb2) p hcls k
section
variable {X : Cx} {ea C : Addr} {oe : Obj} {c : Value} {cv : V} {b : Bool}
theorem call_isE (hp : (ea, oe) ∈ X.pn) (hcls : oe.cls = .ref C) (E : ExcC X.K C) (hr : RelV cv c) (hc : ∀ u, RelV cv u → u = c) (e : PySem.W.kitOne X.K (.ref C) c = some b) : CallR X (.builtin "isinstance") (fun xs H Q => xs = [.ref ea, cv] ∧ Q (.bl b) H) := by
  rintro pins s σ H xs us Q I r ⟨rfl, q⟩
  cases r with
  | cons r1 r2 => cases r2 with
    | cons r2 r3 =>
      cases r3
      rename_i u1 u2
      cases (show u1 = Value.ref ea from r1)
      cases hc _ r2
      exact PySem.W.kia_one (kitx_exc hcls E) I.kIn (I.pin _ (List.mem_append_left _ hp)).1 e (by intro z; cases z) fun tk => ⟨.bl b, H, I.tok _, rfl, q⟩
end
end Dl

namespace Dl
open PySem PySem.Spec PyProof.Rows L2
/-! ## a def called within an except suite, the exception handed in -/
abbrev cxH (P : Program) (w : World) (K : PySem.W.Frag) (mg : Str → Option Value) (base : Heap) (N : List Str) (qual : Str) (scope : Scope) (f : Addr) (cd : Value) (A : Around) (outer : List Env) (s : Shared) (H : Hp) (pn : List (Addr × Obj)) : Cx :=
  { (cxOf CX0 P w K mg base N qual scope f cd A outer s H (fun _ _ _ => False)) with calm := false, pn := pn, xe := fun _ _ => False }
theorem rel_pt {K : PySem.W.Frag} {G H : Hp} {ea : Addr} {k : Nat} {N : List Str} (hN : N.length = k + 1) (s : Same G H) : Rel K ⟨G, H, fun _ => False⟩ (.pt ea :: List.replicate k .no) (L2.start N [.ref ea]) G H := by
  refine ⟨s, Same.refl _, fun b o e _ => e, fun b e => e, fun b o e (e0 : G b = none) => (by rw [e0] at e; cases e), ⟨fun _ => none, ⟨fun _ _ z => by cases z⟩, fun i sl hs => ?_⟩, by simp [L2.start, hN]⟩
  cases i with
  | zero => simp only [List.getElem?_cons_zero, Option.some.injEq] at hs; subst hs; rfl
  | succ i =>
    simp only [List.getElem?_cons_succ, List.getElem?_replicate] at hs
    split at hs
    · cases hs; trivial
    · cases hs
theorem run_handled {Y : Cx} {ea f : Addr} {oe : Obj} {pins : List (Addr × Obj)} {σ : L2.St} {H G : Hp} {s : Shared} {x qual p : Str} {st : Stmt} {fd : FuncData} {N : List Str} {k kk : Nat} {d : D} (F : Fun Y.K x qual st f fd) (S : FnScope N [p] (defScope st)) (hN : N.length = kk + 1)
    (hr : Room (k + 1) Y.A) (hst : Y.stack = Y.env :: Y.outer) (hfr : Y.env.frame = some Y.env.locals) (hb : Binds Y.K fd [p] []) (I : Inv (markX Y ea) ((ea, oe) :: pins) σ H s) (hG : Same G H)
    (hbody : ∀ (cdv : Value), ∃ t, DSs (cxH Y.prog Y.w Y.K Y.mg Y.base N qual (defScope st) f cdv (Y.A.mark (some (.ref ea))) Y.stack s H [(ea, oe)]) (defBody st) t ∧ t { nx := fun _ => False, rt := fun d' _ => d' = d } (.pt ea :: List.replicate kk .no)) :
    wpAny (model Y.prog Y.w) (Y.A.mark (some (.ref ea))) (call (.ref f) [.ref ea]) (fun u s4 => ∃ v H' G', RelV v u ∧ Inv (markX Y ea) pins σ H' s4 ∧ Ext G H G' H' ∧ Den Y.K G' v d) (fun _ _ => False) s := by
  obtain ⟨oc, od, kV, doc, pm, an, cdv, ct, osl, rfl, lk, hcd⟩ := F.ex
  have e0 : Env0 Y.prog Y.w Y.K Y.mg Y.base Y.A Y.stack s H := by
    have z := I.env0
    exact ⟨z.frames, z.mod, z.bs, z.bsz, z.funs, z.frf, z.hok, z.bare⟩
  have KX : Y.K.In s.heap := I.kIn
  have lim : s.heap.NoLimit := I.nolimit
  have hkind : ∀ y ∈ [p].zip [Value.ref ea], (defScope st).names.lookup y.1 = some .local ∨ ((defScope st).names.lookup y.1 = some .cell ∧ ((cellsFrom (s.heap.objs.size + 1) (defScope st).names []).lookup y.1).isSome = true) := fun ⟨n, v⟩ hy => by
    rcases S.par n (List.of_mem_zip hy).1 with q | q
    · exact .inl q
    · exact .inr ⟨q, PySem.W.cellsFrom_some _ _ _ (.inl q)⟩
  obtain ⟨p1, p2, p3, p4, p5⟩ := I.pin (ea, oe) (List.mem_append_right _ List.mem_cons_self)
  obtain ⟨t, ht, hq⟩ := hbody cdv
  refine wpAny_call (codeAny_call_function hr.depth (KX _ _ lk) rfl S.co S.gen rfl (PySem.W.codeRec_of KX hcd) (hb s [.ref ea] KX rfl _ _ _ _ ?_))
  refine wpAny_newFunctionEnv_cells S.kind hkind fun env he s1 xx => ?_
  subst he
  refine ⟨lim.keeps xx.toInCall.keep, codeAny_func ?_⟩
  have I0 : Inv (cxOf CX0 Y.prog Y.w Y.K Y.mg Y.base N qual (defScope st) f cdv Y.A Y.stack s H (fun _ _ _ => False)) [] (L2.start N [.ref ea]) H s1 := inv_start S hr.hd e0 rfl (.cons rfl .nil) xx
  have Ic : Inv (cxH Y.prog Y.w Y.K Y.mg Y.base N qual (defScope st) f cdv (Y.A.mark (some (.ref ea))) Y.stack s H [(ea, oe)]) [] (L2.start N [.ref ea]) H s1 := by
    refine ⟨⟨I0.ok.mod, I0.ok.kind, I0.ok.glob, I0.ok.blt, I0.ok.above, I0.ok.inj, I0.ok.has, I0.ok.cab, fun z => (by cases z), ?_, I0.ok.stk, I0.ok.exf, I0.ok.bs, I0.ok.bsz, I0.ok.noex, I0.ok.exfs, I0.ok.funs, I0.ok.frf⟩, I0.os, I0.bare, I0.base, I0.loc, I0.cell, I0.free, I0.freeC, fun z hz => ?_, I0.hok, I0.len⟩
    · exact I0.ok.frames
    · have ez : z = (ea, oe) := by simpa using hz
      subst ez
      refine ⟨xx.toInCall.keep _ _ p1, p2, Nat.ne_of_lt (Heap.lt_size p1), fun hf => ?_, p5⟩
      have hf' : ea ∈ frs Y.stack := hf
      rw [hst] at hf'
      rcases frs_cons hf' with q | q
      · rw [hfr] at q; cases q; exact p3 rfl
      · exact p4 q
  refine wpAny_mono (ht [] s1 _ H ⟨fun _ _ => False, fun v H' => ∃ G', Ext G H G' H' ∧ Den Y.K G' v d, fun _ _ => False, fun _ _ => False⟩ Ic ⟨⟨G, H, fun _ => False⟩, _, G, _, rel_pt hN hG, hq, ⟨fun _ _ _ _ _ z => z, fun v d' δ σ' G' H' R' dv ed => ?_, fun _ _ _ _ _ z => z, fun _ _ _ _ _ z => z⟩⟩) (fun fl s' hs => ?_) fun e s' hs => False.elim hs
  · subst ed; exact ⟨G', R'.toExt, dv⟩
  · cases fl with
    | ret u =>
      obtain ⟨v, σ', H', J, rv, G', e', dv⟩ := hs
      have I1 : Inv (markX Y ea) pins σ H s := I.pins_of fun z hz => I.pin z (List.mem_append_right _ (List.mem_cons_of_mem _ hz))
      obtain ⟨v', H2, I2, rv2, q2⟩ := I1.after (Q := fun v' H2 => v' = v ∧ H2 = H') ⟨v, H', J.os, J.bare, J.base, J.hok, rv, rfl, rfl⟩
      obtain ⟨rfl, rfl⟩ := q2
      exact ⟨v', H2, G', rv2, I2, e', dv⟩
    | next => obtain ⟨_, _, _, q⟩ := hs; exact q.elim
    | brk => obtain ⟨_, _, _, q⟩ := hs; exact q.elim
    | cont => obtain ⟨_, _, _, q⟩ := hs; exact q.elim
end Dl

namespace Dl
open PySem PySem.Spec PyProof.Rows L2
/-! ## return f(e) in an except suite; isinstance(e, C) in f -/
def dIsE (j ea : Nat) (b : Bool) : TEd := fun δ Q => δ[j]? = some (.pt ea) ∧ Q (.bl b) δ
theorem de_isE {X : Cx} {ea C : Addr} {oe : Obj} {c : Value} {cv : V} {b : Bool} (j : Nat) {en : Str} {p p1 pos : Pos} {ce : Expr} (hp : (ea, oe) ∈ X.pn) (hcls : oe.cls = .ref C) (E : ExcC X.K C) (hr : RelV cv c) (hc : ∀ u, RelV cv u → u = c) (e : PySem.W.kitOne X.K (.ref C) c = some b) (hce : PE X ce (tC cv))
    (hm : X.mg "isinstance" = none) (hN : X.N[j]? = some en := by rfl) (hv : Vis X.env.scope en := by first | exact Or.inl rfl | exact Or.inr (Or.inl rfl) | exact Or.inr (Or.inr rfl)) (hd : (en == ("__debug__" : Str)) = false := by decide) (hcd : (en == ("__classdict__" : Str)) = false := by decide) (hg : Gl X "isinstance" := by rfl)
    (h1 : starEach [.Name en p1, ce] X.env = (false, eval (.Name en p1) X.env) :: starEach [ce] X.env := by rfl) (h2 : starEach [ce] X.env = (false, eval ce X.env) :: starEach [] X.env := by rfl) (hpl : (backTo pos (starEach [ce] X.env)).any (·.1) = false := by rfl) :
    DE X (.Call (.Name "isinstance" p) [.Name en p1, ce] [] pos) (dIsE j ea b) :=
  pe_imp (pe_callB (call_isE hp hcls E hr hc e) hg hm (by rfl) (pa_cons (pe_var hN hv hd hcd) (pa_cons hce pa_nil h2) h1) (by decide) (by decide) h1 hpl) fun σ H Q2 ⟨n, δ, G, Q, R, ⟨h, q⟩, k⟩ => by
    have z : σ[j]? = some (some (.ref ea)) := R.sl j _ h
    exact ⟨.ref ea, z, rfl, k _ G H _ δ R (Same.refl _) (.bl b) q⟩
theorem suite_ok {Y : Cx} {C f : Addr} {fn qual p en : Str} {st : Stmt} {fd : FuncData} {N : List Str} {k kk i : Nat} {d : D} {fp ep cp rp : Pos} (F : Fun Y.K fn qual st f fd) (S : FnScope N [p] (defScope st)) (hN : N.length = kk + 1)
    (hr : Room (k + 1) Y.A) (hst : Y.stack = Y.env :: Y.outer) (hfr : Y.env.frame = some Y.env.locals) (hb : Binds Y.K fd [p] []) (hm : Y.mg fn = some (.ref f))
    (hbody : ∀ (ea : Addr) (oe : Obj) (cdv : Value) (s : Shared) (H : Hp), oe.cls = .ref C → ∃ t, DSs (cxH Y.prog Y.w Y.K Y.mg Y.base N qual (defScope st) f cdv (Y.A.mark (some (.ref ea))) Y.stack s H [(ea, oe)]) (defBody st) t ∧ t { nx := fun _ => False, rt := fun d' _ => d' = d } (.pt ea :: List.replicate kk .no))
    (hi : Y.N[i]? = some en) (hv : Vis Y.env.scope en) (hg : Gl Y fn) (hdb : (fn == ("__debug__" : Str)) = false := by decide) (hd : (en == ("__debug__" : Str)) = false := by decide) (hcd : (en == ("__classdict__" : Str)) = false := by decide)
    (he : starEach [.Name en ep] Y.env = (false, eval (.Name en ep) Y.env) :: starEach [] Y.env := by rfl) (hpl : (backTo cp (starEach [] Y.env)).any (·.1) = false := by rfl) :
    SuiteOk Y i C [.Return (some (.Call (.Name fn fp) [.Name en ep] [] cp)) rp] d := by
  intro ea oe pins σ H G s hcls hG I hσ
  have pe : PE (markX (pinX Y ((ea, oe) :: Y.pn) Y.xe) ea) (.Call (.Name fn fp) [.Name en ep] [] cp) (fun σ H Q => σ[i]? = some (some (.ref ea)) ∧ ∃ G, Same G H ∧ ∀ v H' G', Ext G H G' H' → Den Y.K G' v d → Q v H') := by
    intro pins s σ H Q I ⟨hσ, G, hG, k1⟩
    refine wpAny_Call_Name_kw (ld_glob I hg hm ?_ hdb)
    refine PySem.W.callWith_K (h₀ := Y.base) I.ok.mod.kin F.kp (thn ((pa_cons (X := markX (pinX Y ((ea, oe) :: Y.pn) Y.xe) ea) (pe_var (i := i) hi hv hd hcd) pa_nil he) cp pins s σ H (fun vs H1 => vs = [.ref ea] ∧ H1 = H) I ⟨.ref ea, hσ, rfl, rfl⟩) fun us s1 ⟨vs, H1, I1, r, ev, eH⟩ => ⟨I1.kIn, ?_⟩) he hpl
    subst ev eH
    obtain ⟨u, rfl, ru⟩ := r.one
    cases (show u = Value.ref ea from ru)
    have I2 : Inv (markX (pinX Y ((ea, oe) :: Y.pn) Y.xe) ea) ((ea, oe) :: pins) σ H1 s1 := I1.pins_of fun z hz => by
      rcases (List.mem_cons.mp hz) with rfl | hz
      · exact I1.pin _ (List.mem_append_left _ List.mem_cons_self)
      · exact I1.pin _ (List.mem_append_right _ hz)
    refine wpAny_mono (run_handled (Y := pinX Y ((ea, oe) :: Y.pn) Y.xe) F S hN hr hst hfr hb I2 hG fun cdv => hbody ea oe cdv s1 H1 hcls) (fun u s4 ⟨v, H', G', rv, I4, e4, d4⟩ => ?_) fun _ _ z => z
    exact ⟨v, H', I4, rv, k1 v H' G' e4 d4⟩
  have I0 : Inv (markX (pinX Y ((ea, oe) :: Y.pn) Y.xe) ea) pins σ H s := ⟨⟨I.ok.mod, I.ok.kind, I.ok.glob, I.ok.blt, I.ok.above, I.ok.inj, I.ok.has, I.ok.cab, I.ok.hd, I.ok.frames, I.ok.stk, I.ok.exf, I.ok.bs, I.ok.bsz, I.ok.noex, I.ok.exfs, I.ok.funs, I.ok.frf⟩, I.os, I.bare, I.base, I.loc, I.cell, I.free, I.freeC, fun z hz => I.pin z (by
    rcases List.mem_append.mp hz with hz | hz
    · rcases List.mem_cons.mp hz with rfl | hz
      · exact List.mem_append_right _ List.mem_cons_self
      · exact List.mem_append_left _ hz
    · exact List.mem_append_right _ (List.mem_cons_of_mem _ hz)), I.hok, I.len⟩
  refine wpAny_mono ((pss_one (ps_ret pe)) pins s σ H ⟨fun _ _ => False, fun v H' => ∃ G', Ext G H G' H' ∧ Den Y.K G' v d, fun _ _ => False, fun _ _ => False⟩ I0 ⟨hσ, G, hG, fun v H' G' e4 d4 => ⟨G', e4, d4⟩⟩) (fun f s4 hs => ?_) fun _ _ z => z
  cases f with
  | ret u =>
    obtain ⟨v, σ', H', J, rv, G', e4, d4⟩ := hs
    refine ⟨u, v, σ', H', G', rfl, rv, ⟨⟨J.ok.mod, J.ok.kind, J.ok.glob, J.ok.blt, J.ok.above, J.ok.inj, J.ok.has, J.ok.cab, J.ok.hd, J.ok.frames, J.ok.stk, J.ok.exf, J.ok.bs, J.ok.bsz, J.ok.noex, J.ok.exfs, J.ok.funs, J.ok.frf⟩, J.os, J.bare, J.base, J.loc, J.cell, J.free, J.freeC, fun z hz => J.pin z ?_, J.hok, J.len⟩, e4, d4⟩
    rcases List.mem_append.mp hz with hz | hz
    · exact List.mem_append_left _ (List.mem_cons_of_mem _ hz)
    · exact List.mem_append_right _ hz
  | next => obtain ⟨_, _, _, q⟩ := hs; exact q.elim
  | brk => obtain ⟨_, _, _, q⟩ := hs; exact q.elim
  | cont => obtain ⟨_, _, _, q⟩ := hs; exact q.elim
end Dl

namespace Dl
open PySem PySem.Spec PyProof.Rows L2
/-! ## the classes of a try, from K; an if that raises or goes on -/
theorem base_in {K : PySem.W.Frag} {h : Heap} {C R : Addr} {bmB : List Value} {newId : String} (X : K.In h) (q : PySem.W.excIn K C bmB newId = true) (m : PySem.W.mroIn K C (.ref R) = some true) (ne0 : C ≠ R) :
    ∃ newC bm N nm qq bs hdct sn sub ab col dd k0 k1 k2 k3 k5, h.get? C = some (excClassObj nm qq C N bs bm hdct sn sub ab col dd k0 k1 k2 k3 k5 newC) ∧ bm.contains (.ref R) = true := by
  obtain ⟨bm, N, nm, qq, bs, hdct, sn, sub, ab, col, dd, k0, k1, k2, k3, k5, hC, _⟩ := own_obj X q
  refine ⟨newId, bm, N, nm, qq, bs, hdct, sn, sub, ab, col, dd, k0, k1, k2, k3, k5, hC, ?_⟩
  unfold PySem.W.mroIn PySem.W.clsIn at m
  split at m
  · rename_i c d cd sl hl
    have z := (X _ _ hl).symm.trans hC
    have e2 : Data.cls cd = (excClassObj nm qq C N bs bm hdct sn sub ab col dd k0 k1 k2 k3 k5 newId).data := congrArg Obj.data (Option.some.inj z)
    have e3 : cd.mro = Value.ref C :: bm := by
      have := Data.cls.inj e2
      rw [this]
    have m2 : ¬ cd.mro = [] ∧ Value.ref R ∈ cd.mro := by simpa using m
    have m' : cd.mro.contains (.ref R) = true := by simpa using m2.2
    rw [e3, List.contains_cons] at m'
    have ne : (Value.ref R == Value.ref C) = false := beq_eq_false_iff_ne.mpr fun z => ne0 (Value.ref.inj z).symm
    rw [ne, Bool.false_or] at m'
    exact m'
  · cases m
theorem rss_if {X : Cx} {n : En} {c : Expr} {a rest : List Stmt} {pos : Pos} {tc : TTd} {ra r : Ev → Prop} (hc : DT X c tc) (ha : RSs X n a ra) (h2 : RSs X n rest r) : RSs X n (.If c a [] pos :: rest) (fun δ => tc δ fun q δ1 => if q = true then ra δ1 else r δ1) :=
  pss_imp (pss_cons (ps_if hc ha pss_nil) h2) fun D σ H ⟨δ, G, R, h⟩ => ⟨n, δ, G, _, R, h, fun q G1 H1 δ1 R1 s1 h1 => by
    cases q with
    | true => rw [if_pos rfl] at h1; exact iteT ⟨δ1, G1, R1, h1⟩
    | false => rw [if_neg Bool.false_ne_true] at h1; exact iteF ⟨δ1, G1, R1, h1⟩⟩
theorem units3 {k : Nat} {A : Around} (r : Room k A) : A.units + 3 + 64 < cLine := by have := r.un; omega
theorem re_binR {X : Cx} {n : En} {a b : Expr} {r : Ev → Prop} {pos : Pos} {op : Operator} {te : TEd} (ha : DE X a te) (hb : RE X n b r) : RE X n (.BinOp a op b pos) (fun δ => te δ fun _ δ1 => r δ1) :=
  pe_imp (pe_op (r := fun _ _ _ _ => False) (fun _ _ _ _ _ _ _ _ _ _ _ _ z => z.elim) ha hb) fun σ H Q ⟨δ, G, R, h⟩ => ⟨n, δ, G, _, R, h, fun v G1 H1 d δ1 R1 s1 d1 h1 => ⟨δ1, G1, R1, h1⟩⟩
end Dl

namespace Dl
open PySem PySem.Spec PyProof.Rows L2
def notStar : Expr → Bool
  | .Starred .. => false
  | _ => true
theorem star_cons {e : Expr} {es : List Expr} {env : Env} (h : notStar e = true) : starEach (e :: es) env = (false, eval e env) :: starEach es env := by
  cases e <;> first | rfl | cases h
section
variable {X : Cx} {e : Expr} {es : List Expr} {te : TEd} {t : TAd}
theorem da_consL (ha : DE X e te) (hr : DA X es t) (h : notStar e = true := by rfl) : DA X (e :: es) (dCons te t) := da_cons ha hr (star_cons h)
end
end Dl

local macro_rules | `(tactic| simp! only [$as,*] $[$loc]?) => `(tactic| simp only [$as,*, List.tail_cons, List.head?_cons, eq_self, decide_true, Bool.and_self, and_self, Dl.dSeq, Dl.dNext, Dl.dIfS, Dl.dB, Dl.dOp, Dl.dVar, Dl.dC, Dl.dLst, Dl.dTup, Dl.dNil, Dl.dCons, Dl.dRet, Dl.dRetN, Dl.dCall, Dl.cLen, Dl.cMax, Dl.cMin, Dl.cInt, Dl.cList, Dl.cTuple, Dl.dDrop, Dl.dSet, Dl.dOwn, Dl.dFrz, Dl.dApp, Dl.dAnd, Dl.dOr, Dl.dNot, Dl.dAndV, Dl.dOrV, Dl.dNotV, Dl.dIf, Dl.dNever, Dl.dTru, Dl.truD, Dl.rAddD, Dl.rII, Dl.rIC, Dl.rIxD, Dl.rEqD, Dl.rNeD, Dl.rIsN, Dl.rNotN, Dl.rInD, Dl.dSl, Dl.dPart, Dl.dNoPart, Dl.rSlD, Dl.dUn, Dl.rNegD, Dl.dBreak, Dl.dCont, Dl.dIsi, Dl.dRep, Dl.dChain, Dl.gdTup2, Dl.gdTup3, Dl.gdTup4, Dl.gdLst3, Dl.dAsg, Dl.dAug, Dl.dExt, Dl.cSum, Dl.dSlG, Dl.dSlS, Dl.cAll, Dl.cSorted, Dl.cSortSet, Dl.cMinL, Dl.cLenSet, Dl.diEnum, Dl.dSign, Dl.cMinD, Dl.diSigns, Dl.atS_int, Dl.diZip, Dl.dYes, Dl.dropOw, Dl.is_int_non, Dl.is_int_bl, Dl.is_int_int, Dl.is_int_str, Dl.is_int_tup, Dl.is_int_lst, Dl.is_bool_non, Dl.is_bool_bl, Dl.is_bool_int, Dl.is_bool_str, Dl.is_bool_tup, Dl.is_bool_lst, Dl.is_tuple_non, Dl.is_tuple_bl, Dl.is_tuple_int, Dl.is_tuple_str, Dl.is_tuple_tup, Dl.is_tuple_lst, Dl.is_list_non, Dl.is_list_bl, Dl.is_list_int, Dl.is_list_str, Dl.is_list_tup, Dl.is_list_lst, Dl.is_str_non, Dl.is_str_bl, Dl.is_str_int, Dl.is_str_str, Dl.is_str_tup, Dl.is_str_lst, Dl.diRange1, Dl.diRange2, Dl.gdName, Dl.diSeq, Dl.startD, List.map_cons, List.map_nil, List.length_cons, List.length_nil, List.cons_append, List.nil_append, List.replicate_zero, List.replicate_succ, Nat.reduceAdd, Nat.reduceSub, List.getElem?_cons_zero, List.getElem?_cons_succ, List.set_cons_zero, List.set_cons_succ, Bool.not_true, Bool.not_false, if_true, if_false, ite_true, ite_false, reduceCtorEq, Bool.false_eq_true, Dl.rF, Dl.rInF, Dl.cLenF, Dl.cIntF, Dl.cListF, Dl.cTupleF, Dl.diSeqF, Dl.dTruF, Dl.dSlF, Option.some.injEq, Dl.eqD_non_non, Dl.eqD_non_bl, Dl.eqD_non_int, Dl.eqD_non_str, Dl.eqD_non_tup, Dl.eqD_non_lst, Dl.eqD_bl_non, Dl.eqD_bl_bl, Dl.eqD_bl_int, Dl.eqD_bl_str, Dl.eqD_bl_tup, Dl.eqD_bl_lst, Dl.eqD_int_non, Dl.eqD_int_bl, Dl.eqD_int_int, Dl.eqD_int_str, Dl.eqD_int_tup, Dl.eqD_int_lst, Dl.eqD_str_non, Dl.eqD_str_bl, Dl.eqD_str_int, Dl.eqD_str_str, Dl.eqD_str_tup, Dl.eqD_str_lst, Dl.eqD_tup_non, Dl.eqD_tup_bl, Dl.eqD_tup_int, Dl.eqD_tup_str, Dl.eqD_tup_tup, Dl.eqD_tup_lst, Dl.eqD_lst_non, Dl.eqD_lst_bl, Dl.eqD_lst_int, Dl.eqD_lst_str, Dl.eqD_lst_tup, Dl.eqD_lst_lst, Dl.eqDL_nil_nil, Dl.eqDL_nil_cons, Dl.eqDL_cons_nil, Dl.eqDL_cons_cons, Dl.isNonD_non, Dl.isNonD_int, Dl.isNonD_bl, Dl.isNonD_str, Dl.isNonD_tup, Dl.isNonD_lst, Dl.addF_int, Dl.addF_tup, Dl.addF_lst, Dl.addF_str, Dl.ixF_tup, Dl.ixF_lst, Dl.seqF_tup, Dl.seqF_lst, Dl.lstF_lst, Dl.intF_int, Dl.intF_bl, Dl.truF_non, Dl.truF_bl, Dl.truF_int, Dl.truF_tup, Dl.truF_lst, Dl.slF_lst, Dl.slF_tup, Dl.slOk_lst, Dl.slOk_tup, exists_eq_left', Dl.atI_0, Dl.atI_1, Dl.atI_2, Dl.atI_3, Dl.atI_4, Dl.atI_5, false_and, exists_false, decide_eq_true_eq, Bool.not_eq_true, true_and, and_true, Bool.true_and, Bool.false_and, Bool.and_true, Bool.and_false, Dl.okEq_non_non, Dl.okEq_non_bl, Dl.okEq_non_int, Dl.okEq_bl_non, Dl.okEq_bl_bl, Dl.okEq_bl_int, Dl.okEq_int_non, Dl.okEq_int_bl, Dl.okEq_int_int, beq_iff_eq, beq_self_eq_true, beq_eq_false_iff_ne, Bool.not_eq_true', ne_eq, ite_not, decide_eq_false_iff_not, Dl.sz0, Dl.sz1, Dl.sz2, Dl.sz3, Dl.sz4, Dl.sz5, Dl.sz6, Dl.sz7, Dl.sz8, Dl.sz9, Dl.sz10, Dl.sz11, Dl.sz12, Dl.sz13, Dl.sz14, Dl.sz15, Dl.sz16, Dl.sz17, Dl.sz18, Dl.sz19, Dl.sz20, Dl.sz21, Dl.sz22, Dl.sz23, Dl.sz24, Dl.sz25, Dl.sz26, Dl.sz27, Dl.sz28, Dl.sz29, Dl.sz30] $[$loc]?)
namespace Law
open PySem L2 Dl

/-! ### draws from the script -/
theorem okL_ints : ∀ ns : List Int, D.okL (ns.map D.int) = true
  | [] => rfl
  | _ :: r => okL_ints r
theorem depL_ints : ∀ ns : List Int, D.depL (ns.map D.int) = 0
  | [] => rfl
  | _ :: r => by show max 0 (D.depL (r.map D.int)) = 0; rw [depL_ints r]; rfl
theorem atI_map {α : Type} {xs : List α} {i : Int} (f : α → D) (h0 : 0 ≤ i) (h1 : i < xs.length) : atI (xs.map f) i = some (f (xs[i.toNat]'(by omega))) := by
  have e : i = ((i.toNat : Nat) : Int) := by omega
  have q : atI (xs.map f) ((i.toNat : Nat) : Int) = some (f (xs[i.toNat]'(by omega))) := atI_nat (by rw [List.getElem?_map, List.getElem?_eq_getElem (by omega)]; rfl)
  rw [← e] at q
  exact q
def cell (ns : List Int) (k : Int) : Int := if ns = [] then 7 * k else ns.getD (k % ns.length).toNat 0 + 6553 * (k / ns.length)
def drawn (ns : List Int) (k m : Int) : Int :=
  (((cell ns k % 2147483563 * 69069 + 104723 * (k + 1)) % 2147483563 * ((cell ns k % 2147483563 * 69069 + 104723 * (k + 1)) % 2147483563) + (cell ns k % 2147483563 * 69069 + 104723 * (k + 1)) % 2147483563 / 3) % 2147483399 *
    (((cell ns k % 2147483563 * 69069 + 104723 * (k + 1)) % 2147483563 * ((cell ns k % 2147483563 * 69069 + 104723 * (k + 1)) % 2147483563) + (cell ns k % 2147483563 * 69069 + 104723 * (k + 1)) % 2147483563 / 3) % 2147483399) +
    ((cell ns k % 2147483563 * 69069 + 104723 * (k + 1)) % 2147483563 * ((cell ns k % 2147483563 * 69069 + 104723 * (k + 1)) % 2147483563) + (cell ns k % 2147483563 * 69069 + 104723 * (k + 1)) % 2147483563 / 3) % 2147483399 / 7) % 2147483647 / 11 % m
theorem drawn_lo {ns : List Int} {k m : Int} (hm : 0 < m) : 0 ≤ drawn ns k m := Int.emod_nonneg _ (by omega)
theorem drawn_hi {ns : List Int} {k m : Int} (hm : 0 < m) : drawn ns k m < m := Int.emod_lt_of_pos _ hm
abbrev scr (ns : List Int) : D := .lst (ns.map D.int)
def S_law_cell : SpD := fun ds Q => ∃ (ns : List Int) (k : Int), ds = [scr ns, .int k] ∧ ns.length ≤ 63 ∧ 0 ≤ k ∧ Q (.int (cell ns k))
theorem l_law_cell : ∀ ds Q, S_law_cell ds Q → ds.length = 2 := by rintro ds Q ⟨ns, k, rfl, _⟩; rfl
def S_law_drawn : SpD := fun ds Q => ∃ (ns : List Int) (k m : Int), ds = [scr ns, .int k, .int m] ∧ ns.length ≤ 63 ∧ 0 ≤ k ∧ 0 < m ∧ Q (.int (drawn ns k m))
theorem l_law_drawn : ∀ ds Q, S_law_drawn ds Q → ds.length = 3 := by rintro ds Q ⟨ns, k, m, rfl, _⟩; rfl
def t_law_cell : TSd := dSeq (dIfS (dB (dOp rEqD ((dVar 0)) ((dLst (dNil))))) (dRet ((dOp (rIC CMul fun i j => .int (i * j)) (dC (.int 7)) ((dVar 1))))) (dNext)) (dRet ((dOp (rF addF) ((dOp (rF ixF) ((dVar 0)) ((dOp (rIC (fun _ j => 0 < j) fun i j => .int (i % j)) ((dVar 1)) ((dCall cLenF ((dCons ((dVar 0)) (dNil))))))))) ((dOp (rIC CMul fun i j => .int (i * j)) (dC (.int 6553)) ((dOp (rIC CDiv fun i j => .int (i / j)) ((dVar 1)) ((dCall cLenF ((dCons ((dVar 0)) (dNil))))))))))))
theorem r_law_cell : ∀ ds Q, S_law_cell ds Q → t_law_cell { nx := fun _ => Q .non, rt := fun d _ => Q d } (startD ["_law_script", "_law_k"] ds) := by
  rintro ds Q ⟨ns, k, rfl, hl, hk, q⟩
  have he : okEq (scr ns) (.lst []) := ⟨okL_ints ns, rfl, by show min _ 1 ≤ 60; omega⟩
  cases ns with
  | nil =>
    simp only [cell, if_true] at q
    simp! only [t_law_cell]
    exact ⟨he, .inl (by decide), q⟩
  | cons n r =>
    have hp : (0 : Int) < ((n :: r).length : Int) := by simp only [List.length_cons]; omega
    have h0 : 0 ≤ k % ((n :: r).length : Int) := Int.emod_nonneg _ (by omega)
    have h1 : k % ((n :: r).length : Int) < ((n :: r).length : Int) := Int.emod_lt_of_pos _ hp
    have e : atI ((n :: r).map D.int) (k % (((n :: r).map D.int).length : Int)) = some (.int ((n :: r).getD (k % ((n :: r).length : Int)).toNat 0)) := by
      rw [List.length_map, atI_map D.int h0 h1]
      rw [List.getD_eq_getElem?_getD, List.getElem?_eq_getElem (by omega)]
      rfl
    simp only [cell, if_neg (List.cons_ne_nil n r)] at q
    have hs : ((n :: r).length : Int) ≤ 63 := by omega
    simp! only [t_law_cell, List.length_map] at e q hs hp ⊢
    exact ⟨he, hp, _, e, ⟨hp, by omega⟩, .inl ⟨by decide, by decide⟩, _, rfl, q⟩
def t_law_drawn : TSd := dSeq (dSet 3 ((dOp (rIC (fun _ j => 0 < j) fun i j => .int (i % j)) ((dOp (rF addF) ((dOp (rIC CMul fun i j => .int (i * j)) ((dOp (rIC (fun _ j => 0 < j) fun i j => .int (i % j)) ((dCall S_law_cell ((dCons ((dVar 0)) ((dCons ((dVar 1)) (dNil))))))) (dC (.int 2147483563)))) (dC (.int 69069)))) ((dOp (rIC CMul fun i j => .int (i * j)) (dC (.int 104723)) ((dOp (rF addF) ((dVar 1)) (dC (.int 1)))))))) (dC (.int 2147483563))))) (dSeq (dSet 3 ((dOp (rIC (fun _ j => 0 < j) fun i j => .int (i % j)) ((dOp (rF addF) ((dOp (rIC CMul fun i j => .int (i * j)) ((dVar 3)) ((dVar 3)))) ((dOp (rIC CDiv fun i j => .int (i / j)) ((dVar 3)) (dC (.int 3)))))) (dC (.int 2147483399))))) (dRet ((dOp (rIC (fun _ j => 0 < j) fun i j => .int (i % j)) ((dOp (rIC CDiv fun i j => .int (i / j)) ((dOp (rIC (fun _ j => 0 < j) fun i j => .int (i % j)) ((dOp (rF addF) ((dOp (rIC CMul fun i j => .int (i * j)) ((dVar 3)) ((dVar 3)))) ((dOp (rIC CDiv fun i j => .int (i / j)) ((dVar 3)) (dC (.int 7)))))) (dC (.int 2147483647)))) (dC (.int 11)))) ((dVar 2))))))
theorem mod_in {i m : Int} (h0 : 0 < m) (h1 : m < 2 ^ 64) : -(2 ^ 64) < i % m ∧ i % m < 2 ^ 64 := by
  have a := Int.emod_nonneg i (show m ≠ 0 by omega)
  have b := Int.emod_lt_of_pos i h0
  omega
theorem r_law_drawn : ∀ ds Q, S_law_drawn ds Q → t_law_drawn { nx := fun _ => Q .non, rt := fun d _ => Q d } (startD ["_law_script", "_law_k", "_law_many", "_law_cell_here"] ds) := by
  rintro ds Q ⟨ns, k, m, rfl, hl, hk, hm, q⟩
  simp! only [t_law_drawn]
  refine ⟨ns, k, rfl, hl, hk, by decide, .inl (mod_in (by decide) (by decide)), .inl ⟨by decide, by decide⟩, by decide, .inl (mod_in (by decide) (by decide)), ⟨by decide, by decide⟩, by decide,
    .inl (mod_in (by decide) (by decide)), ⟨by decide, by decide⟩, by decide, ⟨by decide, by decide⟩, hm, ?_⟩
  exact q
def S_law : SpD := fun ds Q => ∃ ns : List Int, ds = [scr ns] ∧ ns.length ≤ 63 ∧ Q (.bl true)
theorem l_law : ∀ ds Q, S_law ds Q → ds.length = 1 := by rintro ds Q ⟨_, rfl, _⟩; rfl
theorem use_drawn {ns : List Int} {k m : Int} {Q : D → Prop} (hl : ns.length ≤ 63) (hk : 0 ≤ k) (hm : 0 < m) (q : ∀ x, 0 ≤ x → x < m → Q (.int x)) : S_law_drawn [scr ns, .int k, .int m] Q :=
  ⟨ns, k, m, rfl, hl, hk, hm, q _ (drawn_lo hm) (drawn_hi hm)⟩
theorem rangeL_get {lo : Int} {n i : Nat} {d : D} (h : (rangeL lo n)[i]? = some d) : d = .int (lo + i) ∧ i < n := by
  unfold rangeL at h
  rw [List.getElem?_map] at h
  cases q : (List.range n)[i]? with
  | none => rw [q] at h; cases h
  | some j =>
    rw [q] at h
    have hj := List.getElem?_eq_some_iff.mp q
    obtain ⟨h1, h2⟩ := hj
    rw [List.length_range] at h1
    rw [List.getElem_range] at h2
    subst h2
    exact ⟨(Option.some.inj h).symm, h1⟩
theorem atI_mem {l : List D} {z : Int} (h0 : 0 ≤ z) (h1 : z < l.length) : ∃ d, atI l z = some d ∧ d ∈ l := by
  have e : z = ((z.toNat : Nat) : Int) := by omega
  have hl : z.toNat < l.length := by omega
  refine ⟨l[z.toNat], ?_, List.getElem_mem hl⟩
  have q : atI l ((z.toNat : Nat) : Int) = some l[z.toNat] := atI_nat (by rw [List.getElem?_eq_getElem hl])
  rw [← e] at q
  exact q
theorem okT {d e : D} (h : (d.ok && e.ok && Nat.ble (min d.dep e.dep) 60) = true) : okEq d e := by
  rw [Bool.and_eq_true, Bool.and_eq_true] at h
  exact ⟨h.1.1, h.1.2, Nat.le_of_ble_eq_true h.2⟩
def oi : Option Int → D
  | none => .non
  | some s => .int s
theorem oi_none : oi none = .non := rfl
theorem oi_some {s : Int} : oi (some s) = .int s := rfl
end Law

namespace Law
open PySem L2 Dl
/-! ### watches and timers -/
abbrev tm (size left : Int) (o : Option Int) : D := .tup [.str "timer", .int size, .int left, oi o]
abbrev wt (before : Int) (o : Option Int) (laps : D) : D := .tup [.int before, oi o, laps]
def okAt (o : Option Int) (now : Int) : Prop := ∀ s, o = some s → s ≤ now
def leftAt (left : Int) (o : Option Int) (now : Int) : Int := match o with
  | none => left
  | some s => max 0 (left - (now - s))
def shownAt (b : Int) (o : Option Int) (now : Int) : Int := match o with
  | none => b
  | some s => b + now - s
def nextT (left : Int) (o : Option Int) (now : Int) : Option Int := match o with
  | none => none
  | some s => if s + left ≤ now then none else some (s + left)
def whenAt (b : Int) (o : Option Int) (size : Int) : Option Int := match o with
  | none => none
  | some s => if size < b then none else some (s + size - b)
theorem okAt_none {t : Int} : okAt none t := fun s e => nomatch e
theorem okAt_some {s t : Int} (h : s ≤ t) : okAt (some s) t := fun s' e => by cases e; exact h
theorem okAt.mono {o : Option Int} {s t : Int} (h : okAt o s) (k : s ≤ t) : okAt o t := fun s' e => Int.le_trans (h s' e) k
def S_timer : SpD := fun ds Q => ∃ size, ds = [.int size] ∧ Q (tm size size none)
def S_fresh : SpD := fun ds Q => ds = [] ∧ Q (wt 0 none (.tup []))
def S_refuse_early : SpD := fun ds Q => ∃ o now, ds = [oi o, .int now] ∧ okAt o now ∧ Q .non
def S_left_at : SpD := fun ds Q => ∃ size left o now, ds = [tm size left o, .int now] ∧ okAt o now ∧ Q (.int (leftAt left o now))
def S_begun : SpD := fun ds Q => ∃ size left o now, ds = [tm size left o, .int now] ∧ okAt o now ∧ Q (tm size left (some (o.getD now)))
def S_stopped : SpD := fun ds Q => ∃ size left o now, ds = [tm size left o, .int now] ∧ okAt o now ∧ Q (tm size (leftAt left o now) none)
def S_now_if_running : SpD := fun ds Q => ∃ size left o now, ds = [tm size left o, .int now] ∧ Q (oi (o.map fun _ => now))
def S_anew : SpD := fun ds Q => ∃ size left o now, ds = [tm size left o, .int now] ∧ okAt o now ∧ Q (tm size size (o.map fun _ => now))
def S_longer : SpD := fun ds Q => ∃ size left o more now, ds = [tm size left o, .int more, .int now] ∧ okAt o now ∧ Q (tm size (max 0 (leftAt left o now + more)) (o.map fun _ => now))
def S_next_of_timer : SpD := fun ds Q => ∃ size left o now, ds = [tm size left o, .int now] ∧ Q (oi (nextT left o now))
def S_shown : SpD := fun ds Q => ∃ b o l now, ds = [wt b o l, .int now] ∧ okAt o now ∧ Q (.int (shownAt b o now))
def S_started : SpD := fun ds Q => ∃ b o l now, ds = [wt b o l, .int now] ∧ okAt o now ∧ Q (wt b (some (o.getD now)) l)
def S_halted : SpD := fun ds Q => ∃ b o l now, ds = [wt b o l, .int now] ∧ okAt o now ∧ Q (wt (shownAt b o now) none l)
def S_cleared : SpD := fun ds Q => ∃ b o l now, ds = [wt b o l, .int now] ∧ okAt o now ∧ Q (wt 0 (o.map fun _ => now) (.tup []))
def S_when_shown : SpD := fun ds Q => ∃ b o l size, ds = [wt b o l, .int size] ∧ Q (oi (whenAt b o size))
theorem l_timer : ∀ ds Q, S_timer ds Q → ds.length = 1 := by rintro ds Q ⟨_, rfl, _⟩; rfl
theorem l_fresh : ∀ ds Q, S_fresh ds Q → ds.length = 0 := by rintro ds Q ⟨rfl, _⟩; rfl
theorem l_refuse_early : ∀ ds Q, S_refuse_early ds Q → ds.length = 2 := by rintro ds Q ⟨_, _, rfl, _⟩; rfl
theorem l_left_at : ∀ ds Q, S_left_at ds Q → ds.length = 2 := by rintro ds Q ⟨_, _, _, _, rfl, _⟩; rfl
theorem l_begun : ∀ ds Q, S_begun ds Q → ds.length = 2 := by rintro ds Q ⟨_, _, _, _, rfl, _⟩; rfl
theorem l_stopped : ∀ ds Q, S_stopped ds Q → ds.length = 2 := by rintro ds Q ⟨_, _, _, _, rfl, _⟩; rfl
theorem l_now_if_running : ∀ ds Q, S_now_if_running ds Q → ds.length = 2 := by rintro ds Q ⟨_, _, _, _, rfl, _⟩; rfl
theorem l_anew : ∀ ds Q, S_anew ds Q → ds.length = 2 := by rintro ds Q ⟨_, _, _, _, rfl, _⟩; rfl
theorem l_longer : ∀ ds Q, S_longer ds Q → ds.length = 3 := by rintro ds Q ⟨_, _, _, _, _, rfl, _⟩; rfl
theorem l_next_of_timer : ∀ ds Q, S_next_of_timer ds Q → ds.length = 2 := by rintro ds Q ⟨_, _, _, _, rfl, _⟩; rfl
theorem l_shown : ∀ ds Q, S_shown ds Q → ds.length = 2 := by rintro ds Q ⟨_, _, _, _, rfl, _⟩; rfl
theorem l_started : ∀ ds Q, S_started ds Q → ds.length = 2 := by rintro ds Q ⟨_, _, _, _, rfl, _⟩; rfl
theorem l_halted : ∀ ds Q, S_halted ds Q → ds.length = 2 := by rintro ds Q ⟨_, _, _, _, rfl, _⟩; rfl
theorem l_cleared : ∀ ds Q, S_cleared ds Q → ds.length = 2 := by rintro ds Q ⟨_, _, _, _, rfl, _⟩; rfl
theorem l_when_shown : ∀ ds Q, S_when_shown ds Q → ds.length = 2 := by rintro ds Q ⟨_, _, _, _, rfl, _⟩; rfl
def t_fresh : TSd := dRet ((dTup ((dCons (dC (.int 0)) ((dCons (dC .non) ((dCons ((dTup (dNil))) (dNil)))))))))
theorem r_fresh : ∀ ds Q, S_fresh ds Q → t_fresh { nx := fun _ => Q .non, rt := fun d _ => Q d } (startD [] ds) := by
  rintro ds Q ⟨rfl, q⟩
  simp! only [t_fresh]
  exact q
def t_refuse_early : TSd := dIfS (dAnd (dB (dOp rNotN ((dVar 0)) (dC .non))) (dB (dOp (rII fun i j => .bl (decide (i < j))) ((dVar 1)) ((dVar 0))))) (dNever) (dNext)
theorem r_refuse_early : ∀ ds Q, S_refuse_early ds Q → t_refuse_early { nx := fun _ => Q .non, rt := fun d _ => Q d } (startD ["earlier", "now"] ds) := by
  rintro ds Q ⟨o, now, rfl, h, q⟩
  cases o with
  | none => simp! only [t_refuse_early, oi_none, oi_some]; exact q
  | some s =>
    have := h s rfl
    simp! only [t_refuse_early, oi_none, oi_some]
    rw [if_neg (by simpa using this)]
    exact q
def t_shown : TSd := dSeq (dDrop ((dCall S_refuse_early ((dCons ((dOp (rF ixF) ((dVar 0)) (dC (.int 1)))) ((dCons ((dVar 1)) (dNil)))))))) (dSeq (dIfS (dB (dOp rIsN ((dOp (rF ixF) ((dVar 0)) (dC (.int 1)))) (dC .non))) (dRet ((dOp (rF ixF) ((dVar 0)) (dC (.int 0))))) (dNext)) (dRet ((dOp (rII fun i j => .int (i - j)) ((dOp (rF addF) ((dOp (rF ixF) ((dVar 0)) (dC (.int 0)))) ((dVar 1)))) ((dOp (rF ixF) ((dVar 0)) (dC (.int 1))))))))
theorem r_shown : ∀ ds Q, S_shown ds Q → t_shown { nx := fun _ => Q .non, rt := fun d _ => Q d } (startD ["watch", "now"] ds) := by
  rintro ds Q ⟨b, o, l, now, rfl, h, q⟩
  simp! only [t_shown]
  refine ⟨o, now, rfl, h, ?_⟩
  cases o with
  | none => simp! only [shownAt, oi_none, oi_some] at q ⊢; exact q
  | some s => simp! only [shownAt, oi_none, oi_some] at q ⊢; exact q
def t_started : TSd := dSeq (dDrop ((dCall S_refuse_early ((dCons ((dOp (rF ixF) ((dVar 0)) (dC (.int 1)))) ((dCons ((dVar 1)) (dNil)))))))) (dSeq (dIfS (dB (dOp rNotN ((dOp (rF ixF) ((dVar 0)) (dC (.int 1)))) (dC .non))) (dRet ((dVar 0))) (dNext)) (dRet ((dTup ((dCons ((dOp (rF ixF) ((dVar 0)) (dC (.int 0)))) ((dCons ((dVar 1)) ((dCons ((dOp (rF ixF) ((dVar 0)) (dC (.int 2)))) (dNil)))))))))))
theorem r_started : ∀ ds Q, S_started ds Q → t_started { nx := fun _ => Q .non, rt := fun d _ => Q d } (startD ["watch", "now"] ds) := by
  rintro ds Q ⟨b, o, l, now, rfl, h, q⟩
  simp! only [t_started]
  refine ⟨o, now, rfl, h, ?_⟩
  cases o with
  | none => simp! only [oi_none, oi_some] at q ⊢; exact q
  | some s => simp! only [oi_none, oi_some] at q ⊢; exact q
def t_halted : TSd := dRet ((dTup ((dCons ((dCall S_shown ((dCons ((dVar 0)) ((dCons ((dVar 1)) (dNil))))))) ((dCons (dC .non) ((dCons ((dOp (rF ixF) ((dVar 0)) (dC (.int 2)))) (dNil)))))))))
theorem r_halted : ∀ ds Q, S_halted ds Q → t_halted { nx := fun _ => Q .non, rt := fun d _ => Q d } (startD ["watch", "now"] ds) := by
  rintro ds Q ⟨b, o, l, now, rfl, h, q⟩
  simp! only [t_halted]
  exact ⟨b, o, l, now, rfl, h, q⟩
def t_cleared : TSd := dSeq (dDrop ((dCall S_refuse_early ((dCons ((dOp (rF ixF) ((dVar 0)) (dC (.int 1)))) ((dCons ((dVar 1)) (dNil)))))))) (dRet ((dTup ((dCons (dC (.int 0)) ((dCons ((dIf (dB (dOp rIsN ((dOp (rF ixF) ((dVar 0)) (dC (.int 1)))) (dC .non))) (dC .non) ((dVar 1)))) ((dCons ((dTup (dNil))) (dNil))))))))))
theorem r_cleared : ∀ ds Q, S_cleared ds Q → t_cleared { nx := fun _ => Q .non, rt := fun d _ => Q d } (startD ["watch", "now"] ds) := by
  rintro ds Q ⟨b, o, l, now, rfl, h, q⟩
  simp! only [t_cleared]
  refine ⟨o, now, rfl, h, ?_⟩
  cases o with
  | none => simp! only [oi_none, oi_some] at q ⊢; exact q
  | some s => simp! only [oi_none, oi_some] at q ⊢; exact q
def t_when_shown : TSd := dSeq (dIfS (dOr (dB (dOp rIsN ((dOp (rF ixF) ((dVar 0)) (dC (.int 1)))) (dC .non))) (dB (dOp (rII fun i j => .bl (decide (i < j))) ((dVar 1)) ((dOp (rF ixF) ((dVar 0)) (dC (.int 0))))))) (dRet (dC .non)) (dNext)) (dRet ((dOp (rII fun i j => .int (i - j)) ((dOp (rF addF) ((dOp (rF ixF) ((dVar 0)) (dC (.int 1)))) ((dVar 1)))) ((dOp (rF ixF) ((dVar 0)) (dC (.int 0)))))))
theorem r_when_shown : ∀ ds Q, S_when_shown ds Q → t_when_shown { nx := fun _ => Q .non, rt := fun d _ => Q d } (startD ["watch", "size"] ds) := by
  rintro ds Q ⟨b, o, l, size, rfl, q⟩
  cases o with
  | none => simp! only [t_when_shown, oi_none, oi_some]; exact q
  | some s =>
    simp! only [t_when_shown, whenAt, oi_none, oi_some] at q ⊢
    split
    · rename_i h; rw [if_pos h] at q; exact q
    · rename_i h; rw [if_neg h] at q; exact q
end Law

namespace Law
open PySem L2 Dl
/-! ### lists of iL as data -/
theorem dComp_by (items : List D) (δ1 : Ev) (F : D → Option D) {k : Nat} {ti : TId} {g : TGd} {tt : TTd} {te : TEd} {δ : Ev} {Q : D → Ev → Prop} (h0 : ∀ Q : List D → Ev → Prop, Q items δ1 → ti δ Q)
    (hF : ∀ d ∈ items, g d (dropOw δ1 ++ List.replicate k .no) fun δ2 => tt δ2 fun b δ3 => if b = true then te δ3 fun y _ => F d = some y else F d = none)
    (hl : (items.filterMap F).length ≤ sizeLine) (q : Q (.lst (items.filterMap F)) δ1) : dComp k ti g tt te δ Q := h0 _ ⟨F, hF, hl, q⟩
theorem dComp_at (items : List D) (F : D → Option D) {k : Nat} {ti : TId} {g : TGd} {tt : TTd} {te : TEd} {δ : Ev} {Q : D → Ev → Prop} (h0 : ∀ Q : List D → Ev → Prop, Q items δ → ti δ Q)
    (hF : ∀ d ∈ items, g d (dropOw δ ++ List.replicate k .no) fun δ2 => tt δ2 fun b δ3 => if b = true then te δ3 fun y _ => F d = some y else F d = none)
    (hl : (items.filterMap F).length ≤ sizeLine) (q : Q (.lst (items.filterMap F)) δ) : dComp k ti g tt te δ Q := h0 _ ⟨F, hF, hl, q⟩
theorem dSeqM_here {t u : TSd} {E : EndsD} {δ : Ev} (h1 : t { E with nx := fun δ' => δ' = δ } δ) (h2 : u E δ) : dSeqM t u E δ := ⟨fun δ' => δ' = δ, h1, fun δ' e => by subst e; exact h2⟩
theorem fm_map {α β : Type} {g : α → Option β} {h : α → β} : ∀ {l : List α}, (∀ a ∈ l, g a = some (h a)) → l.filterMap g = l.map h
  | [], _ => rfl
  | x :: l, H => by rw [List.filterMap_cons_some (H x List.mem_cons_self), fm_map fun a ha => H a (List.mem_cons_of_mem _ ha)]; rfl
theorem eqDL_ints : ∀ {l m : List Int}, eqDL (l.map D.int) (m.map D.int) = decide (l = m)
  | [], [] => rfl
  | [], _ :: _ => rfl
  | _ :: _, [] => rfl
  | x :: l, y :: m => by
    show (x == y && eqDL (l.map D.int) (m.map D.int)) = _
    rw [eqDL_ints]
    by_cases h : x = y
    · subst h; simp
    · have : (x == y) = false := by simpa using h
      simp [this, h]
theorem eqD_lstI {l m : List Int} : eqD (.lst (l.map D.int)) (.lst (m.map D.int)) = decide (l = m) := eqDL_ints
theorem eqD_tupI {l m : List Int} : eqD (.tup (l.map D.int)) (.tup (m.map D.int)) = decide (l = m) := eqDL_ints
theorem ok_lstI {l m : List Int} : okEq (.lst (l.map D.int)) (.lst (m.map D.int)) := ⟨okL_ints l, okL_ints m, by show min (D.depL _ + 1) (D.depL _ + 1) ≤ 60; rw [depL_ints, depL_ints]; decide⟩
theorem ok_tupI {l m : List Int} : okEq (.tup (l.map D.int)) (.tup (m.map D.int)) := ⟨okL_ints l, okL_ints m, by show min (D.depL _ + 1) (D.depL _ + 1) ≤ 60; rw [depL_ints, depL_ints]; decide⟩
theorem flat_rep {α : Type} (x : α) : ∀ n : Nat, (List.replicate n [x]).flatten = List.replicate n x
  | 0 => rfl
  | n + 1 => by rw [List.replicate_succ, List.flatten_cons, flat_rep x n]; rfl
theorem rep_ints (x : Int) (n : Nat) : List.replicate n (D.int x) = (List.replicate n x).map D.int := by rw [List.map_replicate]
/-- two lists walked together, a function of both -/
def zipF (g : Int → Int → D) : D → Option D
  | .tup [.int x, .int y] => some (g x y)
  | _ => none
theorem zipF_ints {g : Int → Int → D} : ∀ {l m : List Int}, (List.zipWith (fun x y => D.tup [x, y]) (l.map D.int) (m.map D.int)).filterMap (zipF g) = List.zipWith g l m
  | [], _ => by simp
  | _ :: _, [] => by simp
  | x :: l, y :: m => by
    show (D.tup [.int x, .int y] :: List.zipWith (fun x y => D.tup [x, y]) (l.map D.int) (m.map D.int)).filterMap (zipF g) = _
    rw [List.filterMap_cons_some (show zipF g (.tup [.int x, .int y]) = some (g x y) from rfl), zipF_ints]; rfl
theorem mem_zip {l m : List Int} {d : D} (h : d ∈ List.zipWith (fun x y => D.tup [x, y]) (l.map D.int) (m.map D.int)) : ∃ x y, d = .tup [.int x, .int y] ∧ x ∈ l ∧ y ∈ m := by
  induction l generalizing m with
  | nil => simp at h
  | cons x l ih =>
    cases m with
    | nil => simp at h
    | cons y m =>
      rcases List.mem_cons.mp h with rfl | h
      · exact ⟨x, y, rfl, List.mem_cons_self, List.mem_cons_self⟩
      · obtain ⟨a, b, e, h1, h2⟩ := ih h
        exact ⟨a, b, e, List.mem_cons_of_mem _ h1, List.mem_cons_of_mem _ h2⟩
theorem cut_1 {l : List D} (h : 1 ≤ l.length) : cutD l (some 1) none = l.drop 1 := by
  unfold cutD HT.sIx
  simp only
  rw [if_neg (by omega), show min (1 : Int).toNat l.length = 1 by have : (1 : Int).toNat = 1 := rfl; omega]
  rw [List.take_of_length_le]
  rw [List.length_drop]
  omega
theorem cut_take {l : List D} {m : Int} (h : 0 ≤ m) : cutD l none (some m) = l.take m.toNat := by
  unfold cutD HT.sIx
  simp only [List.drop_zero, Nat.sub_zero]
  rw [if_neg (by omega)]
  by_cases z : m.toNat ≤ l.length
  · rw [Nat.min_eq_left z]
  · rw [Nat.min_eq_right (by omega), List.take_of_length_le (Nat.le_refl _), List.take_of_length_le (by omega)]
theorem cut_drop {l : List D} {m : Int} (h : 0 ≤ m) : cutD l (some m) none = l.drop m.toNat := by
  unfold cutD HT.sIx
  simp only
  rw [if_neg (by omega)]
  by_cases z : m.toNat ≤ l.length
  · rw [Nat.min_eq_left z, List.take_of_length_le (by rw [List.length_drop]; omega)]
  · rw [Nat.min_eq_right (by omega), List.drop_of_length_le (Nat.le_refl _), List.drop_of_length_le (i := m.toNat) (by omega), List.take_nil]
theorem nodup_le {α : Type} [DecidableEq α] : ∀ {l m : List α}, l.Nodup → (∀ x ∈ l, x ∈ m) → l.length ≤ m.length
  | [], _, _, _ => Nat.zero_le _
  | x :: l, m, h, hs => by
    have h' := List.nodup_cons.mp h
    have := nodup_le (l := l) (m := m.erase x) h'.2 fun y hy => (List.mem_erase_of_ne (fun z => by subst z; exact h'.1 hy)).mpr (hs y (List.mem_cons_of_mem _ hy))
    rw [List.length_erase_of_mem (hs x List.mem_cons_self)] at this
    have : 0 < m.length := List.length_pos_of_mem (hs x List.mem_cons_self)
    rw [List.length_cons]
    omega
theorem atI_last {α : Type} {l : List α} {x : α} (h : l[l.length - 1]? = some x) : atI l (-1) = some x := by
  have hl : l.length - 1 < l.length := (List.getElem?_eq_some_iff.mp h).1
  unfold atI ixN
  rw [if_neg (by decide), if_pos (by omega), show (-1 + (l.length : Int)).toNat = l.length - 1 by omega]
  exact h
end Law

namespace Law
open PySem L2 Dl
/-! ### sizes, laps, watches -/
def isSz : D → Bool
  | .int i => decide (0 ≤ i)
  | _ => false
def areSz : D → Bool
  | .tup l => l.all isSz
  | _ => false
def intOf : D → Int
  | .int i => i
  | _ => 0
def itemsOf : D → List Int
  | .tup l => l.map intOf
  | _ => []
def chainLe (l : List Int) : Bool := (List.zipWith (fun x y => decide (x ≤ y)) l (l.drop 1)).all id
def diffs (l : List Int) : List Int := List.zipWith (fun x y => x - y) l (0 :: l)
theorem sizes_ints : ∀ {l : List D}, l.all isSz = true → l = (l.map intOf).map D.int
  | [], _ => rfl
  | d :: l, h => by
    rw [List.all_cons, Bool.and_eq_true] at h
    cases d with
    | int i => rw [List.map_cons, List.map_cons, ← sizes_ints h.2]; rfl
    | _ => cases h.1
def S_is_size : SpD := fun ds Q => ∃ d, ds = [d] ∧ Q (.bl (isSz d))
def S_is_size_or_none : SpD := fun ds Q => ∃ d, ds = [d] ∧ Q (.bl (isNonD d || isSz d))
def S_are_sizes : SpD := fun ds Q => ∃ d, ds = [d] ∧ (∀ l, d = .tup l → l.length ≤ 100000) ∧ Q (.bl (areSz d))
def S_never_fall : SpD := fun ds Q => ∃ d, ds = [d] ∧ (∀ l, d = .tup l → l.length ≤ 100000) ∧ Q (.bl (areSz d && chainLe (itemsOf d)))
def S_lapped : SpD := fun ds Q => ∃ b o l now, ds = [wt b o (.tup l), .int now] ∧ okAt o now ∧ l.length ≤ 100000 ∧ Q (wt b o (.tup (l ++ [.int (shownAt b o now)])))
def S_lap_sizes : SpD := fun ds Q => ∃ b o l, ds = [wt b o (.tup (l.map D.int))] ∧ l.length ≤ 100000 ∧ Q (.lst ((diffs l).map D.int))
theorem l_is_size : ∀ ds Q, S_is_size ds Q → ds.length = 1 := by rintro ds Q ⟨_, rfl, _⟩; rfl
theorem l_is_size_or_none : ∀ ds Q, S_is_size_or_none ds Q → ds.length = 1 := by rintro ds Q ⟨_, rfl, _⟩; rfl
theorem l_are_sizes : ∀ ds Q, S_are_sizes ds Q → ds.length = 1 := by rintro ds Q ⟨_, rfl, _⟩; rfl
theorem l_never_fall : ∀ ds Q, S_never_fall ds Q → ds.length = 1 := by rintro ds Q ⟨_, rfl, _⟩; rfl
theorem l_lapped : ∀ ds Q, S_lapped ds Q → ds.length = 2 := by rintro ds Q ⟨_, _, _, _, rfl, _⟩; rfl
theorem l_lap_sizes : ∀ ds Q, S_lap_sizes ds Q → ds.length = 1 := by rintro ds Q ⟨_, _, _, rfl, _⟩; rfl
def t_lapped : TSd := dRet ((dTup ((dCons ((dOp (rF ixF) ((dVar 0)) (dC (.int 0)))) ((dCons ((dOp (rF ixF) ((dVar 0)) (dC (.int 1)))) ((dCons ((dOp (rF addF) ((dOp (rF ixF) ((dVar 0)) (dC (.int 2)))) ((dTup ((dCons ((dCall S_shown ((dCons ((dVar 0)) ((dCons ((dVar 1)) (dNil))))))) (dNil))))))) (dNil)))))))))
theorem r_lapped : ∀ ds Q, S_lapped ds Q → t_lapped { nx := fun _ => Q .non, rt := fun d _ => Q d } (startD ["watch", "now"] ds) := by
  rintro ds Q ⟨b, o, l, now, rfl, ho, hl, q⟩
  simp! only [t_lapped]
  refine ⟨b, o, _, now, rfl, ho, ?_⟩
  exact ⟨_, if_pos (by show l.length + 1 ≤ sizeLine; exact Nat.le_trans (show _ ≤ 100001 by omega) (by decide)), q⟩
def t_lap_sizes : TSd := dSeq (dSet 1 ((dOp (rF ixF) ((dVar 0)) (dC (.int 2))))) (dRet ((dComp 2 (diZip ((dCons ((dVar 1)) ((dCons ((dOp (rF addF) ((dTup ((dCons (dC (.int 0)) (dNil))))) ((dVar 1)))) (dNil)))))) (gdTup2 2 3) (dYes) ((dOp (rII fun i j => .int (i - j)) ((dVar 2)) ((dVar 3)))))))
theorem r_lap_sizes : ∀ ds Q, S_lap_sizes ds Q → t_lap_sizes { nx := fun _ => Q .non, rt := fun d _ => Q d } (startD ["watch", "laps"] ds) := by
  rintro ds Q ⟨b, o, l, rfl, hl, q⟩
  simp! only [t_lap_sizes]
  refine dComp_at (List.zipWith (fun x y => D.tup [x, y]) (l.map D.int) ((0 :: l).map D.int)) (zipF fun x y => .int (x - y)) (fun Q h => ?_) (fun d hd => ?_) ?_ ?_
  · simp! only [Dl.dSeq]
    refine ⟨_, if_pos (by rw [List.length_map]; exact Nat.le_trans (show _ ≤ 100001 by omega) (by decide)), ?_⟩
    exact ⟨_, _, rfl, rfl, h⟩
  · obtain ⟨x', y', rfl, _, _⟩ := mem_zip hd
    simp! only [Dl.dSeq]
    rfl
  · refine Nat.le_trans (List.length_filterMap_le ..) ?_
    rw [List.length_zipWith, List.length_map]
    exact Nat.le_trans (Nat.min_le_left ..) (Nat.le_trans hl (by decide))
  rw [zipF_ints]
  have e : List.zipWith (fun x y => D.int (x - y)) l (0 :: l) = (diffs l).map D.int := by unfold diffs; rw [List.map_zipWith]
  rw [e]
  exact q
--E
end Law

namespace Law
open PySem L2 Dl
/-! ### deeds of a watch -/
inductive Wd where
  | start | halt | lap | clear
def wdS : Wd → Str
  | .start => "start"
  | .halt => "halt"
  | .lap => "lap"
  | .clear => "clear"
structure Ws where
  b : Int
  o : Option Int
  laps : List Int
def wstep (w : Ws) (m : Int) : Wd → Ws
  | .start => ⟨w.b, some (w.o.getD m), w.laps⟩
  | .halt => ⟨shownAt w.b w.o m, none, w.laps⟩
  | .lap => ⟨w.b, w.o, w.laps ++ [shownAt w.b w.o m]⟩
  | .clear => ⟨0, w.o.map fun _ => m, []⟩
abbrev dd (x : Int × Wd) : D := .tup [.int x.1, .str (wdS x.2)]
def wrun (w : Ws) (l : List (Int × Wd)) : Ws := l.foldl (fun w x => wstep w x.1 x.2) w
theorem wrun_snoc {w : Ws} {l : List (Int × Wd)} {x : Int × Wd} : wrun w (l ++ [x]) = wstep (wrun w l) x.1 x.2 := by unfold wrun; rw [List.foldl_append]; rfl
/-- what holds of a watch at a moment -/
structure WOk (w : Ws) (m : Int) : Prop where
  b0 : 0 ≤ w.b
  o0 : ∀ s, w.o = some s → 0 ≤ s ∧ s ≤ m
  up : w.laps.Pairwise (· ≤ ·)
  nn : ∀ x ∈ w.laps, 0 ≤ x
  le : ∀ x ∈ w.laps, x ≤ shownAt w.b w.o m
theorem shownAt_mono {b : Int} {o : Option Int} {m m' : Int} (h : m ≤ m') : shownAt b o m ≤ shownAt b o m' := by
  cases o <;> simp only [shownAt] <;> omega
theorem WOk.later {w : Ws} {m m' : Int} (h : WOk w m) (hm : m ≤ m') : WOk w m' :=
  ⟨h.b0, fun s e => by have := h.o0 s e; omega, h.up, h.nn, fun x hx => Int.le_trans (h.le x hx) (shownAt_mono hm)⟩
theorem WOk.okAt {w : Ws} {m : Int} (h : WOk w m) : okAt w.o m := fun s e => (h.o0 s e).2
theorem WOk.shown {w : Ws} {m : Int} (h : WOk w m) : 0 ≤ shownAt w.b w.o m := by
  have := h.b0
  cases q : w.o with
  | none => simp only [shownAt]; omega
  | some s => have := h.o0 s q; simp only [shownAt]; omega
theorem WOk.step {w : Ws} {m : Int} (h : WOk w m) (hm : 0 ≤ m) (x : Wd) : WOk (wstep w m x) m := by
  have hs := h.shown
  cases x with
  | start =>
    cases q : w.o with
    | none =>
      refine ⟨h.b0, fun s e => ?_, h.up, h.nn, fun y hy => ?_⟩
      · simp only [wstep, q, Option.getD_none, Option.some.injEq] at e; omega
      · have := h.le y hy; simp only [wstep, q, Option.getD_none, shownAt] at this ⊢; omega
    | some s =>
      have := h.o0 s q
      refine ⟨h.b0, fun s' e => ?_, h.up, h.nn, fun y hy => ?_⟩
      · simp only [wstep, q, Option.getD_some, Option.some.injEq] at e; omega
      · have := h.le y hy; simp only [wstep, q, Option.getD_some, shownAt] at this ⊢; omega
  | halt => exact ⟨hs, fun s e => (nomatch e), h.up, h.nn, fun y hy => h.le y hy⟩
  | lap =>
    refine ⟨h.b0, h.o0, List.pairwise_append.mpr ⟨h.up, List.pairwise_singleton .., fun a ha b hb => ?_⟩, fun y hy => ?_, fun y hy => ?_⟩
    · rw [List.mem_singleton.mp hb]; exact h.le a ha
    · rcases List.mem_append.mp hy with z | z
      · exact h.nn y z
      · rw [List.mem_singleton.mp z]; exact hs
    · rcases List.mem_append.mp hy with z | z
      · exact h.le y z
      · rw [List.mem_singleton.mp z]; exact Int.le_refl _
  | clear =>
    refine ⟨Int.le_refl _, fun s e => ?_, .nil, fun y hy => absurd hy (by simp [wstep]), fun y hy => absurd hy (by simp [wstep])⟩
    simp only [wstep, Option.map_eq_some_iff] at e
    obtain ⟨_, _, e⟩ := e
    omega
theorem w_fresh {m : Int} : WOk ⟨0, none, []⟩ m := ⟨Int.le_refl _, fun s e => (nomatch e), .nil, fun x hx => absurd hx (by simp), fun x hx => absurd hx (by simp)⟩
/-- deeds in their order, up to m -/
def Deeds : List (Int × Wd) → Int → Prop
  | [], _ => True
  | l, m => l.Pairwise (fun x y => x.1 ≤ y.1) ∧ (∀ x ∈ l, 0 ≤ x.1 ∧ x.1 ≤ m)
structure DOk (l : List (Int × Wd)) (m : Int) : Prop where
  up : l.Pairwise (fun x y => x.1 ≤ y.1)
  le : ∀ x ∈ l, 0 ≤ x.1 ∧ x.1 ≤ m
theorem DOk.snoc {l : List (Int × Wd)} {m m' : Int} {x : Wd} (h : DOk l m) (hm : m ≤ m') (h0 : 0 ≤ m') : DOk (l ++ [(m', x)]) m' := by
  refine ⟨List.pairwise_append.mpr ⟨h.up, List.pairwise_singleton .., fun a ha b hb => ?_⟩, fun y hy => ?_⟩
  · rw [List.mem_singleton.mp hb]; have := h.le a ha; show a.1 ≤ m'; omega
  · rcases List.mem_append.mp hy with z | z
    · have := h.le y z; omega
    · rw [List.mem_singleton.mp z]; exact ⟨h0, Int.le_refl _⟩
theorem wrun_ok {l : List (Int × Wd)} {m : Int} (h : DOk l m) : WOk (wrun ⟨0, none, []⟩ l) m := by
  have key : ∀ (l : List (Int × Wd)) (w : Ws) (a m : Int), WOk w a → l.Pairwise (fun x y => x.1 ≤ y.1) → (∀ x ∈ l, a ≤ x.1 ∧ 0 ≤ x.1 ∧ x.1 ≤ m) → a ≤ m → WOk (wrun w l) m := by
    intro l
    induction l with
    | nil => intro w a m hw _ _ ham; exact hw.later ham
    | cons x l ih =>
      intro w a m hw hp hx ham
      have hp' := List.pairwise_cons.mp hp
      have hx0 := hx x List.mem_cons_self
      exact ih _ x.1 m ((hw.later hx0.1).step hx0.2.1 x.2) hp'.2 (fun y hy => ⟨hp'.1 y hy, (hx y (List.mem_cons_of_mem _ hy)).2⟩) hx0.2.2
  cases l with
  | nil => exact w_fresh
  | cons x l => exact key _ _ 0 m w_fresh h.up (fun y hy => ⟨(h.le y hy).1, h.le y hy⟩) (by have := h.le x List.mem_cons_self; omega)
def S_is_watch : SpD := fun ds Q => ∃ b o l, ds = [wt b o (.tup (l.map D.int))] ∧ l.length ≤ 100000 ∧ Q (.bl (decide (0 ≤ b) && ((isNonD (oi o) || isSz (oi o)) && (areSz (.tup (l.map D.int)) && chainLe l))))
def S_played : SpD := fun ds Q => ∃ l m, ds = [.lst (l.map dd)] ∧ DOk l m ∧ l.length ≤ 100000 ∧ Q (wt (wrun ⟨0, none, []⟩ l).b (wrun ⟨0, none, []⟩ l).o (.tup ((wrun ⟨0, none, []⟩ l).laps.map D.int)))
theorem l_is_watch : ∀ ds Q, S_is_watch ds Q → ds.length = 1 := by rintro ds Q ⟨_, _, _, rfl, _⟩; rfl
theorem l_played : ∀ ds Q, S_played ds Q → ds.length = 1 := by rintro ds Q ⟨_, _, rfl, _⟩; rfl
theorem items_ints {l : List Int} : itemsOf (.tup (l.map D.int)) = l := by
  show (l.map D.int).map intOf = l
  rw [List.map_map]; exact List.map_id'' (fun _ => rfl) l
def t_played : TSd := dSeq (dSet 1 ((dCall S_fresh dNil))) (dSeq (dOwn 2 (dNil)) (dSeq (dFor (diSeqF ((dVar 0))) (gdTup2 3 4) (dIfS (dB (dOp rEqD ((dVar 4)) (dC (.str "start")))) (dSet 1 ((dCall S_started ((dCons ((dVar 1)) ((dCons ((dVar 3)) (dNil)))))))) (dIfS (dB (dOp rEqD ((dVar 4)) (dC (.str "halt")))) (dSet 1 ((dCall S_halted ((dCons ((dVar 1)) ((dCons ((dVar 3)) (dNil)))))))) (dIfS (dB (dOp rEqD ((dVar 4)) (dC (.str "lap")))) (dApp 2 ((dCall S_shown ((dCons ((dVar 1)) ((dCons ((dVar 3)) (dNil)))))))) (dIfS (dB (dOp rEqD ((dVar 4)) (dC (.str "clear")))) (dSeq (dSet 1 ((dCall S_cleared ((dCons ((dVar 1)) ((dCons ((dVar 3)) (dNil)))))))) (dOwn 2 (dNil))) (dNext)))))) (dFrz 2 (dRet ((dTup ((dCons ((dOp (rF ixF) ((dVar 1)) (dC (.int 0)))) ((dCons ((dOp (rF ixF) ((dVar 1)) (dC (.int 1)))) ((dCons ((dCall cTupleF ((dCons ((dVar 2)) (dNil))))) (dNil)))))))))))))
theorem st_ss : (("start" : Str) == ("start" : Str)) = true := beq_self_eq_true _
theorem st_hs : (("halt" : Str) == ("start" : Str)) = false := by decide +kernel
theorem st_ls : (("lap" : Str) == ("start" : Str)) = false := by decide +kernel
theorem st_cs : (("clear" : Str) == ("start" : Str)) = false := by decide +kernel
theorem st_lh : (("lap" : Str) == ("halt" : Str)) = false := by decide +kernel
theorem st_ch : (("clear" : Str) == ("halt" : Str)) = false := by decide +kernel
theorem st_cl : (("clear" : Str) == ("lap" : Str)) = false := by decide +kernel
theorem okW {x : Wd} {y : Str} (h : PyData.strOk y = true) : okEq (.str (wdS x)) (.str y) := ⟨by cases x <;> decide +kernel, h, Nat.zero_le _⟩
theorem ok_st : PyData.strOk "start" = true := by decide +kernel
theorem ok_ha : PyData.strOk "halt" = true := by decide +kernel
theorem ok_la : PyData.strOk "lap" = true := by decide +kernel
theorem ok_cl : PyData.strOk "clear" = true := by decide +kernel
theorem wrun_len {w : Ws} : ∀ {l : List (Int × Wd)}, (wrun w l).laps.length ≤ w.laps.length + l.length := by
  intro l
  induction l generalizing w with
  | nil => exact Nat.le_refl _
  | cons x l ih =>
    refine Nat.le_trans (ih (w := wstep w x.1 x.2)) ?_
    have : (wstep w x.1 x.2).laps.length ≤ w.laps.length + 1 := by cases x.2 <;> simp [wstep]
    rw [List.length_cons]
    omega
theorem r_played : ∀ ds Q, S_played ds Q → t_played { nx := fun _ => Q .non, rt := fun d _ => Q d } (startD ["deeds", "watch", "laps", "moment", "word"] ds) := by
  rintro ds Q ⟨l, m, rfl, hd, hl, q⟩
  simp! only [t_played]
  refine ⟨rfl, ?_⟩
  refine dFor_by (fun i δ => ∃ s3 s4, δ = [.sh (.lst (l.map dd)), .sh (wt (wrun ⟨0, none, []⟩ (l.take i)).b (wrun ⟨0, none, []⟩ (l.take i)).o (.tup [])), .ow ((wrun ⟨0, none, []⟩ (l.take i)).laps.map D.int), s3, s4]) (l.map dd) _ (fun Q h => ?_) ⟨.no, .no, rfl⟩ ?_ ?_
  · simp! only [Dl.dSeq]; exact h
  · rintro i dx δ hi ⟨s3, s4, rfl⟩
    rw [List.getElem?_map] at hi
    cases hx : l[i]? with
    | none => rw [hx] at hi; cases hi
    | some x =>
      rw [hx] at hi
      cases hi
      have hsn : l.take (i + 1) = l.take i ++ [x] := by rw [List.take_add_one, hx]; rfl
      have hmem := List.mem_of_getElem? hx
      have hok : okAt (wrun ⟨0, none, []⟩ (l.take i)).o x.1 := by
        refine WOk.okAt (w := wrun ⟨0, none, []⟩ (l.take i)) (wrun_ok ⟨hd.up.sublist (List.take_sublist ..), fun y hy => ⟨(hd.le y (List.mem_of_mem_take hy)).1, ?_⟩⟩)
        obtain ⟨j, hj⟩ := List.mem_iff_getElem?.mp hy
        rw [List.getElem?_take] at hj
        split at hj
        · rename_i hji
          obtain ⟨j1, j2⟩ := List.getElem?_eq_some_iff.mp hj
          obtain ⟨i1, i2⟩ := List.getElem?_eq_some_iff.mp hx
          have := List.pairwise_iff_getElem.mp hd.up j i j1 i1 hji
          rw [j2, i2] at this
          exact this
        · cases hj
      have hlen : (wrun ⟨0, none, []⟩ (l.take i)).laps.length ≤ 100000 := by
        have := wrun_len (w := ⟨0, none, []⟩) (l := l.take i)
        rw [List.length_take] at this
        simp only [List.length_nil] at this
        omega
      rw [hsn, wrun_snoc]
      generalize wrun ⟨0, none, []⟩ (l.take i) = w at hok hlen ⊢
      obtain ⟨mo, wd⟩ := x
      cases wd with
      | start =>
        simp! only [wdS, st_ss]
        exact ⟨okW (x := .start) ok_st, _, _, _, _, rfl, hok, _, _, rfl⟩
      | halt =>
        simp! only [wdS, st_hs]
        exact ⟨okW (x := .halt) ok_st, okW (x := .halt) ok_ha, _, _, _, _, rfl, hok, _, _, rfl⟩
      | lap =>
        simp! only [wdS, st_ls, st_lh]
        refine ⟨okW (x := .lap) ok_st, okW (x := .lap) ok_ha, okW (x := .lap) ok_la, _, _, _, _, rfl, hok, by rw [List.length_map]; exact Nat.lt_of_le_of_lt hlen (by decide), .sh (.int mo), .sh (.str "lap"), ?_⟩
        simp only [wstep, List.map_append, List.map_cons, List.map_nil]
      | clear =>
        simp! only [wdS, st_cs, st_ch, st_cl]
        exact ⟨okW (x := .clear) ok_st, okW (x := .clear) ok_ha, okW (x := .clear) ok_la, okW (x := .clear) ok_cl, _, _, _, _, rfl, hok, _, _, rfl⟩
  · rintro δ ⟨s3, s4, rfl⟩
    rw [List.length_map, List.take_length]
    simp! only [Dl.dSeq]
    exact q
--E
end Law

namespace Law
open PySem L2 Dl
/-! ### laps and their sizes -/
def lastLap (l : List Int) : Int := l.getLast?.getD 0
theorem diffs_sum : ∀ (l : List Int) (a : Int), (List.zipWith (fun x y => x - y) l (a :: l)).sum = (l.getLast?.getD a) - a
  | [], a => by simp
  | x :: l, a => by
    rw [List.zipWith_cons_cons, List.sum_cons, diffs_sum l x]
    cases l with
    | nil => simp
    | cons y l => rw [List.getLast?_cons_cons]; cases h : (y :: l).getLast? with
      | none => simp at h
      | some z => simp only [Option.getD_some]; omega
theorem diffs_last {l : List Int} : (diffs l).sum = lastLap l := by unfold diffs lastLap; rw [diffs_sum l 0]; omega
theorem lastLap_snoc {l : List Int} {x : Int} : lastLap (l ++ [x]) = x := by unfold lastLap; simp
theorem chainLe_of : ∀ {l : List Int}, l.Pairwise (· ≤ ·) → chainLe l = true
  | [], _ => rfl
  | [x], _ => rfl
  | x :: y :: l, h => by
    have h' := (List.pairwise_cons.mp h)
    have ih := chainLe_of h'.2
    unfold chainLe at ih ⊢
    rw [List.drop_one, List.tail_cons] at ih ⊢
    rw [List.zipWith_cons_cons, List.all_cons, ih, Bool.and_true]
    exact decide_eq_true (h'.1 y List.mem_cons_self)
theorem areSz_ints {l : List Int} (h : ∀ x ∈ l, 0 ≤ x) : areSz (.tup (l.map D.int)) = true := by
  show (l.map D.int).all isSz = true
  rw [List.all_map, List.all_eq_true]
  intro x hx
  exact decide_eq_true (h x hx)
mutual
theorem eqD_self : ∀ d : D, eqD d d = true
  | .non => rfl
  | .bl b => beq_self_eq_true b
  | .int i => beq_self_eq_true i
  | .str x => beq_self_eq_true x
  | .tup l => eqDL_self l
  | .lst l => eqDL_self l
theorem eqDL_self : ∀ l : List D, eqDL l l = true
  | [] => rfl
  | d :: r => by show (eqD d d && eqDL r r) = true; rw [eqD_self d, eqDL_self r]; rfl
end
theorem neD {x : D} {A B : Prop} (b : B) : if eqD x x = false then A else B := ite2 (fun z => absurd (z.symm.trans (eqD_self x)) Bool.false_ne_true) fun _ => b
theorem neI {x y : Int} {A B : Prop} (h : x = y) (b : B) : okEq (.int x) (.int y) ∧ if eqD (.int x) (.int y) = false then A else B := by
  subst h
  exact ⟨okT rfl, neD b⟩
theorem diffs_len {l : List Int} : (diffs l).length = l.length := by unfold diffs; rw [List.length_zipWith, List.length_cons]; omega
theorem diffs_go : ∀ (l : List Int) (a x : Int), List.zipWith (fun x y => x - y) (l ++ [x]) (a :: (l ++ [x])) = List.zipWith (fun x y => x - y) l (a :: l) ++ [x - l.getLast?.getD a]
  | [], a, x => by simp
  | y :: l, a, x => by
    have ih := diffs_go l y x
    rw [List.cons_append, List.zipWith_cons_cons, ih, List.zipWith_cons_cons, List.cons_append]
    congr 3
    cases l with
    | nil => rfl
    | cons z r => rw [List.getLast?_cons_cons]; simp [List.getLast?_cons]
theorem diffs_snoc {l : List Int} {x : Int} : diffs (l ++ [x]) = diffs l ++ [x - lastLap l] := diffs_go l 0 x
theorem diffs_nn : ∀ (l : List Int) (a : Int), (a :: l).Pairwise (· ≤ ·) → ∀ x ∈ List.zipWith (fun x y => x - y) l (a :: l), 0 ≤ x
  | [], a, _, x, hx => absurd hx (by simp)
  | y :: l, a, h, x, hx => by
    obtain ⟨h1, h2⟩ := (List.pairwise_cons.mp h)
    rw [List.zipWith_cons_cons] at hx
    rcases (List.mem_cons.mp hx) with rfl | hx
    · have := h1 y List.mem_cons_self; omega
    · exact diffs_nn l y h2 x hx
theorem WOk.dn {w : Ws} {m : Int} (h : WOk w m) : ∀ x ∈ diffs w.laps, 0 ≤ x := diffs_nn w.laps 0 (List.pairwise_cons.mpr ⟨h.nn, h.up⟩)
theorem last_le {w : Ws} {m : Int} (h : WOk w m) : lastLap w.laps ≤ shownAt w.b w.o m := by
  unfold lastLap
  cases e : w.laps.getLast? with
  | none => exact h.shown
  | some x => exact h.le x (List.mem_of_getLast? e)
theorem cut_less {l : List D} : cutD l none (some (-1)) = l.dropLast := by
  unfold cutD
  have e : HT.sIx l.length l.length (some (-1)) = l.length - 1 := by
    show (if (-1 : Int) < 0 then (-1 + (l.length : Int)).toNat else min (-1 : Int).toNat l.length) = _
    rw [if_pos (by decide)]; omega
  rw [e, List.dropLast_eq_take]
  simp [HT.sIx]
theorem atI_neg1 {l : List D} {x : D} : atI (l ++ [x]) (-1) = some x := atI_last (by simp)
/-! ### the fastest -/
def ix (s : List Int) (m : Int) : List Int := ((List.range s.length).filter fun i => decide (s.getD i 0 = m)).map fun i => ((i : Nat) : Int)
theorem ix_rise {s : List Int} {m : Int} : (ix s m).Pairwise (· < ·) := by
  unfold ix
  rw [List.pairwise_map]
  exact (List.pairwise_lt_range.sublist List.filter_sublist).imp fun {x y} h => by omega
theorem ix_mem {s : List Int} {m : Int} {i : Nat} (hi : i < s.length) : ((i : Nat) : Int) ∈ ix s m ↔ s.getD i 0 = m := by
  unfold ix
  rw [List.mem_map]
  constructor
  · rintro ⟨j, hj, e⟩
    have : j = i := by omega
    subst this
    exact of_decide_eq_true (List.mem_filter.mp hj).2
  · intro e
    exact ⟨i, List.mem_filter.mpr ⟨List.mem_range.mpr hi, decide_eq_true e⟩, rfl⟩
theorem least : ∀ {s : List Int}, s ≠ [] → ∃ m ∈ s, ∀ x ∈ s, m ≤ x
  | [], h => absurd rfl h
  | [a], _ => ⟨a, List.mem_singleton.mpr rfl, fun x hx => by rw [List.mem_singleton.mp hx]; exact Int.le_refl _⟩
  | a :: b :: r, _ => by
    obtain ⟨m, hm, h⟩ := least (s := b :: r) (by simp)
    by_cases c : a ≤ m
    · exact ⟨a, List.mem_cons_self, fun x hx => by
        rcases (List.mem_cons.mp hx) with rfl | hx
        · exact Int.le_refl _
        · have := h x hx; omega⟩
    · exact ⟨m, List.mem_cons_of_mem _ hm, fun x hx => by
        rcases (List.mem_cons.mp hx) with rfl | hx
        · omega
        · exact h x hx⟩
def S_fastest : SpD := fun ds Q => ∃ b o l, ds = [wt b o (.tup (l.map D.int))] ∧ l.length < 60 ∧ (l = [] → Q (.lst [])) ∧ ∀ m ∈ diffs l, (∀ x ∈ diffs l, m ≤ x) → Q (.lst ((ix (diffs l) m).map D.int))
theorem l_fastest : ∀ ds Q, S_fastest ds Q → ds.length = 1 := by rintro ds Q ⟨_, _, _, rfl, _⟩; rfl
def fsF (m : Int) : D → Option D
  | .tup [.int i, .int x] => if x = m then some (.int i) else none
  | _ => none
theorem filt_map {α β : Type} {p : α → Bool} {f : α → β} {g : α → Option β} : ∀ {l : List α}, (∀ a ∈ l, g a = if p a = true then some (f a) else none) → l.filterMap g = (l.filter p).map f
  | [], _ => rfl
  | a :: l, h => by
    have ih := filt_map (p := p) (f := f) (g := g) (l := l) fun b hb => h b (List.mem_cons_of_mem _ hb)
    have ha := h a List.mem_cons_self
    by_cases c : p a = true
    · rw [if_pos c] at ha
      rw [List.filterMap_cons_some ha, ih, List.filter_cons_of_pos c]; rfl
    · rw [if_neg c] at ha
      rw [List.filterMap_cons_none ha, ih, List.filter_cons_of_neg c]
theorem fs_enum {s : List Int} {m : Int} : (enumL (s.map D.int)).filterMap (fsF m) = (ix s m).map D.int := by
  unfold enumL ix
  rw [List.filterMap_map, List.map_map, List.length_map]
  refine filt_map fun i hi => ?_
  have hlt := List.mem_range.mp hi
  have e : (s.map D.int).getD i .non = .int (s.getD i 0) := by simp [List.getD_eq_getElem?_getD, List.getElem?_eq_getElem hlt]
  show fsF m (.tup [.int i, (s.map D.int).getD i .non]) = _
  rw [e]
  show (if s.getD i 0 = m then some (D.int i) else none) = _
  by_cases c : s.getD i 0 = m
  · rw [if_pos c, if_pos (decide_eq_true c)]; rfl
  · rw [if_neg c, if_neg (by rw [decide_eq_false c]; exact Bool.false_ne_true)]
def t_fastest : TSd := dSeq (dSet 1 ((dCall S_lap_sizes ((dCons ((dVar 0)) (dNil)))))) (dSeq (dSet 2 ((dCall (cMinD 0) (dCons ((dVar 1)) dNil)))) (dRet ((dComp 2 (diEnum ((dCons ((dVar 1)) (dNil)))) (gdTup2 3 4) (dB (dOp rEqD ((dVar 4)) ((dVar 2)))) ((dVar 3))))))
theorem r_fastest : ∀ ds Q, S_fastest ds Q → t_fastest { nx := fun _ => Q .non, rt := fun d _ => Q d } (startD ["watch", "sizes", "least"] ds) := by
  rintro ds Q ⟨b, o, l, rfl, hl, q0, q1⟩
  simp! only [t_fastest]
  refine ⟨b, o, l, rfl, by omega, ?_⟩
  simp! only [Dl.dSeq]
  have go : ∀ m : Int, Q (.lst ((ix (diffs l) m).map D.int)) → dComp 2 (diEnum (dCons (dVar 1) dNil)) (gdTup2 3 4) (dB (dOp rEqD (dVar 4) (dVar 2))) (dVar 3) [.sh (wt b o (.tup (l.map D.int))), .sh (.lst ((diffs l).map D.int)), .sh (.int m)] fun d _ => Q d := by
    intro m q
    refine dComp_at (enumL ((diffs l).map D.int)) (fsF m) (fun Q h => ?_) (fun d hd => ?_) ?_ ?_
    · simp! only [Dl.dSeq]
      exact h
    · unfold enumL at hd
      obtain ⟨i, hi, rfl⟩ := List.mem_map.mp hd
      rw [List.length_map] at hi
      have hlt := List.mem_range.mp hi
      have e : ((diffs l).map D.int).getD i .non = .int ((diffs l).getD i 0) := by simp [List.getD_eq_getElem?_getD, List.getElem?_eq_getElem hlt]
      rw [e]
      simp! only [Dl.dSeq]
      exact ite2 (fun c => if_pos c) fun c => if_neg c
    · refine Nat.le_trans (List.length_filterMap_le ..) ?_
      unfold enumL
      rw [List.length_map, List.length_range, List.length_map, diffs_len]; exact Nat.le_trans (show _ ≤ 60 by omega) (by decide)
    · rw [fs_enum]; exact q
  refine ⟨diffs l, intsF_map _, by rw [diffs_len]; omega, fun e => ?_, fun m h1 h2 => go m (q1 m h1 h2)⟩
  have el : l = [] := List.eq_nil_of_length_eq_zero (by rw [← diffs_len, e]; rfl)
  refine go 0 ?_
  rw [e]
  exact q0 el
theorem inD_ints {x : Int} : ∀ {l : List Int}, inD (.int x) (l.map D.int) = decide (x ∈ l)
  | [] => by simp [inD]
  | y :: l => by
    show (eqD (.int y) (.int x) || inD (.int x) (l.map D.int)) = _
    rw [inD_ints, eqD_int_int]
    by_cases h : y = x
    · subst h; simp
    · have h1 : (y == x) = false := by simpa using h
      have h2 : ¬ x = y := fun z => h z.symm
      simp [h1, h2]
theorem okIn_ints {x : Int} {l : List Int} : okIn (.int x) (l.map D.int) := ⟨rfl, okL_ints l, by show min _ 0 ≤ 60; omega⟩
theorem enum_get {l : List D} {i : Nat} {d : D} (h : (enumL l)[i]? = some d) : ∃ e, l[i]? = some e ∧ d = .tup [.int (i : Nat), e] := by
  unfold enumL at h
  rw [List.getElem?_map] at h
  cases q : (List.range l.length)[i]? with
  | none => rw [q] at h; cases h
  | some j =>
    rw [q] at h; cases h
    obtain ⟨h1, h2⟩ := List.getElem?_eq_some_iff.mp q
    rw [List.getElem_range] at h2
    rw [List.length_range] at h1
    subst h2
    exact ⟨l[i], List.getElem?_eq_getElem h1, by show D.tup [D.int i, l.getD i D.non] = _; rw [List.getD_eq_getElem?_getD, List.getElem?_eq_getElem h1]; rfl⟩
def S_law_watch : SpD := fun ds Q => ∃ ns k, ds = [scr ns, .int k] ∧ ns.length ≤ 63 ∧ 0 ≤ k ∧ ∀ w : Ws, WOk w 30 → w.laps.length ≤ 3 → Q (wt w.b w.o (.tup (w.laps.map D.int)))
theorem l_law_watch : ∀ ds Q, S_law_watch ds Q → ds.length = 2 := by rintro ds Q ⟨_, _, rfl, _⟩; rfl
theorem pick2 {x : D} {z : Int} (h0 : 0 ≤ z) (h1 : z < 2) : atI [D.non, x] z = some (if z = 0 then D.non else x) := by
  have : z = 0 ∨ z = 1 := by omega
  rcases this with rfl | rfl <;> rfl
def t_law_watch : TSd := dSeq (dSet 2 (dC (.int 0))) (dSeq (dOwn 3 (dNil)) (dSeq (dFor (diRange1 ((dCons ((dCall S_law_drawn ((dCons ((dVar 0)) ((dCons ((dVar 1)) ((dCons (dC (.int 4)) (dNil))))))))) (dNil)))) (gdName 4) (dSeq (dSet 2 ((dOp (rF addF) ((dVar 2)) ((dCall S_law_drawn ((dCons ((dVar 0)) ((dCons ((dOp (rF addF) ((dOp (rF addF) ((dVar 1)) (dC (.int 1)))) ((dVar 4)))) ((dCons (dC (.int 9)) (dNil)))))))))))) (dApp 3 ((dVar 2))))) (dFrz 3 (dSeq (dSet 5 ((dOp (rF ixF) ((dLst ((dCons (dC .non) ((dCons ((dCall S_law_drawn ((dCons ((dVar 0)) ((dCons ((dOp (rF addF) ((dVar 1)) (dC (.int 6)))) ((dCons (dC (.int 30)) (dNil))))))))) (dNil))))))) ((dCall S_law_drawn ((dCons ((dVar 0)) ((dCons ((dOp (rF addF) ((dVar 1)) (dC (.int 7)))) ((dCons (dC (.int 2)) (dNil)))))))))))) (dRet ((dTup ((dCons ((dOp (rF addF) ((dVar 2)) ((dCall S_law_drawn ((dCons ((dVar 0)) ((dCons ((dOp (rF addF) ((dVar 1)) (dC (.int 8)))) ((dCons (dC (.int 20)) (dNil))))))))))) ((dCons ((dVar 5)) ((dCons ((dCall cTupleF ((dCons ((dVar 3)) (dNil))))) (dNil))))))))))))))
theorem r_law_watch : ∀ ds Q, S_law_watch ds Q → t_law_watch { nx := fun _ => Q .non, rt := fun d _ => Q d } (startD ["_law_script", "_law_at", "_law_lap", "_law_laps", "_law_k", "_law_since"] ds) := by
  rintro ds Q ⟨ns, k, rfl, hl, k0, q⟩
  simp! only [t_law_watch]
  obtain ⟨n, hn, n4⟩ : ∃ n : Nat, (n : Int) = drawn ns k 4 ∧ n ≤ 3 := ⟨(drawn ns k 4).toNat, by have := drawn_lo (ns := ns) (k := k) (m := 4) (by decide); omega, by have := drawn_hi (ns := ns) (k := k) (m := 4) (by decide); omega⟩
  refine dFor_by (fun i δ => ∃ (a : Int) (l : List Int) (s4 : Sl), δ = [.sh (scr ns), .sh (.int k), .sh (.int a), .ow (l.map D.int), s4, .no] ∧ l.length = i ∧ i ≤ 3 ∧ 0 ≤ a ∧ l.Pairwise (· ≤ ·) ∧ ∀ x ∈ l, 0 ≤ x ∧ x ≤ a) (rangeL 0 n) _ (fun Q h => ?_) ⟨0, [], .no, rfl, rfl, by decide, by decide, .nil, fun x hx => absurd hx (by simp)⟩ ?_ ?_
  · simp! only [Dl.dSeq]
    refine ⟨ns, k, 4, rfl, hl, k0, by decide, ?_⟩
    simp! only [Dl.dSeq]
    rw [← hn]
    exact ⟨by omega, by omega, by rw [show (n : Int).toNat = n by omega]; exact h⟩
  · rintro i d δ hi ⟨a, l, s4, rfl, hz, hi3, a0, hp, ha⟩
    obtain ⟨rfl, hlt⟩ := rangeL_get hi
    simp! only [Dl.dSeq]
    refine use_drawn hl (by omega) (by decide) fun x x0 x3 => ?_
    simp! only [Dl.dSeq]
    refine ⟨Nat.lt_of_le_of_lt (show (l.map D.int).length ≤ 3 by rw [List.length_map]; omega) (by decide), a + x, l ++ [a + x], _, by rw [List.map_append]; rfl, by rw [List.length_append, hz]; rfl, by omega, by omega, List.pairwise_append.mpr ⟨hp, List.pairwise_singleton .., fun u hu v hv => ?_⟩, fun u hu => ?_⟩
    · rw [List.mem_singleton.mp hv]; have := ha u hu; omega
    · rcases List.mem_append.mp hu with hu | hu
      · have := ha u hu; omega
      · rw [List.mem_singleton.mp hu]; omega
  · rintro δ ⟨a, l, s4, rfl, hz, hi3, a0, hp, ha⟩
    rw [show (rangeL 0 n).length = n by simp [rangeL]] at hz
    simp! only [Dl.dSeq]
    refine use_drawn hl (by omega) (by decide) fun s s0 s30 => ?_
    refine use_drawn hl (by omega) (by decide) fun z z0 z2 => ?_
    refine ⟨_, pick2 z0 z2, ?_⟩
    refine use_drawn hl (by omega) (by decide) fun y y0 y20 => ?_
    simp! only [Dl.dSeq]
    have mk : ∀ o : Option Int, (∀ t, o = some t → 0 ≤ t ∧ t ≤ 30) → Q (wt (a + y) o (.tup (l.map D.int))) := fun o ho => by
      refine q ⟨a + y, o, l⟩ ⟨by show 0 ≤ a + y; omega, ho, hp, fun x hx => (ha x hx).1, fun x hx => ?_⟩ (by rw [hz]; exact n4)
      have h1 := (ha x hx).2
      cases o with
      | none => show x ≤ a + y; omega
      | some t => have := ho t rfl; show x ≤ a + y + 30 - t; omega
    by_cases c : z = 0
    · rw [if_pos c]; exact mk none fun t e => nomatch e
    · rw [if_neg c]; exact mk (some s) fun t e => by cases e; omega
theorem watch_true {w : Ws} {m : Int} (h : WOk w m) : (decide (0 ≤ w.b) && ((isNonD (oi w.o) || isSz (oi w.o)) && (areSz (.tup (w.laps.map D.int)) && chainLe w.laps))) = true := by
  rw [decide_eq_true h.b0, areSz_ints h.nn, chainLe_of h.up]
  cases e : w.o with
  | none => rfl
  | some s =>
    have := (h.o0 s e).1
    show (true && ((false || decide (0 ≤ s)) && (true && true))) = true
    rw [decide_eq_true this]; rfl
theorem last_get {l : List Int} : atI ((0 :: l).map D.int) (-1) = some (.int (lastLap l)) := by
  refine atI_last ?_
  rw [List.length_map, List.getElem?_map, ← List.getLast?_eq_getElem?]
  unfold lastLap
  cases l with
  | nil => rfl
  | cons a r => rw [List.getLast?_cons_cons, List.getLast?_cons]; rfl
--E
end Law

namespace Law
open PySem L2 Dl
/-! ### what refuses -/
def SR_refuse_early (ds : List D) : Prop := ∃ s now : Int, ds = [.int s, .int now] ∧ now < s
theorem lr_refuse_early : ∀ ds, SR_refuse_early ds → ds.length = 2 := by rintro ds ⟨_, _, rfl, _⟩; rfl
def q_refuse_early : Ev → Prop := (fun δ => (dAnd (dB (dOp rNotN ((dVar 0)) (dC .non))) (dB (dOp (rII fun i j => .bl (decide (i < j))) ((dVar 1)) ((dVar 0))))) δ fun q δ1 => if q = true then (fun _ => True) δ1 else (fun _ => False) δ1)
theorem rr_refuse_early : ∀ ds, SR_refuse_early ds → q_refuse_early (startD ["earlier", "now"] ds) := by
  rintro ds ⟨s, now, rfl, h⟩
  simp! only [q_refuse_early]
  exact ite2 (fun _ => trivial) fun z => absurd h z
def t_law_refused (ea : Nat) : TSd := dSeq (dSet 1 (dLst (dCons (dIsE 0 ea true) (dCons (dIsE 0 ea false) (dCons (dIsE 0 ea false) dNil))))) (dSeq (dSet 1 (dOp (rF addF) (dVar 1) (dLst (dCons (dIsE 0 ea false) dNil)))) (dSeq (dIfS (dOr (dB (dOp rNeD (dCnt (dVar 1)) (dC (.int 1)))) (dNot (dTruF (dIsE 0 ea true)))) dNever dNext) (dRet (dTup (dCons (dC (.str "refused")) (dCons (dFst (dVar 1)) dNil))))))
theorem rf_law_refused (ea : Nat) : t_law_refused ea { nx := fun _ => False, rt := fun d' _ => d' = .tup [.str "refused", .int 0] } (.pt ea :: List.replicate 1 .no) := by
  simp! only [t_law_refused, dIsE, dCnt, dFst, lstF_lst]
  refine ⟨[true, false, false, false], rfl, ?_⟩
  have e : ([true, false, false, false] : List Bool).count true = 1 := rfl
  simp! only [e]
  exact ⟨[true, false, false, false], rfl, by decide, by decide, rfl⟩
def okB (o : Option Int) (now : Int) : Bool := match o with
  | none => true
  | some s => decide (s ≤ now)
theorem okB_at {o : Option Int} {now : Int} (h : okB o now = true) : okAt o now := by
  cases o with
  | none => exact okAt_none
  | some s => exact okAt_some (of_decide_eq_true h)
theorem okRef : (D.tup [.str "refused", .int 0]).ok = true := by decide +kernel
--E
end Law

namespace Law
open PySem L2 Dl
/-! ### watches that refuse -/
def early (ds : List D) : Prop := ∃ (b s : Int) (l : D) (now : Int), ds = [wt b (some s) l, .int now] ∧ now < s
def SR_shown (ds : List D) : Prop := early ds
def SR_started (ds : List D) : Prop := early ds
def SR_halted (ds : List D) : Prop := early ds
def SR_lapped (ds : List D) : Prop := early ds
def SR_cleared (ds : List D) : Prop := early ds
theorem lr_shown : ∀ ds, SR_shown ds → ds.length = 2 := by rintro ds ⟨_, _, _, _, rfl, _⟩; rfl
theorem lr_started : ∀ ds, SR_started ds → ds.length = 2 := by rintro ds ⟨_, _, _, _, rfl, _⟩; rfl
theorem lr_halted : ∀ ds, SR_halted ds → ds.length = 2 := by rintro ds ⟨_, _, _, _, rfl, _⟩; rfl
theorem lr_lapped : ∀ ds, SR_lapped ds → ds.length = 2 := by rintro ds ⟨_, _, _, _, rfl, _⟩; rfl
theorem lr_cleared : ∀ ds, SR_cleared ds → ds.length = 2 := by rintro ds ⟨_, _, _, _, rfl, _⟩; rfl
def q_shown : Ev → Prop := (fun δ => ((dCons ((dOp (rF ixF) ((dVar 0)) (dC (.int 1)))) ((dCons ((dVar 1)) (dNil))))) δ fun ds _ => SR_refuse_early ds)
theorem rr_shown : ∀ ds, SR_shown ds → q_shown (startD ["watch", "now"] ds) := by
  rintro ds ⟨b, s, l, now, rfl, h⟩
  simp! only [q_shown, oi_some]
  exact ⟨s, now, rfl, h⟩
def q_started : Ev → Prop := (fun δ => ((dCons ((dOp (rF ixF) ((dVar 0)) (dC (.int 1)))) ((dCons ((dVar 1)) (dNil))))) δ fun ds _ => SR_refuse_early ds)
theorem rr_started : ∀ ds, SR_started ds → q_started (startD ["watch", "now"] ds) := by
  rintro ds ⟨b, s, l, now, rfl, h⟩
  simp! only [q_started, oi_some]
  exact ⟨s, now, rfl, h⟩
def q_cleared : Ev → Prop := (fun δ => ((dCons ((dOp (rF ixF) ((dVar 0)) (dC (.int 1)))) ((dCons ((dVar 1)) (dNil))))) δ fun ds _ => SR_refuse_early ds)
theorem rr_cleared : ∀ ds, SR_cleared ds → q_cleared (startD ["watch", "now"] ds) := by
  rintro ds ⟨b, s, l, now, rfl, h⟩
  simp! only [q_cleared, oi_some]
  exact ⟨s, now, rfl, h⟩
def q_halted : Ev → Prop := (fun δ => ((dCons ((dVar 0)) ((dCons ((dVar 1)) (dNil))))) δ fun ds _ => SR_shown ds)
theorem rr_halted : ∀ ds, SR_halted ds → q_halted (startD ["watch", "now"] ds) := by
  rintro ds ⟨b, s, l, now, rfl, h⟩
  simp! only [q_halted, oi_some]
  exact ⟨b, s, l, now, rfl, h⟩
def q_lapped : Ev → Prop := (fun δ => ((dOp (rF ixF) ((dVar 0)) (dC (.int 0)))) δ fun _ δ1 => (fun δ => ((dOp (rF ixF) ((dVar 0)) (dC (.int 1)))) δ fun _ δ1 => (fun δ => ((dOp (rF ixF) ((dVar 0)) (dC (.int 2)))) δ fun _ δ1 => (fun δ => ((dCons ((dVar 0)) ((dCons ((dVar 1)) (dNil))))) δ fun ds _ => SR_shown ds) δ1) δ1) δ1)
theorem rr_lapped : ∀ ds, SR_lapped ds → q_lapped (startD ["watch", "now"] ds) := by
  rintro ds ⟨b, s, l, now, rfl, h⟩
  simp! only [q_lapped, oi_some]
  exact ⟨b, s, l, now, rfl, h⟩
abbrev ww (w : Ws) : D := wt w.b w.o (.tup (w.laps.map D.int))
def toldW (way : Int) (w : Ws) (now : Int) : D :=
  if okB w.o now = true then (if way = 0 then ww (wstep w now .start) else if way = 1 then ww (wstep w now .halt) else if way = 2 then ww (wstep w now .lap) else if way = 3 then ww (wstep w now .clear) else .int (shownAt w.b w.o now))
  else .tup [.str "refused", .int 0]
def S_law_told : SpD := fun ds Q => ∃ (way : Int) (w : Ws) (now : Int), ds = [.int way, ww w, .int now] ∧ w.laps.length ≤ 50 ∧ Q (toldW way w now)
def S_law_due : SpD := fun ds Q => ∃ (way : Int) (w : Ws) (now : Int), ds = [.int way, ww w, .int now] ∧ w.laps.length ≤ 50 ∧ Q (toldW way w now)
theorem l_law_told : ∀ ds Q, S_law_told ds Q → ds.length = 3 := by rintro ds Q ⟨_, _, _, rfl, _⟩; rfl
theorem l_law_due : ∀ ds Q, S_law_due ds Q → ds.length = 3 := by rintro ds Q ⟨_, _, _, rfl, _⟩; rfl
theorem lap_data {w : Ws} {x : Int} : D.tup ((w.laps ++ [x]).map D.int) = .tup (w.laps.map D.int ++ [.int x]) := by rw [List.map_append]; rfl
theorem lap_q {Q : D → Prop} {b : Int} {o : Option Int} {laps : List Int} {now : Int} (q : Q (ww (wstep ⟨b, o, laps⟩ now .lap))) : Q (wt b o (.tup (laps.map D.int ++ [.int (shownAt b o now)]))) := by
  rw [← lap_data (w := ⟨b, o, laps⟩)]; exact q
def t_law_told : TSd := dTry (dSeq (dIfS (dB (dOp rEqD ((dVar 0)) (dC (.int 0)))) (dRet ((dCall S_started ((dCons ((dVar 1)) ((dCons ((dVar 2)) (dNil)))))))) (dNext)) (dSeq (dIfS (dB (dOp rEqD ((dVar 0)) (dC (.int 1)))) (dRet ((dCall S_halted ((dCons ((dVar 1)) ((dCons ((dVar 2)) (dNil)))))))) (dNext)) (dSeq (dIfS (dB (dOp rEqD ((dVar 0)) (dC (.int 2)))) (dRet ((dCall S_lapped ((dCons ((dVar 1)) ((dCons ((dVar 2)) (dNil)))))))) (dNext)) (dRet ((dIf (dB (dOp rEqD ((dVar 0)) (dC (.int 3)))) ((dCall S_cleared ((dCons ((dVar 1)) ((dCons ((dVar 2)) (dNil))))))) ((dCall S_shown ((dCons ((dVar 1)) ((dCons ((dVar 2)) (dNil))))))))))))) (fun δ => (dB (dOp rEqD ((dVar 0)) (dC (.int 0)))) δ fun q δ1 => if q = true then (fun δ => ((dCons ((dVar 1)) ((dCons ((dVar 2)) (dNil))))) δ fun ds _ => SR_started ds) δ1 else (fun δ => (dB (dOp rEqD ((dVar 0)) (dC (.int 1)))) δ fun q δ1 => if q = true then (fun δ => ((dCons ((dVar 1)) ((dCons ((dVar 2)) (dNil))))) δ fun ds _ => SR_halted ds) δ1 else (fun δ => (dB (dOp rEqD ((dVar 0)) (dC (.int 2)))) δ fun q δ1 => if q = true then (fun δ => ((dCons ((dVar 1)) ((dCons ((dVar 2)) (dNil))))) δ fun ds _ => SR_lapped ds) δ1 else (fun δ => (dB (dOp rEqD ((dVar 0)) (dC (.int 3)))) δ fun q δ1 => if q = true then (fun δ => ((dCons ((dVar 1)) ((dCons ((dVar 2)) (dNil))))) δ fun ds _ => SR_cleared ds) δ1 else (fun δ => ((dCons ((dVar 1)) ((dCons ((dVar 2)) (dNil))))) δ fun ds _ => SR_shown ds) δ1) δ1) δ1) δ1) (.tup [.str "refused", .int 0])
theorem r_law_told : ∀ ds Q, S_law_told ds Q → t_law_told { nx := fun _ => Q .non, rt := fun d _ => Q d } (startD ["_law_way", "_law_watch_here", "_law_now", "_law_e"] ds) := by
  rintro ds Q ⟨way, w, now, rfl, hl, q⟩
  unfold toldW at q
  unfold t_law_told dTry
  by_cases hok : okB w.o now = true
  · have ha := okB_at hok
    rw [if_pos hok] at q
    left
    simp! only [Dl.dSeq]
    refine ite2 (fun h => ?_) fun h => ?_
    · rw [if_pos h] at q; exact ⟨_, _, _, _, rfl, ha, q⟩
    rw [if_neg h] at q
    refine ite2 (fun h => ?_) fun h => ?_
    · rw [if_pos h] at q; exact ⟨_, _, _, _, rfl, ha, q⟩
    rw [if_neg h] at q
    refine ite2 (fun h => ?_) fun h => ?_
    · rw [if_pos h] at q; exact ⟨_, _, _, _, rfl, ha, by rw [List.length_map]; omega, by rw [← lap_data]; exact q⟩
    rw [if_neg h] at q
    refine ite2 (fun h => ?_) fun h => ?_
    · rw [if_pos h] at q; exact ⟨_, _, _, _, rfl, ha, q⟩
    · rw [if_neg h] at q; exact ⟨_, _, _, _, rfl, ha, q⟩
  · rw [if_neg hok] at q
    right
    obtain ⟨s, e, hs⟩ : ∃ s, w.o = some s ∧ now < s := by
      cases e : w.o with
      | none => rw [e] at hok; exact absurd rfl hok
      | some s => rw [e] at hok; exact ⟨s, rfl, by unfold okB at hok; simpa using hok⟩
    refine ⟨?_, fun _ => q⟩
    rw [show ww w = wt w.b (some s) (.tup (w.laps.map D.int)) by rw [← e]]
    simp! only [Dl.dSeq]
    refine ite2 (fun h => ?_) fun h => ?_
    · exact ⟨_, s, _, now, rfl, hs⟩
    refine ite2 (fun h => ?_) fun h => ?_
    · exact ⟨_, s, _, now, rfl, hs⟩
    refine ite2 (fun h => ?_) fun h => ?_
    · exact ⟨_, s, _, now, rfl, hs⟩
    refine ite2 (fun h => ?_) fun h => ?_
    · exact ⟨_, s, _, now, rfl, hs⟩
    · exact ⟨_, s, _, now, rfl, hs⟩
def t_law_due_6 : TSd := dRet ((dIf (dB (dOp rEqD ((dVar 0)) (dC (.int 3)))) ((dTup ((dCons (dC (.int 0)) ((dCons ((dOp (rF ixF) ((dLst ((dCons (dC .non) ((dCons ((dVar 2)) (dNil))))))) ((dCall cIntF ((dCons ((dOp rNotN ((dVar 4)) (dC .non))) (dNil))))))) ((dCons ((dTup (dNil))) (dNil))))))))) ((dVar 6))))
def t_law_due_5 : TSd := dSeq (dIfS (dB (dOp rEqD ((dVar 0)) (dC (.int 2)))) (dRet ((dTup ((dCons ((dVar 3)) ((dCons ((dVar 4)) ((dCons ((dOp (rF addF) ((dVar 5)) ((dTup ((dCons ((dVar 6)) (dNil))))))) (dNil)))))))))) (dNext)) (t_law_due_6)
def t_law_due_4 : TSd := dSeq (dIfS (dB (dOp rEqD ((dVar 0)) (dC (.int 1)))) (dRet ((dTup ((dCons ((dVar 6)) ((dCons (dC .non) ((dCons ((dVar 5)) (dNil)))))))))) (dNext)) (t_law_due_5)
def t_law_due_3 : TSd := dSeq (dIfS (dB (dOp rEqD ((dVar 0)) (dC (.int 0)))) (dRet ((dIf (dB (dOp rNotN ((dVar 4)) (dC .non))) ((dVar 1)) ((dTup ((dCons ((dVar 3)) ((dCons ((dVar 2)) ((dCons ((dVar 5)) (dNil)))))))))))) (dNext)) (t_law_due_4)
def t_law_due_2 : TSd := dSeq (dSet 6 ((dOp (rF addF) ((dVar 3)) ((dIf (dB (dOp rIsN ((dVar 4)) (dC .non))) (dC (.int 0)) ((dOp (rII fun i j => .int (i - j)) ((dVar 2)) ((dVar 4))))))))) (t_law_due_3)
def t_law_due_1 : TSd := dSeq (dIfS (dAnd (dB (dOp rNotN ((dVar 4)) (dC .non))) (dB (dOp (rII fun i j => .bl (decide (i < j))) ((dVar 2)) ((dVar 4))))) (dRet ((dTup ((dCons (dC (.str "refused")) ((dCons (dC (.int 0)) (dNil)))))))) (dNext)) (t_law_due_2)
def t_law_due : TSd := dSeq (dAsg ((dVar 1)) (gdTup3 3 4 5)) (t_law_due_1)
theorem r_law_due : ∀ ds Q, S_law_due ds Q → t_law_due { nx := fun _ => Q .non, rt := fun d _ => Q d } (startD ["_law_way", "_law_watch_here", "_law_now", "_law_before", "_law_since", "_law_laps", "_law_ran"] ds) := by
  rintro ds Q ⟨way, ⟨b, o, laps⟩, now, rfl, hl, q⟩
  have hz : (laps.map D.int).length + 1 ≤ sizeLine := by rw [List.length_map]; exact Nat.le_trans (show _ ≤ 51 by have : laps.length ≤ 50 := hl; omega) (by decide)
  unfold toldW at q
  simp! only [t_law_due, t_law_due_1]
  cases o with
  | none =>
    rw [if_pos (show okB none now = true from rfl)] at q
    simp! only [t_law_due_2, t_law_due_3, t_law_due_4, t_law_due_5, t_law_due_6, oi_none]
    refine ite2 (fun h => ?_) fun h => ?_
    · rw [if_pos h] at q; exact q
    rw [if_neg h] at q
    refine ite2 (fun h => ?_) fun h => ?_
    · rw [if_pos h] at q; rw [Int.add_zero]; exact q
    rw [if_neg h] at q
    refine ite2 (fun h => ?_) fun h => ?_
    · rw [if_pos h] at q; rw [Int.add_zero]; exact ⟨_, if_pos hz, lap_q (o := none) (now := now) q⟩
    rw [if_neg h] at q
    refine ite2 (fun h => ?_) fun h => ?_
    · rw [if_pos h] at q; exact q
    · rw [if_neg h] at q; rw [Int.add_zero]; exact q
  | some s =>
    by_cases hs : now < s
    · rw [if_neg (by unfold okB; simp; omega)] at q
      simp! only [oi_some]
      exact ite2 (fun _ => q) fun h => absurd hs h
    · rw [if_pos (by unfold okB; simp; omega)] at q
      have el : b + (now - s) = shownAt b (some s) now := by simp only [shownAt]; omega
      simp! only [t_law_due_2, t_law_due_3, t_law_due_4, t_law_due_5, t_law_due_6, oi_some, el]
      refine ite2 (fun h => absurd h hs) fun _ => ?_
      refine ite2 (fun h => ?_) fun h => ?_
      · rw [if_pos h] at q; exact q
      rw [if_neg h] at q
      refine ite2 (fun h => ?_) fun h => ?_
      · rw [if_pos h] at q; exact q
      rw [if_neg h] at q
      refine ite2 (fun h => ?_) fun h => ?_
      · rw [if_pos h] at q; exact ⟨_, if_pos hz, lap_q q⟩
      rw [if_neg h] at q
      refine ite2 (fun h => ?_) fun h => ?_
      · rw [if_pos h] at q; exact q
      · rw [if_neg h] at q; exact q
def wayW (way : Int) : Wd := if way = 0 then .start else if way = 1 then .halt else if way = 2 then .lap else .clear
theorem told_ww {way : Int} {w : Ws} {now : Int} (h : okB w.o now = true) (w0 : 0 ≤ way) (w1 : way < 4) : toldW way w now = ww (wstep w now (wayW way)) := by
  unfold toldW
  rw [if_pos h]
  obtain rfl | rfl | rfl | rfl : way = 0 ∨ way = 1 ∨ way = 2 ∨ way = 3 := by omega
  all_goals rfl
theorem word_at {way : Int} (w0 : 0 ≤ way) (w1 : way < 4) : atI [D.str "start", .str "halt", .str "lap", .str "clear"] way = some (.str (wdS (wayW way))) := by
  obtain rfl | rfl | rfl | rfl : way = 0 ∨ way = 1 ∨ way = 2 ∨ way = 3 := by omega
  all_goals rfl
theorem ok_ww {w : Ws} : (ww w).ok = true := by
  show (true && ((oi w.o).ok && (D.okL (w.laps.map D.int) && true))) = true
  rw [okL_ints]; cases w.o <;> rfl
theorem dep_ww {w : Ws} : (ww w).dep ≤ 2 := by
  show max 0 (max (oi w.o).dep (max (D.depL (w.laps.map D.int) + 1) 0)) + 1 ≤ 2
  rw [depL_ints]
  cases w.o with
  | none => decide
  | some s => exact (by decide : max 0 (max 0 (max (0 + 1) 0)) + 1 ≤ 2)
theorem ok_told {way : Int} {w : Ws} {now : Int} : (toldW way w now).ok = true := by
  unfold toldW
  split
  · split
    · exact ok_ww
    · split
      · exact ok_ww
      · split
        · exact ok_ww
        · split
          · exact ok_ww
          · rfl
  · exact okRef
theorem dep_told {way : Int} {w : Ws} {now : Int} : (toldW way w now).dep ≤ 2 := by
  unfold toldW
  split
  · split
    · exact dep_ww
    · split
      · exact dep_ww
      · split
        · exact dep_ww
        · split
          · exact dep_ww
          · exact Nat.zero_le _
  · decide
theorem ww_ref {w : Ws} : eqD (ww w) (.tup [.str "refused", .int 0]) = false := rfl
theorem pick5 {w : Int} (h0 : 0 ≤ w) (h1 : w < 5) : ∃ y : Int, atI [D.int 0, .int 1, .int 7, .int 20, .int (-15)] w = some (.int y) := by
  obtain rfl | rfl | rfl | rfl | rfl : w = 0 ∨ w = 1 ∨ w = 2 ∨ w = 3 ∨ w = 4 := by omega
  all_goals exact ⟨_, rfl⟩
theorem step_len {w : Ws} {m : Int} {x : Wd} : (wstep w m x).laps.length ≤ w.laps.length + 1 := by cases x <;> simp [wstep]
theorem okEqW {w w' : Ws} : okEq (ww w) (ww w') := ⟨ok_ww, ok_ww, Nat.le_trans (Nat.min_le_left _ _) (Nat.le_trans dep_ww (by decide))⟩
theorem diffs_get : ∀ (l : List Int) (a : Int) (j : Nat), j < l.length → (List.zipWith (fun x y => x - y) l (a :: l))[j]? = some ((a :: l).getD (j + 1) 0 - (a :: l).getD j 0)
  | [], _, j, h => absurd h (Nat.not_lt_zero j)
  | x :: l, a, 0, _ => rfl
  | x :: l, a, j + 1, h => by
    rw [List.zipWith_cons_cons, List.getElem?_cons_succ, diffs_get l x j (by simpa using h)]
    rfl
def szF (laps : List Int) : D → Option D
  | .int j => some (.int ((0 :: laps).getD (j.toNat + 1) 0 - (0 :: laps).getD j.toNat 0))
  | _ => none
theorem sz_all {laps : List Int} : (rangeL 0 laps.length).filterMap (szF laps) = (diffs laps).map D.int := by
  unfold rangeL
  rw [List.filterMap_map]
  rw [fm_map (h := fun i : Nat => D.int ((0 :: laps).getD (i + 1) 0 - (0 :: laps).getD i 0)) fun i _ => by simp [szF]]
  apply List.ext_getElem?
  intro i
  rw [List.getElem?_map, List.getElem?_map]
  by_cases h : i < laps.length
  · rw [List.getElem?_range h]
    unfold diffs
    rw [diffs_get laps 0 i h]
    rfl
  · rw [List.getElem?_eq_none (by simpa using h), List.getElem?_eq_none (by rw [diffs_len]; omega)]
    rfl
def beF (s : List Int) (m : Int) : D → Option D
  | .int j => if s.getD j.toNat 0 = m then some (.int j) else none
  | _ => none
theorem be_all {s : List Int} {m : Int} : (rangeL 0 s.length).filterMap (beF s m) = (ix s m).map D.int := by
  unfold rangeL ix
  rw [List.filterMap_map, List.map_map]
  refine filt_map fun i _ => ?_
  show (if s.getD (0 + (i : Int)).toNat 0 = m then some (D.int (0 + (i : Int))) else none) = _
  rw [Int.zero_add]
  show (if s.getD i 0 = m then some (D.int i) else none) = _
  by_cases c : s.getD i 0 = m
  · rw [if_pos c, if_pos (decide_eq_true c)]; rfl
  · rw [if_neg c, if_neg (by rw [decide_eq_false c]; exact Bool.false_ne_true)]
theorem range_mem {n : Nat} {d : D} (h : d ∈ rangeL 0 n) : ∃ j : Nat, d = .int j ∧ j < n := by
  obtain ⟨j, hj, rfl⟩ := List.mem_map.mp h
  exact ⟨j, by rw [Int.zero_add], List.mem_range.mp hj⟩
theorem atI_ints {l : List Int} {j : Nat} (h : j < l.length) : atI (l.map D.int) (j : Int) = some (.int (l.getD j 0)) := by
  rw [atI_map D.int (by omega) (by omega), List.getD_eq_getElem?_getD, List.getElem?_eq_getElem h]
  rfl
def t_law_7 : TSd := dFrz 4 (dRet ((dOp rEqD ((dCall S_played ((dCons ((dVar 4)) (dNil))))) ((dVar 3)))))
def t_law_6 : TSd := dSeq (dFor (diRange1 ((dCons ((dCall cMax ((dCons (dC (.int 1)) ((dCons ((dCall cMin ((dCons (dC (.int 10)) ((dCons ((dCall cLenF ((dCons ((dVar 0)) (dNil))))) (dNil))))))) (dNil))))))) (dNil)))) (gdName 6) (dSeq (dSet 7 ((dCall S_law_drawn ((dCons ((dVar 0)) ((dCons ((dOp (rF addF) (dC (.int 20)) ((dOp (rIC CMul fun i j => .int (i * j)) (dC (.int 5)) ((dVar 6)))))) ((dCons (dC (.int 5)) (dNil)))))))))) (dSeq (dSet 2 ((dCall cMax ((dCons (dC (.int 0)) ((dCons ((dOp (rF addF) ((dVar 2)) ((dOp (rF ixF) ((dLst ((dCons (dC (.int 0)) ((dCons (dC (.int 1)) ((dCons (dC (.int 7)) ((dCons (dC (.int 20)) ((dCons ((dUn rNegD (dC (.int 15)))) (dNil))))))))))))) ((dCall S_law_drawn ((dCons ((dVar 0)) ((dCons ((dOp (rF addF) (dC (.int 21)) ((dOp (rIC CMul fun i j => .int (i * j)) (dC (.int 5)) ((dVar 6)))))) ((dCons (dC (.int 5)) (dNil))))))))))))) (dNil)))))))) (dSeq (dSet 8 ((dCall S_law_due ((dCons ((dVar 7)) ((dCons ((dVar 1)) ((dCons ((dVar 2)) (dNil)))))))))) (dSeq (dIfS (dB (dOp rNeD ((dCall S_law_told ((dCons ((dVar 7)) ((dCons ((dVar 1)) ((dCons ((dVar 2)) (dNil))))))))) ((dVar 8)))) (dRet (dC (.bl false))) (dNext)) (dSeqM (dIfS (dAnd (dB (dOp (rII fun i j => .bl (decide (i < j))) ((dVar 7)) (dC (.int 4)))) (dB (dOp rNeD ((dVar 8)) ((dTup ((dCons (dC (.str "refused")) ((dCons (dC (.int 0)) (dNil)))))))))) (dSet 1 ((dVar 8))) (dNext)) (dSeq (dSet 9 ((dOp (rF addF) ((dLst ((dCons (dC (.int 0)) (dNil))))) ((dCall cListF ((dCons ((dOp (rF ixF) ((dVar 1)) (dC (.int 2)))) (dNil)))))))) (dSeq (dSet 10 ((dComp 1 (diRange1 ((dCons ((dCall cLenF ((dCons ((dOp (rF ixF) ((dVar 1)) (dC (.int 2)))) (dNil))))) (dNil)))) (gdName 14) (dYes) ((dOp (rII fun i j => .int (i - j)) ((dOp (rF ixF) ((dVar 9)) ((dOp (rF addF) ((dVar 14)) (dC (.int 1)))))) ((dOp (rF ixF) ((dVar 9)) ((dVar 14))))))))) (dSeq (dSet 11 ((dComp 1 (diRange1 ((dCons ((dCall cLenF ((dCons ((dVar 10)) (dNil))))) (dNil)))) (gdName 14) (dB (dOp rEqD ((dOp (rF ixF) ((dVar 10)) ((dVar 14)))) ((dCall cMinL ((dCons ((dVar 10)) (dNil))))))) ((dVar 14))))) (dSeq (dIfS (dOr (dB (dOp rNeD ((dCall S_lap_sizes ((dCons ((dVar 1)) (dNil))))) ((dVar 10)))) (dB (dOp rNeD ((dCall S_fastest ((dCons ((dVar 1)) (dNil))))) ((dVar 11))))) (dRet (dC (.bl false))) (dNext)) (dSeq (dSet 12 ((dCall S_law_drawn ((dCons ((dVar 0)) ((dCons ((dOp (rF addF) (dC (.int 22)) ((dOp (rIC CMul fun i j => .int (i * j)) (dC (.int 5)) ((dVar 6)))))) ((dCons (dC (.int 60)) (dNil)))))))))) (dSeq (dSet 13 (dC .non)) (dSeqM (dIfS (dAnd (dB (dOp rNotN ((dOp (rF ixF) ((dVar 1)) (dC (.int 1)))) (dC .non))) (dB (dOp (rII fun i j => .bl (decide (j ≤ i))) ((dVar 12)) ((dOp (rF ixF) ((dVar 1)) (dC (.int 0))))))) (dSet 13 ((dOp (rII fun i j => .int (i - j)) ((dOp (rF addF) ((dOp (rF ixF) ((dVar 1)) (dC (.int 1)))) ((dVar 12)))) ((dOp (rF ixF) ((dVar 1)) (dC (.int 0))))))) (dNext)) (dSeq (dIfS (dB (dOp rNeD ((dCall S_when_shown ((dCons ((dVar 1)) ((dCons ((dVar 12)) (dNil))))))) ((dVar 13)))) (dRet (dC (.bl false))) (dNext)) (dIfS (dB (dOp (rII fun i j => .bl (decide (i < j))) ((dVar 7)) (dC (.int 4)))) (dSeq (dSet 5 ((dOp (rF addF) ((dVar 5)) ((dCall S_law_drawn ((dCons ((dVar 0)) ((dCons ((dOp (rF addF) (dC (.int 23)) ((dOp (rIC CMul fun i j => .int (i * j)) (dC (.int 5)) ((dVar 6)))))) ((dCons (dC (.int 9)) (dNil)))))))))))) (dSeq (dSet 3 ((dCall S_law_due ((dCons ((dVar 7)) ((dCons ((dVar 3)) ((dCons ((dVar 5)) (dNil)))))))))) (dApp 4 ((dTup ((dCons ((dVar 5)) ((dCons ((dOp (rF ixF) ((dLst ((dCons (dC (.str "start")) ((dCons (dC (.str "halt")) ((dCons (dC (.str "lap")) ((dCons (dC (.str "clear")) (dNil))))))))))) ((dVar 7)))) (dNil)))))))))) (dNext)))))))))))))))) (t_law_7)
def t_law_5 : TSd := dSeq (dSet 5 (dC (.int 0))) (t_law_6)
def t_law_4 : TSd := dSeq (dOwn 4 (dNil)) (t_law_5)
def t_law_3 : TSd := dSeq (dIfS (dB (dOp rNeD ((dVar 3)) ((dTup ((dCons (dC (.int 0)) ((dCons (dC .non) ((dCons ((dTup (dNil))) (dNil))))))))))) (dRet (dC (.bl false))) (dNext)) (t_law_4)
def t_law_2 : TSd := dSeq (dSet 3 ((dCall S_fresh dNil))) (t_law_3)
def t_law_1 : TSd := dSeq (dSet 2 (dC (.int 30))) (t_law_2)
def t_law : TSd := dSeq (dSet 1 ((dCall S_law_watch ((dCons ((dVar 0)) ((dCons (dC (.int 0)) (dNil)))))))) (t_law_1)
set_option maxHeartbeats 8100000 in
theorem r_law : ∀ ds Q, S_law ds Q → t_law { nx := fun _ => Q .non, rt := fun d _ => Q d } (startD ["_law_script", "_law_watch_here", "_law_now", "_law_mine", "_law_deeds", "_law_moment", "_law_k", "_law_way", "_law_due_here", "_law_ends", "_law_sizes", "_law_best", "_law_size", "_law_due_at"] ds) := by
  rintro ds Q ⟨ns, rfl, hl, q⟩
  simp! only [t_law, t_law_1, t_law_2, t_law_3, t_law_4, t_law_5]
  refine ⟨ns, 0, rfl, hl, by decide, fun w0 hw0 z0 => ?_⟩
  refine ⟨rfl, ?_⟩
  simp! only [Dl.dSeq]
  refine ⟨okEqW (w := ⟨0, none, []⟩) (w' := ⟨0, none, []⟩), ite2 (fun h => absurd h (by decide)) fun _ => ?_⟩
  unfold t_law_6
  simp! only [Dl.dSeq]
  refine dFor_by (fun i δ => ∃ (w : Ws) (now : Int) (l : List (Int × Wd)) (m : Int) (s6 s7 s8 s9 s10 s11 s12 s13 : Sl), δ = [.sh (scr ns), .sh (ww w), .sh (.int now), .sh (ww (wrun ⟨0, none, []⟩ l)), .ow (l.map dd), .sh (.int m), s6, s7, s8, s9, s10, s11, s12, s13] ∧ w.laps.length ≤ 3 + i ∧ i ≤ 10 ∧ DOk l m ∧ 0 ≤ m ∧ l.length ≤ i) (rangeL 0 (max 1 (min 10 (ns.length : Int))).toNat) _ (fun Q h => ?_) ⟨w0, 30, [], 0, .no, .no, .no, .no, .no, .no, .no, .no, rfl, by omega, by decide, ⟨.nil, fun x hx => absurd hx (by simp)⟩, by decide, by decide⟩ ?_ ?_
  · simp! only [List.length_map]
    exact ⟨by omega, by omega, h⟩
  · rintro i d δ hi ⟨w, now, l, m, s6, s7, s8, s9, s10, s11, s12, s13, rfl, hz, hi10, hd, m0, hll⟩
    obtain ⟨rfl, hlt⟩ := rangeL_get hi
    have hi9 : i ≤ 9 := by omega
    simp! only [Dl.dSeq]
    refine ⟨.inl ⟨by decide, by decide⟩, use_drawn hl (by omega) (by decide) fun way w0 w1 => ?_⟩
    refine ⟨.inl ⟨by decide, by decide⟩, use_drawn hl (by omega) (by decide) fun z z0 z1 => ?_⟩
    obtain ⟨y, ey⟩ := pick5 z0 z1
    simp! only [ey]
    refine ⟨way, w, max 0 (now + y), rfl, by omega, ?_⟩
    refine ⟨way, w, max 0 (now + y), rfl, by omega, ?_⟩
    simp! only [Dl.dSeq]
    generalize hm : max 0 (now + y) = now'
    have okk : okEq (toldW way w now') (toldW way w now') := ⟨ok_told, ok_told, Nat.le_trans (Nat.min_le_left _ _) (Nat.le_trans dep_told (by decide))⟩
    refine ⟨okk, ite2 (fun h => absurd h (by rw [eqD_self]; decide)) fun _ => ?_⟩
    have ok2 : okEq (toldW way w now') (.tup [.str "refused", .int 0]) := ⟨ok_told, okRef, Nat.le_trans (Nat.min_le_left _ _) (Nat.le_trans dep_told (by decide))⟩
    refine ⟨fun δ => ∃ w' : Ws, δ = [.sh (scr ns), .sh (ww w'), .sh (.int now'), .sh (ww (wrun ⟨0, none, []⟩ l)), .ow (l.map dd), .sh (.int m), .sh (.int (0 + (i : Int))), .sh (.int way), .sh (toldW way w now'), s9, s10, s11, s12, s13] ∧ w'.laps.length ≤ 4 + i, ?_, ?_⟩
    · simp! only [Dl.dSeq]
      refine ite2 (fun hw => ?_) fun _ => ⟨w, rfl, by omega⟩
      refine ⟨ok2, ?_⟩
      by_cases hok : okB w.o now' = true
      · have e := told_ww (way := way) hok w0 hw
        rw [e]
        refine ite2 (fun _ => ⟨wstep w now' (wayW way), rfl, ?_⟩) fun h => absurd ww_ref h
        have := step_len (w := w) (m := now') (x := wayW way)
        omega
      · have e : toldW way w now' = .tup [.str "refused", .int 0] := by unfold toldW; rw [if_neg hok]
        rw [e]
        exact ite2 (fun h => absurd h (by rw [eqD_self]; decide)) fun _ => ⟨w, rfl, by omega⟩
    rintro δ ⟨w', rfl, hw'⟩
    generalize toldW way w now' = due
    obtain ⟨b, o, laps⟩ := w'
    have hlaps : laps.length ≤ 13 := by have : laps.length ≤ 4 + i := hw'; omega
    simp! only [Dl.dSeq]
    refine ⟨_, if_pos (by rw [List.length_map]; exact Nat.le_trans (show _ ≤ 14 by omega) (by decide)), ?_⟩
    refine dComp_at (rangeL 0 laps.length) (szF laps) (fun Q h => ?_) (fun d hd => ?_) ?_ ?_
    · simp! only [List.length_map]
      exact ⟨by omega, by omega, by rw [show (laps.length : Int).toNat = laps.length by omega]; exact h⟩
    · obtain ⟨j, rfl, hj⟩ := range_mem hd
      simp! only [Dl.dSeq]
      have e1 : atI (D.int 0 :: laps.map D.int) ((j : Int) + 1) = some (.int ((0 :: laps).getD (j + 1) 0)) := atI_ints (l := 0 :: laps) (j := j + 1) (by rw [List.length_cons]; omega)
      have e2 : atI (D.int 0 :: laps.map D.int) (j : Int) = some (.int ((0 :: laps).getD j 0)) := atI_ints (l := 0 :: laps) (j := j) (by rw [List.length_cons]; omega)
      rw [e1, e2]
      refine ⟨_, rfl, _, rfl, ?_⟩
      simp! only [szF, Int.toNat_natCast]
    · rw [sz_all, List.length_map, diffs_len]; exact Nat.le_trans hlaps (by decide)
    rw [sz_all]
    simp! only [Dl.dSeq]
    have hdl := diffs_len (l := laps)
    obtain ⟨lo, hlo⟩ : ∃ lo : Int, diffs laps ≠ [] → lo ∈ diffs laps ∧ ∀ x ∈ diffs laps, lo ≤ x := by
      by_cases h : diffs laps = []
      · exact ⟨0, fun z => absurd h z⟩
      · obtain ⟨lo, h1, h2⟩ := least h
        exact ⟨lo, fun _ => ⟨h1, h2⟩⟩
    refine dComp_at (rangeL 0 (diffs laps).length) (beF (diffs laps) lo) (fun Q h => ?_) (fun d hd => ?_) ?_ ?_
    · simp! only [List.length_map]
      exact ⟨by omega, by omega, by rw [show ((diffs laps).length : Int).toNat = (diffs laps).length by omega]; exact h⟩
    · obtain ⟨j, rfl, hj⟩ := range_mem hd
      simp! only [Dl.dSeq]
      rw [atI_ints hj]
      refine ⟨_, rfl, ?_⟩
      have hne : diffs laps ≠ [] := fun z => by rw [z] at hj; exact absurd hj (by simp)
      refine ⟨_, intsF_map _, hne, by omega, fun mm h1 h2 => ⟨okT rfl, ?_⟩⟩
      have em : mm = lo := Int.le_antisymm (h2 lo (hlo hne).1) ((hlo hne).2 mm h1)
      subst em
      rw [eqD_int_int]
      refine ite2 (fun c => ?_) fun c => ?_
      · exact if_pos (by simpa using c)
      · exact if_neg (by simpa using c)
    · refine Nat.le_trans (List.length_filterMap_le ..) ?_
      rw [show (rangeL 0 (diffs laps).length).length = (diffs laps).length by simp [rangeL], diffs_len]; exact Nat.le_trans hlaps (by decide)
    rw [be_all]
    simp! only [Dl.dSeq]
    refine ⟨b, o, laps, rfl, by omega, ok_lstI, neD ?_⟩
    suffices hh : ∀ lf : List Int, lf = ix (diffs laps) lo → okEq (.lst (lf.map D.int)) (.lst ((ix (diffs laps) lo).map D.int)) ∧ if eqD (.lst (lf.map D.int)) (.lst ((ix (diffs laps) lo).map D.int)) = false then Q (.bl false) else _ by
      refine ⟨b, o, laps, rfl, by omega, fun e => ?_, fun mm h1 h2 => ?_⟩
      · refine hh [] ?_
        subst e; rfl
      · have hne : diffs laps ≠ [] := fun z => by rw [z] at h1; exact absurd h1 (by simp)
        have em : mm = lo := Int.le_antisymm (h2 lo (hlo hne).1) ((hlo hne).2 mm h1)
        exact hh _ (by rw [em])
    rintro lf rfl
    refine ⟨ok_lstI, neD ?_⟩
    refine ⟨.inl ⟨by decide, by decide⟩, use_drawn hl (by omega) (by decide) fun sz sz0 sz1 => ?_⟩
    refine ⟨fun δ => δ = [.sh (scr ns), .sh (ww ⟨b, o, laps⟩), .sh (.int now'), .sh (ww (wrun ⟨0, none, []⟩ l)), .ow (l.map dd), .sh (.int m), .sh (.int (0 + (i : Int))), .sh (.int way), .sh due, .sh (.lst (D.int 0 :: laps.map D.int)), .sh (.lst ((diffs laps).map D.int)), .sh (.lst ((ix (diffs laps) lo).map D.int)), .sh (.int sz), .sh (oi (whenAt b o sz))], ?_, ?_⟩
    · cases o with
      | none => simp! only [oi_none, whenAt]
      | some s =>
        simp! only [oi_some, whenAt]
        refine ite2 (fun h => ?_) fun h => ?_
        · rw [if_neg (by omega)]; rfl
        · rw [if_pos (by omega)]; rfl
    · rintro δ rfl
      simp! only [Dl.dSeq]
      refine ⟨b, o, _, sz, rfl, ?_⟩
      refine ⟨by cases whenAt b o sz <;> exact okT rfl, neD ?_⟩
      refine ite2 (fun hw => ?_) fun _ => ?_
      · refine ⟨.inl ⟨by decide, by decide⟩, use_drawn hl (by omega) (by decide) fun y2 y0 y9 => ?_⟩
        have hd2 : DOk l (m + y2) := ⟨hd.up, fun x hx => by have := hd.le x hx; omega⟩
        have wk := wrun_ok hd2
        have hok : okB (wrun ⟨0, none, []⟩ l).o (m + y2) = true := by
          cases e : (wrun ⟨0, none, []⟩ l).o with
          | none => rfl
          | some s => have := wk.okAt s e; exact decide_eq_true this
        refine ⟨.int (m + y2), rfl, way, wrun ⟨0, none, []⟩ l, m + y2, rfl, ?_, ?_⟩
        · have := wrun_len (w := ⟨0, none, []⟩) (l := l)
          simp only [List.length_nil] at this
          omega
        have e1 : ww (wstep (wrun ⟨0, none, []⟩ l) (m + y2) (wayW way)) = ww (wrun ⟨0, none, []⟩ (l ++ [(m + y2, wayW way)])) := by rw [wrun_snoc]
        have e2 : l.map dd ++ [D.tup [D.int (m + y2), D.str (wdS (wayW way))]] = (l ++ [(m + y2, wayW way)]).map dd := by rw [List.map_append]; rfl
        rw [told_ww hok w0 hw, e1]
        refine ⟨_, word_at w0 hw, by rw [List.length_map]; exact Nat.lt_of_le_of_lt (show _ ≤ 10 by omega) (by decide), ?_⟩
        rw [e2]
        exact ⟨⟨b, o, laps⟩, now', l ++ [(m + y2, wayW way)], m + y2, _, _, _, _, _, _, _, _, rfl, by have : laps.length ≤ 4 + i := hw'; show laps.length ≤ _; omega, by omega, hd.snoc (by omega) (by omega), by omega, by rw [List.length_append, List.length_singleton]; omega⟩
      · exact ⟨⟨b, o, laps⟩, now', l, m, _, _, _, _, _, _, _, _, rfl, by have : laps.length ≤ 4 + i := hw'; show laps.length ≤ _; omega, by omega, hd, m0, by omega⟩
  · rintro δ ⟨w, now, l, m, s6, s7, s8, s9, s10, s11, s12, s13, rfl, hz, hi10, hd, m0, hll⟩
    simp! only [t_law_7]
    refine ⟨l, m, rfl, hd, by omega, ?_⟩
    simp! only [Dl.dSeq]
    refine ⟨okEqW, ?_⟩
    have e := eqD_self (ww (wrun ⟨0, none, []⟩ l))
    rw [show (D.bl true) = .bl (eqD (ww (wrun ⟨0, none, []⟩ l)) (ww (wrun ⟨0, none, []⟩ l))) by rw [e]] at q
    simp! only [Dl.dSeq] at q
    exact q
--E
end Law

namespace Law
open PySem L2 Dl
def top (i : Nat) : Stmt := PySem.Challenge.pw_latebells_k10_watches.main.body.getD i (.Pass ⟨0, 0, 0, 0⟩)
abbrev s_law_cell : Stmt := top 20
abbrev s_law_drawn : Stmt := top 21
abbrev s_law_watch : Stmt := top 22
abbrev s_fresh : Stmt := top 9
abbrev s_law_due : Stmt := top 25
abbrev s_refuse_early : Stmt := top 7
abbrev s_started : Stmt := top 11
abbrev s_shown : Stmt := top 10
abbrev s_halted : Stmt := top 12
abbrev s_lapped : Stmt := top 13
abbrev s_cleared : Stmt := top 14
abbrev s_law_told : Stmt := top 24
abbrev s_lap_sizes : Stmt := top 15
abbrev s_fastest : Stmt := top 16
abbrev s_when_shown : Stmt := top 17
abbrev s_played : Stmt := top 18
abbrev s_law_refused : Stmt := top 23
abbrev s_law : Stmt := top 26
theorem sc_law_cell : FnScope ["_law_script", "_law_k"] ["_law_script", "_law_k"] (defScope s_law_cell) := ⟨rfl, rfl, rfl, by decide +kernel, rfl, by decide +kernel, by decide +kernel⟩
theorem sc_law_drawn : FnScope ["_law_script", "_law_k", "_law_many", "_law_cell_here"] ["_law_script", "_law_k", "_law_many"] (defScope s_law_drawn) := ⟨rfl, rfl, rfl, by decide +kernel, rfl, by decide +kernel, by decide +kernel⟩
theorem sc_law_watch : FnScope ["_law_script", "_law_at", "_law_lap", "_law_laps", "_law_k", "_law_since"] ["_law_script", "_law_at"] (defScope s_law_watch) := ⟨rfl, rfl, rfl, by decide +kernel, rfl, by decide +kernel, by decide +kernel⟩
theorem sc_fresh : FnScope [] [] (defScope s_fresh) := ⟨rfl, rfl, rfl, by decide +kernel, rfl, by decide +kernel, by decide +kernel⟩
theorem sc_law_due : FnScope ["_law_way", "_law_watch_here", "_law_now", "_law_before", "_law_since", "_law_laps", "_law_ran"] ["_law_way", "_law_watch_here", "_law_now"] (defScope s_law_due) := ⟨rfl, rfl, rfl, by decide +kernel, rfl, by decide +kernel, by decide +kernel⟩
theorem sc_refuse_early : FnScope ["earlier", "now"] ["earlier", "now"] (defScope s_refuse_early) := ⟨rfl, rfl, rfl, by decide +kernel, rfl, by decide +kernel, by decide +kernel⟩
theorem sc_started : FnScope ["watch", "now"] ["watch", "now"] (defScope s_started) := ⟨rfl, rfl, rfl, by decide +kernel, rfl, by decide +kernel, by decide +kernel⟩
theorem sc_shown : FnScope ["watch", "now"] ["watch", "now"] (defScope s_shown) := ⟨rfl, rfl, rfl, by decide +kernel, rfl, by decide +kernel, by decide +kernel⟩
theorem sc_halted : FnScope ["watch", "now"] ["watch", "now"] (defScope s_halted) := ⟨rfl, rfl, rfl, by decide +kernel, rfl, by decide +kernel, by decide +kernel⟩
theorem sc_lapped : FnScope ["watch", "now"] ["watch", "now"] (defScope s_lapped) := ⟨rfl, rfl, rfl, by decide +kernel, rfl, by decide +kernel, by decide +kernel⟩
theorem sc_cleared : FnScope ["watch", "now"] ["watch", "now"] (defScope s_cleared) := ⟨rfl, rfl, rfl, by decide +kernel, rfl, by decide +kernel, by decide +kernel⟩
theorem sc_law_told : FnScope ["_law_way", "_law_watch_here", "_law_now", "_law_e"] ["_law_way", "_law_watch_here", "_law_now"] (defScope s_law_told) := ⟨rfl, rfl, rfl, by decide +kernel, rfl, by decide +kernel, by decide +kernel⟩
theorem sc_lap_sizes : FnScope ["watch", "laps"] ["watch"] (defScope s_lap_sizes) := ⟨rfl, rfl, rfl, by decide +kernel, rfl, by decide +kernel, by decide +kernel⟩
theorem sc_fastest : FnScope ["watch", "sizes", "least"] ["watch"] (defScope s_fastest) := ⟨rfl, rfl, rfl, by decide +kernel, rfl, by decide +kernel, by decide +kernel⟩
theorem sc_when_shown : FnScope ["watch", "size"] ["watch", "size"] (defScope s_when_shown) := ⟨rfl, rfl, rfl, by decide +kernel, rfl, by decide +kernel, by decide +kernel⟩
theorem sc_played : FnScope ["deeds", "watch", "laps", "moment", "word"] ["deeds"] (defScope s_played) := ⟨rfl, rfl, rfl, by decide +kernel, rfl, by decide +kernel, by decide +kernel⟩
theorem sc_law_refused : FnScope ["_law_e", "_law_flags"] ["_law_e"] (defScope s_law_refused) := ⟨rfl, rfl, rfl, by decide +kernel, rfl, by decide +kernel, by decide +kernel⟩
theorem sc_law : FnScope ["_law_script", "_law_watch_here", "_law_now", "_law_mine", "_law_deeds", "_law_moment", "_law_k", "_law_way", "_law_due_here", "_law_ends", "_law_sizes", "_law_best", "_law_size", "_law_due_at"] ["_law_script"] (defScope s_law) := ⟨rfl, rfl, rfl, by decide +kernel, rfl, by decide +kernel, by decide +kernel⟩
structure Ad where
  a_law_cell : Addr
  g_law_cell : FuncData
  a_law_drawn : Addr
  g_law_drawn : FuncData
  a_law_watch : Addr
  g_law_watch : FuncData
  a_fresh : Addr
  g_fresh : FuncData
  a_law_due : Addr
  g_law_due : FuncData
  a_refuse_early : Addr
  g_refuse_early : FuncData
  a_started : Addr
  g_started : FuncData
  a_shown : Addr
  g_shown : FuncData
  a_halted : Addr
  g_halted : FuncData
  a_lapped : Addr
  g_lapped : FuncData
  a_cleared : Addr
  g_cleared : FuncData
  a_law_told : Addr
  g_law_told : FuncData
  a_lap_sizes : Addr
  g_lap_sizes : FuncData
  a_fastest : Addr
  g_fastest : FuncData
  a_when_shown : Addr
  g_when_shown : FuncData
  a_played : Addr
  g_played : FuncData
  a_law_refused : Addr
  g_law_refused : FuncData
  a_law : Addr
  g_law : FuncData
  c_Early : Addr
  c_NoClock : Addr
  c_Asleep : Addr
  c_Awake : Addr
  c_RingError : Addr
structure Tx (K : PySem.W.Frag) (mg : Str → Option Value) (t : Ad) : Prop where
  u_law_cell : Fun K "_law_cell" "_law_cell" s_law_cell t.a_law_cell t.g_law_cell
  d_law_cell : Binds K t.g_law_cell ["_law_script", "_law_k"] []
  m_law_cell : mg "_law_cell" = some (.ref t.a_law_cell)
  u_law_drawn : Fun K "_law_drawn" "_law_drawn" s_law_drawn t.a_law_drawn t.g_law_drawn
  d_law_drawn : Binds K t.g_law_drawn ["_law_script", "_law_k", "_law_many"] []
  m_law_drawn : mg "_law_drawn" = some (.ref t.a_law_drawn)
  u_law_watch : Fun K "_law_watch" "_law_watch" s_law_watch t.a_law_watch t.g_law_watch
  d_law_watch : Binds K t.g_law_watch ["_law_script", "_law_at"] []
  m_law_watch : mg "_law_watch" = some (.ref t.a_law_watch)
  u_fresh : Fun K "fresh" "fresh" s_fresh t.a_fresh t.g_fresh
  d_fresh : Binds K t.g_fresh [] []
  m_fresh : mg "fresh" = some (.ref t.a_fresh)
  u_law_due : Fun K "_law_due" "_law_due" s_law_due t.a_law_due t.g_law_due
  d_law_due : Binds K t.g_law_due ["_law_way", "_law_watch_here", "_law_now"] []
  m_law_due : mg "_law_due" = some (.ref t.a_law_due)
  u_refuse_early : Fun K "refuse_early" "refuse_early" s_refuse_early t.a_refuse_early t.g_refuse_early
  d_refuse_early : Binds K t.g_refuse_early ["earlier", "now"] []
  m_refuse_early : mg "refuse_early" = some (.ref t.a_refuse_early)
  u_started : Fun K "started" "started" s_started t.a_started t.g_started
  d_started : Binds K t.g_started ["watch", "now"] []
  m_started : mg "started" = some (.ref t.a_started)
  u_shown : Fun K "shown" "shown" s_shown t.a_shown t.g_shown
  d_shown : Binds K t.g_shown ["watch", "now"] []
  m_shown : mg "shown" = some (.ref t.a_shown)
  u_halted : Fun K "halted" "halted" s_halted t.a_halted t.g_halted
  d_halted : Binds K t.g_halted ["watch", "now"] []
  m_halted : mg "halted" = some (.ref t.a_halted)
  u_lapped : Fun K "lapped" "lapped" s_lapped t.a_lapped t.g_lapped
  d_lapped : Binds K t.g_lapped ["watch", "now"] []
  m_lapped : mg "lapped" = some (.ref t.a_lapped)
  u_cleared : Fun K "cleared" "cleared" s_cleared t.a_cleared t.g_cleared
  d_cleared : Binds K t.g_cleared ["watch", "now"] []
  m_cleared : mg "cleared" = some (.ref t.a_cleared)
  u_law_told : Fun K "_law_told" "_law_told" s_law_told t.a_law_told t.g_law_told
  d_law_told : Binds K t.g_law_told ["_law_way", "_law_watch_here", "_law_now"] []
  m_law_told : mg "_law_told" = some (.ref t.a_law_told)
  u_lap_sizes : Fun K "lap_sizes" "lap_sizes" s_lap_sizes t.a_lap_sizes t.g_lap_sizes
  d_lap_sizes : Binds K t.g_lap_sizes ["watch"] []
  m_lap_sizes : mg "lap_sizes" = some (.ref t.a_lap_sizes)
  u_fastest : Fun K "fastest" "fastest" s_fastest t.a_fastest t.g_fastest
  d_fastest : Binds K t.g_fastest ["watch"] []
  m_fastest : mg "fastest" = some (.ref t.a_fastest)
  u_when_shown : Fun K "when_shown" "when_shown" s_when_shown t.a_when_shown t.g_when_shown
  d_when_shown : Binds K t.g_when_shown ["watch", "size"] []
  m_when_shown : mg "when_shown" = some (.ref t.a_when_shown)
  u_played : Fun K "played" "played" s_played t.a_played t.g_played
  d_played : Binds K t.g_played ["deeds"] []
  m_played : mg "played" = some (.ref t.a_played)
  u_law_refused : Fun K "_law_refused" "_law_refused" s_law_refused t.a_law_refused t.g_law_refused
  d_law_refused : Binds K t.g_law_refused ["_law_e"] []
  m_law_refused : mg "_law_refused" = some (.ref t.a_law_refused)
  u_law : Fun K "law" "law" s_law t.a_law t.g_law
  d_law : Binds K t.g_law ["_law_script"] []
  m_law : mg "law" = some (.ref t.a_law)
  b_ValueError : mg "ValueError" = none
  b_enumerate : mg "enumerate" = none
  b_int : mg "int" = none
  b_isinstance : mg "isinstance" = none
  b_len : mg "len" = none
  b_list : mg "list" = none
  b_max : mg "max" = none
  b_min : mg "min" = none
  b_range : mg "range" = none
  b_tuple : mg "tuple" = none
  b_zip : mg "zip" = none
  e_Early : mg "Early" = some (.ref t.c_Early)
  e_NoClock : mg "NoClock" = some (.ref t.c_NoClock)
  e_Asleep : mg "Asleep" = some (.ref t.c_Asleep)
  e_Awake : mg "Awake" = some (.ref t.c_Awake)
  e_RingError : mg "RingError" = some (.ref t.c_RingError)
  xC : ExcC K t.c_Early
  k_ValueError : PySem.W.kitOne K (.ref t.c_Early) (.type "ValueError") = some true
  k_Early : PySem.W.kitOne K (.ref t.c_Early) (.ref t.c_Early) = some true
  k_NoClock : PySem.W.kitOne K (.ref t.c_Early) (.ref t.c_NoClock) = some false
  k_Asleep : PySem.W.kitOne K (.ref t.c_Early) (.ref t.c_Asleep) = some false
  k_Awake : PySem.W.kitOne K (.ref t.c_Early) (.ref t.c_Awake) = some false
  q_Early : PySem.W.excIn K t.c_Early [.type "ValueError", .type "Exception", .type "BaseException", .type "object"] "ValueError.__new__" = true
  q_RingError : PySem.W.excIn K t.c_RingError [.type "ValueError", .type "Exception", .type "BaseException", .type "object"] "ValueError.__new__" = true
  n_Early : PySem.W.nsIn K mainGlobals "Early" = some (some (.ref t.c_Early))
  n_RingError : PySem.W.nsIn K mainGlobals "RingError" = some (some (.ref t.c_RingError))
  mr : PySem.W.mroIn K t.c_Early (.ref t.c_RingError) = some true
  nr : t.c_Early ≠ t.c_RingError
section
variable {P : Program} {w : World} {K : PySem.W.Frag} {mg : Str → Option Value} {base : Heap} {t : Ad}
set_option maxHeartbeats 4000000 in
theorem rk_refuse_early (T : Tx K mg t) (KB : K.In base) (NB : base.Ns mainGlobals mg)   : FnOk P w K mg base (CXE P w) 1 t.a_refuse_early t.g_refuse_early ["earlier", "now"] (spR K t.c_Early SR_refuse_early) := by
  have OE := own_in KB NB T.n_Early T.q_Early
  refine fnR (k := 0) T.u_refuse_early sc_refuse_early lr_refuse_early fun cdv A outer s H E n hr W WM => ⟨q_refuse_early, ?_, rr_refuse_early⟩
  have nd := (sc_refuse_early).nd
  exact (rss_here (rs_if (dt_w (dw_and (dt_isnot (dv 0) de_non) (dw_and1 (dt_lt (dv 1) (dv 0))))) (rss_here (rs_raise WM rfl OE PySem.F.excBase_ValueError rfl rfl rfl)) rss_no))
set_option maxHeartbeats 4000000 in
theorem rk_started (T : Tx K mg t) (KB : K.In base) (NB : base.Ns mainGlobals mg) (G_refuse_early : FnOk P w K mg base CX0 1 t.a_refuse_early t.g_refuse_early ["earlier", "now"] (spOf K S_refuse_early)) (R_refuse_early : FnOk P w K mg base (CXE P w) 1 t.a_refuse_early t.g_refuse_early ["earlier", "now"] (spR K t.c_Early SR_refuse_early)) : FnOk P w K mg base (CXE P w) 2 t.a_started t.g_started ["watch", "now"] (spR K t.c_Early SR_started) := by
  have OE := own_in KB NB T.n_Early T.q_Early
  refine fnR (k := 1) T.u_started sc_started lr_started fun cdv A outer s H E n hr W WM => ⟨q_started, ?_, rr_started⟩
  have nd := (sc_started).nd
  exact (rss_here (rs_expr (re_call W R_refuse_early (hr.mono (by decide)) T.m_refuse_early T.u_refuse_early.kp T.d_refuse_early (da_cons (de_ixF (dv 0) de_int) (da_cons (dv 1) da_nil)))))
set_option maxHeartbeats 4000000 in
theorem rk_shown (T : Tx K mg t) (KB : K.In base) (NB : base.Ns mainGlobals mg) (G_refuse_early : FnOk P w K mg base CX0 1 t.a_refuse_early t.g_refuse_early ["earlier", "now"] (spOf K S_refuse_early)) (R_refuse_early : FnOk P w K mg base (CXE P w) 1 t.a_refuse_early t.g_refuse_early ["earlier", "now"] (spR K t.c_Early SR_refuse_early)) : FnOk P w K mg base (CXE P w) 2 t.a_shown t.g_shown ["watch", "now"] (spR K t.c_Early SR_shown) := by
  have OE := own_in KB NB T.n_Early T.q_Early
  refine fnR (k := 1) T.u_shown sc_shown lr_shown fun cdv A outer s H E n hr W WM => ⟨q_shown, ?_, rr_shown⟩
  have nd := (sc_shown).nd
  exact (rss_here (rs_expr (re_call W R_refuse_early (hr.mono (by decide)) T.m_refuse_early T.u_refuse_early.kp T.d_refuse_early (da_cons (de_ixF (dv 0) de_int) (da_cons (dv 1) da_nil)))))
set_option maxHeartbeats 4000000 in
theorem rk_halted (T : Tx K mg t) (KB : K.In base) (NB : base.Ns mainGlobals mg) (G_shown : FnOk P w K mg base CX0 2 t.a_shown t.g_shown ["watch", "now"] (spOf K S_shown)) (R_shown : FnOk P w K mg base (CXE P w) 2 t.a_shown t.g_shown ["watch", "now"] (spR K t.c_Early SR_shown)) : FnOk P w K mg base (CXE P w) 3 t.a_halted t.g_halted ["watch", "now"] (spR K t.c_Early SR_halted) := by
  have OE := own_in KB NB T.n_Early T.q_Early
  refine fnR (k := 2) T.u_halted sc_halted lr_halted fun cdv A outer s H E n hr W WM => ⟨q_halted, ?_, rr_halted⟩
  have nd := (sc_halted).nd
  exact (rss_here (rs_ret (re_tup (ra_here (re_call W R_shown (hr.mono (by decide)) T.m_shown T.u_shown.kp T.d_shown (da_cons (dv 0) (da_cons (dv 1) da_nil)))))))
set_option maxHeartbeats 4000000 in
theorem rk_lapped (T : Tx K mg t) (KB : K.In base) (NB : base.Ns mainGlobals mg) (G_shown : FnOk P w K mg base CX0 2 t.a_shown t.g_shown ["watch", "now"] (spOf K S_shown)) (R_shown : FnOk P w K mg base (CXE P w) 2 t.a_shown t.g_shown ["watch", "now"] (spR K t.c_Early SR_shown)) : FnOk P w K mg base (CXE P w) 3 t.a_lapped t.g_lapped ["watch", "now"] (spR K t.c_Early SR_lapped) := by
  have OE := own_in KB NB T.n_Early T.q_Early
  refine fnR (k := 2) T.u_lapped sc_lapped lr_lapped fun cdv A outer s H E n hr W WM => ⟨q_lapped, ?_, rr_lapped⟩
  have nd := (sc_lapped).nd
  exact (rss_here (rs_ret (re_tup (ra_later (de_ixF (dv 0) de_int) (ra_later (de_ixF (dv 0) de_int) (ra_here (re_binR (de_ixF (dv 0) de_int) (re_tup (ra_here (re_call W R_shown (hr.mono (by decide)) T.m_shown T.u_shown.kp T.d_shown (da_cons (dv 0) (da_cons (dv 1) da_nil))))))))))))
set_option maxHeartbeats 4000000 in
theorem rk_cleared (T : Tx K mg t) (KB : K.In base) (NB : base.Ns mainGlobals mg) (G_refuse_early : FnOk P w K mg base CX0 1 t.a_refuse_early t.g_refuse_early ["earlier", "now"] (spOf K S_refuse_early)) (R_refuse_early : FnOk P w K mg base (CXE P w) 1 t.a_refuse_early t.g_refuse_early ["earlier", "now"] (spR K t.c_Early SR_refuse_early)) : FnOk P w K mg base (CXE P w) 2 t.a_cleared t.g_cleared ["watch", "now"] (spR K t.c_Early SR_cleared) := by
  have OE := own_in KB NB T.n_Early T.q_Early
  refine fnR (k := 1) T.u_cleared sc_cleared lr_cleared fun cdv A outer s H E n hr W WM => ⟨q_cleared, ?_, rr_cleared⟩
  have nd := (sc_cleared).nd
  exact (rss_here (rs_expr (re_call W R_refuse_early (hr.mono (by decide)) T.m_refuse_early T.u_refuse_early.kp T.d_refuse_early (da_cons (de_ixF (dv 0) de_int) (da_cons (dv 1) da_nil)))))
set_option maxHeartbeats 4000000 in
theorem ok_law_cell (T : Tx K mg t)  : FnOk P w K mg base CX0 1 t.a_law_cell t.g_law_cell ["_law_script", "_law_k"] (spOf K S_law_cell) := by
  refine fnD (k := 0) T.u_law_cell sc_law_cell l_law_cell fun cdv A outer s H E hr => ⟨t_law_cell, ?_, r_law_cell⟩
  have nd := (sc_law_cell).nd
  exact (dss_cons (ds_if (dt_eq hr.units (dv 0) (de_lst da_nil)) (dss_one (ds_ret (de_mul de_int (dv 1)))) dss_nil) (dss_one (ds_ret (de_addF (de_ixF (dv 0) (de_mod (dv 1) (de_lenF T.b_len (da_cons (dv 0) da_nil)))) (de_mul de_int (de_fdiv (dv 1) (de_lenF T.b_len (da_cons (dv 0) da_nil))))))))
set_option maxHeartbeats 4000000 in
theorem ok_law_drawn (T : Tx K mg t) (G_law_cell : FnOk P w K mg base CX0 1 t.a_law_cell t.g_law_cell ["_law_script", "_law_k"] (spOf K S_law_cell)) : FnOk P w K mg base CX0 2 t.a_law_drawn t.g_law_drawn ["_law_script", "_law_k", "_law_many"] (spOf K S_law_drawn) := by
  refine fnD (k := 1) T.u_law_drawn sc_law_drawn l_law_drawn fun cdv A outer s H E hr => ⟨t_law_drawn, ?_, r_law_drawn⟩
  have nd := (sc_law_drawn).nd
  exact (dss_cons (ds_set 3 nd (de_mod (de_addF (de_mul (de_mod (de_call G_law_cell (hr.mono (by decide)) T.m_law_cell T.u_law_cell.kp T.d_law_cell (da_cons (dv 0) (da_cons (dv 1) da_nil))) de_int) de_int) (de_mul de_int (de_addF (dv 1) de_int))) de_int)) (dss_cons (ds_set 3 nd (de_mod (de_addF (de_mul (dv 3) (dv 3)) (de_fdiv (dv 3) de_int)) de_int)) (dss_one (ds_ret (de_mod (de_fdiv (de_mod (de_addF (de_mul (dv 3) (dv 3)) (de_fdiv (dv 3) de_int)) de_int) de_int) (dv 2))))))
set_option maxHeartbeats 4000000 in
theorem ok_law_watch (T : Tx K mg t) (G_law_drawn : FnOk P w K mg base CX0 2 t.a_law_drawn t.g_law_drawn ["_law_script", "_law_k", "_law_many"] (spOf K S_law_drawn)) : FnOk P w K mg base CX0 3 t.a_law_watch t.g_law_watch ["_law_script", "_law_at"] (spOf K S_law_watch) := by
  refine fnD (k := 2) T.u_law_watch sc_law_watch l_law_watch fun cdv A outer s H E hr => ⟨t_law_watch, ?_, r_law_watch⟩
  have nd := (sc_law_watch).nd
  exact (dss_cons (ds_set 2 nd de_int) (dss_cons (ds_own 3 nd da_nil) (dss_cons (ds_for PassesOwn.never rfl (di_range1 T.b_range (da_cons (de_call G_law_drawn (hr.mono (by decide)) T.m_law_drawn T.u_law_drawn.kp T.d_law_drawn (da_cons (dv 0) (da_cons (dv 1) (da_cons de_int da_nil)))) da_nil)) (dg_name 4 nd) (dss_cons (ds_set 2 nd (de_addF (dv 2) (de_call G_law_drawn (hr.mono (by decide)) T.m_law_drawn T.u_law_drawn.kp T.d_law_drawn (da_cons (dv 0) (da_cons (de_addF (de_addF (dv 1) de_int) (dv 4)) (da_cons de_int da_nil)))))) (dss_one (ds_append 3 (dv 2))))) (dss_frz 3 (dss_cons (ds_set 5 nd (de_ixF (de_lst (da_cons de_non (da_cons (de_call G_law_drawn (hr.mono (by decide)) T.m_law_drawn T.u_law_drawn.kp T.d_law_drawn (da_cons (dv 0) (da_cons (de_addF (dv 1) de_int) (da_cons de_int da_nil)))) da_nil))) (de_call G_law_drawn (hr.mono (by decide)) T.m_law_drawn T.u_law_drawn.kp T.d_law_drawn (da_cons (dv 0) (da_cons (de_addF (dv 1) de_int) (da_cons de_int da_nil)))))) (dss_one (ds_ret (de_tup (da_cons (de_addF (dv 2) (de_call G_law_drawn (hr.mono (by decide)) T.m_law_drawn T.u_law_drawn.kp T.d_law_drawn (da_cons (dv 0) (da_cons (de_addF (dv 1) de_int) (da_cons de_int da_nil))))) (da_cons (dv 5) (da_cons (de_tupleF T.b_tuple (da_cons (dv 3) da_nil)) da_nil)))))))))))
set_option maxHeartbeats 4000000 in
theorem ok_fresh (T : Tx K mg t)  : FnOk P w K mg base CX0 1 t.a_fresh t.g_fresh [] (spOf K S_fresh) := by
  refine fnD (k := 0) T.u_fresh sc_fresh l_fresh fun cdv A outer s H E hr => ⟨t_fresh, ?_, r_fresh⟩
  have nd := (sc_fresh).nd
  exact (dss_one (ds_ret (de_tup (da_cons de_int (da_cons de_non (da_cons (de_tup da_nil) da_nil))))))
set_option maxHeartbeats 4000000 in
theorem ok_law_due (T : Tx K mg t)  : FnOk P w K mg base CX0 1 t.a_law_due t.g_law_due ["_law_way", "_law_watch_here", "_law_now"] (spOf K S_law_due) := by
  refine fnD (k := 0) T.u_law_due sc_law_due l_law_due fun cdv A outer s H E hr => ⟨t_law_due, ?_, r_law_due⟩
  have nd := (sc_law_due).nd
  exact (dss_cons (ds_asg (dv 1) (dg_tup3 3 4 5 rfl nd)) (dss_cons (ds_if (dt_w (dw_and (dt_isnot (dv 4) de_non) (dw_and1 (dt_lt (dv 2) (dv 4))))) (dss_one (ds_ret (de_tup (da_cons de_str (da_cons de_int da_nil))))) dss_nil) (dss_cons (ds_set 6 nd (de_addF (dv 3) (de_if (dt_is (dv 4) de_non) de_int (de_sub (dv 2) (dv 4))))) (dss_cons (ds_if (dt_eq hr.units (dv 0) de_int) (dss_one (ds_ret (de_if (dt_isnot (dv 4) de_non) (dv 1) (de_tup (da_cons (dv 3) (da_cons (dv 2) (da_cons (dv 5) da_nil))))))) dss_nil) (dss_cons (ds_if (dt_eq hr.units (dv 0) de_int) (dss_one (ds_ret (de_tup (da_cons (dv 6) (da_cons de_non (da_cons (dv 5) da_nil)))))) dss_nil) (dss_cons (ds_if (dt_eq hr.units (dv 0) de_int) (dss_one (ds_ret (de_tup (da_cons (dv 3) (da_cons (dv 4) (da_cons (de_addF (dv 5) (de_tup (da_cons (dv 6) da_nil))) da_nil)))))) dss_nil) (dss_one (ds_ret (de_if (dt_eq hr.units (dv 0) de_int) (de_tup (da_cons de_int (da_cons (de_ixF (de_lst (da_cons de_non (da_cons (dv 2) da_nil))) (de_intF T.b_int (da_cons (de_isnot (dv 4) de_non) da_nil))) (da_cons (de_tup da_nil) da_nil)))) (dv 6))))))))))
set_option maxHeartbeats 4000000 in
theorem ok_refuse_early (T : Tx K mg t)  : FnOk P w K mg base CX0 1 t.a_refuse_early t.g_refuse_early ["earlier", "now"] (spOf K S_refuse_early) := by
  refine fnD (k := 0) T.u_refuse_early sc_refuse_early l_refuse_early fun cdv A outer s H E hr => ⟨t_refuse_early, ?_, r_refuse_early⟩
  have nd := (sc_refuse_early).nd
  exact (dss_one (ds_if (dt_w (dw_and (dt_isnot (dv 0) de_non) (dw_and1 (dt_lt (dv 1) (dv 0))))) (dss_one ds_never) dss_nil))
set_option maxHeartbeats 4000000 in
theorem ok_started (T : Tx K mg t) (G_refuse_early : FnOk P w K mg base CX0 1 t.a_refuse_early t.g_refuse_early ["earlier", "now"] (spOf K S_refuse_early)) : FnOk P w K mg base CX0 2 t.a_started t.g_started ["watch", "now"] (spOf K S_started) := by
  refine fnD (k := 1) T.u_started sc_started l_started fun cdv A outer s H E hr => ⟨t_started, ?_, r_started⟩
  have nd := (sc_started).nd
  exact (dss_cons (ds_expr (de_call G_refuse_early (hr.mono (by decide)) T.m_refuse_early T.u_refuse_early.kp T.d_refuse_early (da_cons (de_ixF (dv 0) de_int) (da_cons (dv 1) da_nil)))) (dss_cons (ds_if (dt_isnot (de_ixF (dv 0) de_int) de_non) (dss_one (ds_ret (dv 0))) dss_nil) (dss_one (ds_ret (de_tup (da_cons (de_ixF (dv 0) de_int) (da_cons (dv 1) (da_cons (de_ixF (dv 0) de_int) da_nil))))))))
set_option maxHeartbeats 4000000 in
theorem ok_shown (T : Tx K mg t) (G_refuse_early : FnOk P w K mg base CX0 1 t.a_refuse_early t.g_refuse_early ["earlier", "now"] (spOf K S_refuse_early)) : FnOk P w K mg base CX0 2 t.a_shown t.g_shown ["watch", "now"] (spOf K S_shown) := by
  refine fnD (k := 1) T.u_shown sc_shown l_shown fun cdv A outer s H E hr => ⟨t_shown, ?_, r_shown⟩
  have nd := (sc_shown).nd
  exact (dss_cons (ds_expr (de_call G_refuse_early (hr.mono (by decide)) T.m_refuse_early T.u_refuse_early.kp T.d_refuse_early (da_cons (de_ixF (dv 0) de_int) (da_cons (dv 1) da_nil)))) (dss_cons (ds_if (dt_is (de_ixF (dv 0) de_int) de_non) (dss_one (ds_ret (de_ixF (dv 0) de_int))) dss_nil) (dss_one (ds_ret (de_sub (de_addF (de_ixF (dv 0) de_int) (dv 1)) (de_ixF (dv 0) de_int))))))
set_option maxHeartbeats 4000000 in
theorem ok_halted (T : Tx K mg t) (G_shown : FnOk P w K mg base CX0 2 t.a_shown t.g_shown ["watch", "now"] (spOf K S_shown)) : FnOk P w K mg base CX0 3 t.a_halted t.g_halted ["watch", "now"] (spOf K S_halted) := by
  refine fnD (k := 2) T.u_halted sc_halted l_halted fun cdv A outer s H E hr => ⟨t_halted, ?_, r_halted⟩
  have nd := (sc_halted).nd
  exact (dss_one (ds_ret (de_tup (da_cons (de_call G_shown (hr.mono (by decide)) T.m_shown T.u_shown.kp T.d_shown (da_cons (dv 0) (da_cons (dv 1) da_nil))) (da_cons de_non (da_cons (de_ixF (dv 0) de_int) da_nil))))))
set_option maxHeartbeats 4000000 in
theorem ok_lapped (T : Tx K mg t) (G_shown : FnOk P w K mg base CX0 2 t.a_shown t.g_shown ["watch", "now"] (spOf K S_shown)) : FnOk P w K mg base CX0 3 t.a_lapped t.g_lapped ["watch", "now"] (spOf K S_lapped) := by
  refine fnD (k := 2) T.u_lapped sc_lapped l_lapped fun cdv A outer s H E hr => ⟨t_lapped, ?_, r_lapped⟩
  have nd := (sc_lapped).nd
  exact (dss_one (ds_ret (de_tup (da_cons (de_ixF (dv 0) de_int) (da_cons (de_ixF (dv 0) de_int) (da_cons (de_addF (de_ixF (dv 0) de_int) (de_tup (da_cons (de_call G_shown (hr.mono (by decide)) T.m_shown T.u_shown.kp T.d_shown (da_cons (dv 0) (da_cons (dv 1) da_nil))) da_nil))) da_nil))))))
set_option maxHeartbeats 4000000 in
theorem ok_cleared (T : Tx K mg t) (G_refuse_early : FnOk P w K mg base CX0 1 t.a_refuse_early t.g_refuse_early ["earlier", "now"] (spOf K S_refuse_early)) : FnOk P w K mg base CX0 2 t.a_cleared t.g_cleared ["watch", "now"] (spOf K S_cleared) := by
  refine fnD (k := 1) T.u_cleared sc_cleared l_cleared fun cdv A outer s H E hr => ⟨t_cleared, ?_, r_cleared⟩
  have nd := (sc_cleared).nd
  exact (dss_cons (ds_expr (de_call G_refuse_early (hr.mono (by decide)) T.m_refuse_early T.u_refuse_early.kp T.d_refuse_early (da_cons (de_ixF (dv 0) de_int) (da_cons (dv 1) da_nil)))) (dss_one (ds_ret (de_tup (da_cons de_int (da_cons (de_if (dt_is (de_ixF (dv 0) de_int) de_non) de_non (dv 1)) (da_cons (de_tup da_nil) da_nil)))))))
set_option maxHeartbeats 4000000 in
theorem ok_law_told (T : Tx K mg t) (KB : K.In base) (NB : base.Ns mainGlobals mg) (G_started : FnOk P w K mg base CX0 2 t.a_started t.g_started ["watch", "now"] (spOf K S_started)) (G_halted : FnOk P w K mg base CX0 3 t.a_halted t.g_halted ["watch", "now"] (spOf K S_halted)) (G_lapped : FnOk P w K mg base CX0 3 t.a_lapped t.g_lapped ["watch", "now"] (spOf K S_lapped)) (G_cleared : FnOk P w K mg base CX0 2 t.a_cleared t.g_cleared ["watch", "now"] (spOf K S_cleared)) (G_shown : FnOk P w K mg base CX0 2 t.a_shown t.g_shown ["watch", "now"] (spOf K S_shown)) (R_started : FnOk P w K mg base (CXE P w) 2 t.a_started t.g_started ["watch", "now"] (spR K t.c_Early SR_started)) (R_halted : FnOk P w K mg base (CXE P w) 3 t.a_halted t.g_halted ["watch", "now"] (spR K t.c_Early SR_halted)) (R_lapped : FnOk P w K mg base (CXE P w) 3 t.a_lapped t.g_lapped ["watch", "now"] (spR K t.c_Early SR_lapped)) (R_cleared : FnOk P w K mg base (CXE P w) 2 t.a_cleared t.g_cleared ["watch", "now"] (spR K t.c_Early SR_cleared)) (R_shown : FnOk P w K mg base (CXE P w) 2 t.a_shown t.g_shown ["watch", "now"] (spR K t.c_Early SR_shown)) : FnOk P w K mg base CX0 4 t.a_law_told t.g_law_told ["_law_way", "_law_watch_here", "_law_now"] (spOf K S_law_told) := by
  refine fnD (k := 3) T.u_law_told sc_law_told l_law_told fun cdv A outer s H E hr => ⟨t_law_told, ?_, r_law_told⟩
  have nd := (sc_law_told).nd
  have BB : Base2 (cxOf CX0 P w K mg base ["_law_way", "_law_watch_here", "_law_now", "_law_e"] "_law_told" (defScope s_law_told) t.a_law_told cdv A outer s H E) t.c_Early t.c_RingError "RingError" := ⟨⟨_, _, own_in KB NB T.n_RingError T.q_RingError, by decide⟩, base_in KB T.q_Early T.mr T.nr⟩
  exact (dss_one (ds_try (i := 3) rfl rfl BB (dss_cons (ds_if (dt_eq hr.units (dv 0) de_int) (dss_one (ds_ret (de_call G_started (hr.mono (by decide)) T.m_started T.u_started.kp T.d_started (da_cons (dv 1) (da_cons (dv 2) da_nil))))) dss_nil) (dss_cons (ds_if (dt_eq hr.units (dv 0) de_int) (dss_one (ds_ret (de_call G_halted (hr.mono (by decide)) T.m_halted T.u_halted.kp T.d_halted (da_cons (dv 1) (da_cons (dv 2) da_nil))))) dss_nil) (dss_cons (ds_if (dt_eq hr.units (dv 0) de_int) (dss_one (ds_ret (de_call G_lapped (hr.mono (by decide)) T.m_lapped T.u_lapped.kp T.d_lapped (da_cons (dv 1) (da_cons (dv 2) da_nil))))) dss_nil) (dss_one (ds_ret (de_if (dt_eq hr.units (dv 0) de_int) (de_call G_cleared (hr.mono (by decide)) T.m_cleared T.u_cleared.kp T.d_cleared (da_cons (dv 1) (da_cons (dv 2) da_nil))) (de_call G_shown (hr.mono (by decide)) T.m_shown T.u_shown.kp T.d_shown (da_cons (dv 1) (da_cons (dv 2) da_nil))))))))) (fun n pn xe W => (rss_if (dt_eq hr.units (dv 0) de_int) (rss_here (rs_ret (re_call W R_started (hr.mono (by decide)) T.m_started T.u_started.kp T.d_started (da_cons (dv 1) (da_cons (dv 2) da_nil))))) (rss_if (dt_eq hr.units (dv 0) de_int) (rss_here (rs_ret (re_call W R_halted (hr.mono (by decide)) T.m_halted T.u_halted.kp T.d_halted (da_cons (dv 1) (da_cons (dv 2) da_nil))))) (rss_if (dt_eq hr.units (dv 0) de_int) (rss_here (rs_ret (re_call W R_lapped (hr.mono (by decide)) T.m_lapped T.u_lapped.kp T.d_lapped (da_cons (dv 1) (da_cons (dv 2) da_nil))))) (rss_here (rs_ret (re_if (dt_eq hr.units (dv 0) de_int) (re_call W R_cleared (hr.mono (by decide)) T.m_cleared T.u_cleared.kp T.d_cleared (da_cons (dv 1) (da_cons (dv 2) da_nil))) (re_call W R_shown (hr.mono (by decide)) T.m_shown T.u_shown.kp T.d_shown (da_cons (dv 1) (da_cons (dv 2) da_nil)))))))))) (suite_ok (i := 3) T.u_law_refused sc_law_refused rfl hr rfl rfl T.d_law_refused T.m_law_refused (fun ea oe cdv2 s2 H2 hcls => ⟨t_law_refused ea, (by exact (dss_cons (ds_set 1 (show List.Nodup (α := Str) ["_law_e", "_law_flags"] by decide +kernel) (de_lst (da_cons (de_isE (c := .ref t.c_Early) (cv := .ref t.c_Early) 0 List.mem_cons_self hcls T.xC rfl (fun _ h => h) T.k_Early (pe_glob (v := .ref t.c_Early) rfl T.e_Early rfl) T.b_isinstance) (da_cons (de_isE (c := .ref t.c_NoClock) (cv := .ref t.c_NoClock) 0 List.mem_cons_self hcls T.xC rfl (fun _ h => h) T.k_NoClock (pe_glob (v := .ref t.c_NoClock) rfl T.e_NoClock rfl) T.b_isinstance) (da_cons (de_isE (c := .ref t.c_Asleep) (cv := .ref t.c_Asleep) 0 List.mem_cons_self hcls T.xC rfl (fun _ h => h) T.k_Asleep (pe_glob (v := .ref t.c_Asleep) rfl T.e_Asleep rfl) T.b_isinstance) da_nil))))) (dss_cons (ds_set 1 (show List.Nodup (α := Str) ["_law_e", "_law_flags"] by decide +kernel) (de_addF (dv 1) (de_lst (da_cons (de_isE (c := .ref t.c_Awake) (cv := .ref t.c_Awake) 0 List.mem_cons_self hcls T.xC rfl (fun _ h => h) T.k_Awake (pe_glob (v := .ref t.c_Awake) rfl T.e_Awake rfl) T.b_isinstance) da_nil)))) (dss_cons (ds_if (dt_w (dw_or (dt_ne (by have z := units3 hr; exact z) (de_cnt (dv 1)) de_int) (dw_or1 (dt_not (dt_truF (de_isE (c := .type "ValueError") (cv := .ty "ValueError") 0 List.mem_cons_self hcls T.xC rfl (fun _ h => h) T.k_ValueError (pe_bltn (v := .ty "ValueError") rfl T.b_ValueError rfl rfl) T.b_isinstance)))))) (dss_one ds_never) dss_nil) (dss_one (ds_ret (de_tup (da_cons de_str (da_cons (de_fst (dv 1)) da_nil))))))))), rf_law_refused ea⟩) rfl (Or.inl rfl) rfl) nd rfl rfl rfl rfl))
set_option maxHeartbeats 4000000 in
theorem ok_lap_sizes (T : Tx K mg t)  : FnOk P w K mg base CX0 1 t.a_lap_sizes t.g_lap_sizes ["watch"] (spOf K S_lap_sizes) := by
  refine fnD (k := 0) T.u_lap_sizes sc_lap_sizes l_lap_sizes fun cdv A outer s H E hr => ⟨t_lap_sizes, ?_, r_lap_sizes⟩
  have nd := (sc_lap_sizes).nd
  exact (dss_cons (ds_set 1 nd (de_ixF (dv 0) de_int)) (dss_one (ds_ret (de_compK ["watch", "laps", "lap", "ahead"] 2 rfl (di_zip T.b_zip (da_cons (dv 1) (da_cons (de_addF (de_tup (da_cons de_int da_nil)) (dv 1)) da_nil))) (fun cl C ex s H => ⟨(dg_tup2 2 3 rfl (show List.Nodup (α := Str) ["watch", "laps", "lap", "ahead"] by decide +kernel)), dts_nil, (de_sub (dv 2) (dv 3))⟩) (by show compOk ["watch", "laps"] (defScope s_lap_sizes) ["watch", "laps", "lap", "ahead"] _ 2 = true; decide +kernel) (by intro _; rfl)))))
set_option maxHeartbeats 4000000 in
theorem ok_fastest (T : Tx K mg t) (G_lap_sizes : FnOk P w K mg base CX0 1 t.a_lap_sizes t.g_lap_sizes ["watch"] (spOf K S_lap_sizes)) : FnOk P w K mg base CX0 2 t.a_fastest t.g_fastest ["watch"] (spOf K S_fastest) := by
  refine fnD (k := 1) T.u_fastest sc_fastest l_fastest fun cdv A outer s H E hr => ⟨t_fastest, ?_, r_fastest⟩
  have nd := (sc_fastest).nd
  exact (dss_cons (ds_set 1 nd (de_call G_lap_sizes (hr.mono (by decide)) T.m_lap_sizes T.u_lap_sizes.kp T.d_lap_sizes (da_cons (dv 0) da_nil))) (dss_cons (ds_set 2 nd (de_minD rfl T.b_min (dv 1))) (dss_one (ds_ret (de_compK ["watch", "sizes", "least", "number", "size"] 2 rfl (di_enum T.b_enumerate (da_cons (dv 1) da_nil)) (fun cl C ex s H => ⟨(dg_tup2 3 4 rfl (show List.Nodup (α := Str) ["watch", "sizes", "least", "number", "size"] by decide +kernel)), (dts_one (dt_eq (by exact hr.units) (dv 4) (dv 2))), (dv 3)⟩) (by show compOk ["watch", "sizes", "least"] (defScope s_fastest) ["watch", "sizes", "least", "number", "size"] _ 2 = true; decide +kernel) (by intro _; rfl))))))
set_option maxHeartbeats 4000000 in
theorem ok_when_shown (T : Tx K mg t)  : FnOk P w K mg base CX0 1 t.a_when_shown t.g_when_shown ["watch", "size"] (spOf K S_when_shown) := by
  refine fnD (k := 0) T.u_when_shown sc_when_shown l_when_shown fun cdv A outer s H E hr => ⟨t_when_shown, ?_, r_when_shown⟩
  have nd := (sc_when_shown).nd
  exact (dss_cons (ds_if (dt_w (dw_or (dt_is (de_ixF (dv 0) de_int) de_non) (dw_or1 (dt_lt (dv 1) (de_ixF (dv 0) de_int))))) (dss_one (ds_ret de_non)) dss_nil) (dss_one (ds_ret (de_sub (de_addF (de_ixF (dv 0) de_int) (dv 1)) (de_ixF (dv 0) de_int)))))
set_option maxHeartbeats 4000000 in
theorem ok_played (T : Tx K mg t) (G_fresh : FnOk P w K mg base CX0 1 t.a_fresh t.g_fresh [] (spOf K S_fresh)) (G_started : FnOk P w K mg base CX0 2 t.a_started t.g_started ["watch", "now"] (spOf K S_started)) (G_halted : FnOk P w K mg base CX0 3 t.a_halted t.g_halted ["watch", "now"] (spOf K S_halted)) (G_shown : FnOk P w K mg base CX0 2 t.a_shown t.g_shown ["watch", "now"] (spOf K S_shown)) (G_cleared : FnOk P w K mg base CX0 2 t.a_cleared t.g_cleared ["watch", "now"] (spOf K S_cleared)) : FnOk P w K mg base CX0 4 t.a_played t.g_played ["deeds"] (spOf K S_played) := by
  refine fnD (k := 3) T.u_played sc_played l_played fun cdv A outer s H E hr => ⟨t_played, ?_, r_played⟩
  have nd := (sc_played).nd
  exact (dss_cons (ds_set 1 nd (de_call0 G_fresh (hr.mono (by decide)) T.m_fresh T.u_fresh.kp T.d_fresh)) (dss_cons (ds_own 2 nd da_nil) (dss_cons (ds_for PassesOwn.never rfl (di_seqF (dv 0)) (dg_tup2 3 4 rfl nd) (dss_one (ds_if (dt_eq hr.units (dv 4) de_str) (dss_one (ds_set 1 nd (de_call G_started (hr.mono (by decide)) T.m_started T.u_started.kp T.d_started (da_cons (dv 1) (da_cons (dv 3) da_nil))))) (dss_one (ds_if (dt_eq hr.units (dv 4) de_str) (dss_one (ds_set 1 nd (de_call G_halted (hr.mono (by decide)) T.m_halted T.u_halted.kp T.d_halted (da_cons (dv 1) (da_cons (dv 3) da_nil))))) (dss_one (ds_if (dt_eq hr.units (dv 4) de_str) (dss_one (ds_append 2 (de_call G_shown (hr.mono (by decide)) T.m_shown T.u_shown.kp T.d_shown (da_cons (dv 1) (da_cons (dv 3) da_nil))))) (dss_one (ds_if (dt_eq hr.units (dv 4) de_str) (dss_cons (ds_set 1 nd (de_call G_cleared (hr.mono (by decide)) T.m_cleared T.u_cleared.kp T.d_cleared (da_cons (dv 1) (da_cons (dv 3) da_nil)))) (dss_one (ds_own 2 nd da_nil))) dss_nil))))))))) (dss_frz 2 (dss_one (ds_ret (de_tup (da_cons (de_ixF (dv 1) de_int) (da_cons (de_ixF (dv 1) de_int) (da_cons (de_tupleF T.b_tuple (da_cons (dv 2) da_nil)) da_nil))))))))))
set_option maxHeartbeats 4000000 in
theorem ok_law (T : Tx K mg t) (G_law_watch : FnOk P w K mg base CX0 3 t.a_law_watch t.g_law_watch ["_law_script", "_law_at"] (spOf K S_law_watch)) (G_fresh : FnOk P w K mg base CX0 1 t.a_fresh t.g_fresh [] (spOf K S_fresh)) (G_law_drawn : FnOk P w K mg base CX0 2 t.a_law_drawn t.g_law_drawn ["_law_script", "_law_k", "_law_many"] (spOf K S_law_drawn)) (G_law_due : FnOk P w K mg base CX0 1 t.a_law_due t.g_law_due ["_law_way", "_law_watch_here", "_law_now"] (spOf K S_law_due)) (G_law_told : FnOk P w K mg base CX0 4 t.a_law_told t.g_law_told ["_law_way", "_law_watch_here", "_law_now"] (spOf K S_law_told)) (G_lap_sizes : FnOk P w K mg base CX0 1 t.a_lap_sizes t.g_lap_sizes ["watch"] (spOf K S_lap_sizes)) (G_fastest : FnOk P w K mg base CX0 2 t.a_fastest t.g_fastest ["watch"] (spOf K S_fastest)) (G_when_shown : FnOk P w K mg base CX0 1 t.a_when_shown t.g_when_shown ["watch", "size"] (spOf K S_when_shown)) (G_played : FnOk P w K mg base CX0 4 t.a_played t.g_played ["deeds"] (spOf K S_played)) : FnOk P w K mg base CX0 5 t.a_law t.g_law ["_law_script"] (spOf K S_law) := by
  refine fnD (k := 4) T.u_law sc_law l_law fun cdv A outer s H E hr => ⟨t_law, ?_, r_law⟩
  have nd := (sc_law).nd
  exact (dss_cons (ds_set 1 nd (de_call G_law_watch (hr.mono (by decide)) T.m_law_watch T.u_law_watch.kp T.d_law_watch (da_cons (dv 0) (da_cons de_int da_nil)))) (dss_cons (ds_set 2 nd de_int) (dss_cons (ds_set 3 nd (de_call0 G_fresh (hr.mono (by decide)) T.m_fresh T.u_fresh.kp T.d_fresh)) (dss_cons (ds_if (dt_ne hr.units (dv 3) (de_tup (da_cons de_int (da_cons de_non (da_cons (de_tup da_nil) da_nil))))) (dss_one (ds_ret de_bl)) dss_nil) (dss_cons (ds_own 4 nd da_nil) (dss_cons (ds_set 5 nd de_int) (dss_cons (ds_for PassesOwn.never rfl (di_range1 T.b_range (da_cons (de_max rfl T.b_max (da_cons de_int (da_cons (de_min rfl T.b_min (da_cons de_int (da_cons (de_lenF T.b_len (da_cons (dv 0) da_nil)) da_nil))) da_nil))) da_nil)) (dg_name 6 nd) (dss_cons (ds_set 7 nd (de_call G_law_drawn (hr.mono (by decide)) T.m_law_drawn T.u_law_drawn.kp T.d_law_drawn (da_cons (dv 0) (da_cons (de_addF de_int (de_mul de_int (dv 6))) (da_cons de_int da_nil))))) (dss_cons (ds_set 2 nd (de_max rfl T.b_max (da_cons de_int (da_cons (de_addF (dv 2) (de_ixF (de_lst (by refine da_consL ?_ ?_; exact de_int; refine da_consL ?_ ?_; exact de_int; refine da_consL ?_ ?_; exact de_int; refine da_consL ?_ ?_; exact de_int; refine da_consL ?_ ?_; exact (de_neg de_int); exact da_nil)) (de_call G_law_drawn (hr.mono (by decide)) T.m_law_drawn T.u_law_drawn.kp T.d_law_drawn (da_cons (dv 0) (da_cons (de_addF de_int (de_mul de_int (dv 6))) (da_cons de_int da_nil)))))) da_nil)))) (dss_cons (ds_set 8 nd (de_call G_law_due (hr.mono (by decide)) T.m_law_due T.u_law_due.kp T.d_law_due (da_cons (dv 7) (da_cons (dv 1) (da_cons (dv 2) da_nil))))) (dss_cons (ds_if (dt_ne hr.units (de_call G_law_told (hr.mono (by decide)) T.m_law_told T.u_law_told.kp T.d_law_told (da_cons (dv 7) (da_cons (dv 1) (da_cons (dv 2) da_nil)))) (dv 8)) (dss_one (ds_ret de_bl)) dss_nil) (dss_consM (ds_if (dt_w (dw_and (dt_lt (dv 7) de_int) (dw_and1 (dt_ne hr.units (dv 8) (de_tup (da_cons de_str (da_cons de_int da_nil))))))) (dss_one (ds_set 1 nd (dv 8))) dss_nil) (dss_cons (ds_set 9 nd (de_addF (de_lst (da_cons de_int da_nil)) (de_listF T.b_list (da_cons (de_ixF (dv 1) de_int) da_nil)))) (dss_cons (ds_set 10 nd (de_compK ["_law_script", "_law_watch_here", "_law_now", "_law_mine", "_law_deeds", "_law_moment", "_law_k", "_law_way", "_law_due_here", "_law_ends", "_law_sizes", "_law_best", "_law_size", "_law_due_at", "_law_j"] 1 rfl (di_range1 T.b_range (da_cons (de_lenF T.b_len (da_cons (de_ixF (dv 1) de_int) da_nil)) da_nil)) (fun cl C ex s H => ⟨(dg_name 14 (show List.Nodup (α := Str) ["_law_script", "_law_watch_here", "_law_now", "_law_mine", "_law_deeds", "_law_moment", "_law_k", "_law_way", "_law_due_here", "_law_ends", "_law_sizes", "_law_best", "_law_size", "_law_due_at", "_law_j"] by decide +kernel)), dts_nil, (de_sub (de_ixF (dv 9) (de_addF (dv 14) de_int)) (de_ixF (dv 9) (dv 14)))⟩) (by show compOk ["_law_script", "_law_watch_here", "_law_now", "_law_mine", "_law_deeds", "_law_moment", "_law_k", "_law_way", "_law_due_here", "_law_ends", "_law_sizes", "_law_best", "_law_size", "_law_due_at"] (defScope s_law) ["_law_script", "_law_watch_here", "_law_now", "_law_mine", "_law_deeds", "_law_moment", "_law_k", "_law_way", "_law_due_here", "_law_ends", "_law_sizes", "_law_best", "_law_size", "_law_due_at", "_law_j"] _ 1 = true; decide +kernel) (by intro _; rfl)) rfl (by first | exact Or.inl rfl | exact Or.inr rfl) rfl (by first | exact .inl rfl | exact .inr rfl | assumption)) (dss_cons (ds_compK ["_law_script", "_law_watch_here", "_law_now", "_law_mine", "_law_deeds", "_law_moment", "_law_k", "_law_way", "_law_due_here", "_law_ends", "_law_sizes", "_law_best", "_law_size", "_law_due_at", "_law_j"] 1 11 rfl (di_range1 T.b_range (da_cons (de_lenF T.b_len (da_cons (dv 10) da_nil)) da_nil)) (fun cl C ex s H => ⟨(dg_name 14 (show List.Nodup (α := Str) ["_law_script", "_law_watch_here", "_law_now", "_law_mine", "_law_deeds", "_law_moment", "_law_k", "_law_way", "_law_due_here", "_law_ends", "_law_sizes", "_law_best", "_law_size", "_law_due_at", "_law_j"] by decide +kernel)), (dts_one (dt_eq (by exact hr.units) (de_ixF (dv 10) (dv 14)) (de_minL rfl (by exact T.b_min) (da_cons (dv 10) da_nil)))), (dv 14)⟩) (by show compOk ["_law_script", "_law_watch_here", "_law_now", "_law_mine", "_law_deeds", "_law_moment", "_law_k", "_law_way", "_law_due_here", "_law_ends", "_law_sizes", "_law_best", "_law_size", "_law_due_at"] (defScope s_law) ["_law_script", "_law_watch_here", "_law_now", "_law_mine", "_law_deeds", "_law_moment", "_law_k", "_law_way", "_law_due_here", "_law_ends", "_law_sizes", "_law_best", "_law_size", "_law_due_at", "_law_j"] _ 1 = true; decide +kernel) (by intro _; rfl) nd rfl (by first | exact Or.inl rfl | exact Or.inr rfl) rfl (by first | exact .inl rfl | exact .inr rfl | assumption)) (dss_cons (ds_if (dt_w (dw_or (dt_ne hr.units (de_call G_lap_sizes (hr.mono (by decide)) T.m_lap_sizes T.u_lap_sizes.kp T.d_lap_sizes (da_cons (dv 1) da_nil)) (dv 10)) (dw_or1 (dt_ne hr.units (de_call G_fastest (hr.mono (by decide)) T.m_fastest T.u_fastest.kp T.d_fastest (da_cons (dv 1) da_nil)) (dv 11))))) (dss_one (ds_ret de_bl)) dss_nil) (dss_cons (ds_set 12 nd (de_call G_law_drawn (hr.mono (by decide)) T.m_law_drawn T.u_law_drawn.kp T.d_law_drawn (da_cons (dv 0) (da_cons (de_addF de_int (de_mul de_int (dv 6))) (da_cons de_int da_nil))))) (dss_cons (ds_set 13 nd de_non) (dss_consM (ds_if (dt_w (dw_and (dt_isnot (de_ixF (dv 1) de_int) de_non) (dw_and1 (dt_ge (dv 12) (de_ixF (dv 1) de_int))))) (dss_one (ds_set 13 nd (de_sub (de_addF (de_ixF (dv 1) de_int) (dv 12)) (de_ixF (dv 1) de_int)))) dss_nil) (dss_cons (ds_if (dt_ne hr.units (de_call G_when_shown (hr.mono (by decide)) T.m_when_shown T.u_when_shown.kp T.d_when_shown (da_cons (dv 1) (da_cons (dv 12) da_nil))) (dv 13)) (dss_one (ds_ret de_bl)) dss_nil) (dss_one (ds_if (dt_lt (dv 7) de_int) (dss_cons (ds_set 5 nd (de_addF (dv 5) (de_call G_law_drawn (hr.mono (by decide)) T.m_law_drawn T.u_law_drawn.kp T.d_law_drawn (da_cons (dv 0) (da_cons (de_addF de_int (de_mul de_int (dv 6))) (da_cons de_int da_nil)))))) (dss_cons (ds_set 3 nd (de_call G_law_due (hr.mono (by decide)) T.m_law_due T.u_law_due.kp T.d_law_due (da_cons (dv 7) (da_cons (dv 3) (da_cons (dv 5) da_nil))))) (dss_one (ds_append 4 (de_tup (da_cons (dv 5) (da_cons (de_ixF (de_lst (da_cons de_str (da_cons de_str (da_cons de_str (da_cons de_str da_nil))))) (dv 7)) da_nil))))))) dss_nil)))))))))))))))) (dss_frz 4 (dss_one (ds_ret (de_eq hr.units (de_call G_played (hr.mono (by decide)) T.m_played T.u_played.kp T.d_played (da_cons (dv 4) da_nil)) (dv 3))))))))))))
theorem ok_all (T : Tx K mg t) (KB : K.In base) (NB : base.Ns mainGlobals mg) : FnOk P w K mg base CX0 5 t.a_law t.g_law ["_law_script"] (spOf K S_law) := by
  have G_law_cell := ok_law_cell (P := P) (w := w) (base := base) T 
  have G_law_drawn := ok_law_drawn (P := P) (w := w) (base := base) T G_law_cell
  have G_law_watch := ok_law_watch (P := P) (w := w) (base := base) T G_law_drawn
  have G_fresh := ok_fresh (P := P) (w := w) (base := base) T 
  have G_law_due := ok_law_due (P := P) (w := w) (base := base) T 
  have G_refuse_early := ok_refuse_early (P := P) (w := w) (base := base) T 
  have R_refuse_early := rk_refuse_early (P := P) (w := w) (base := base) T KB NB  
  have G_started := ok_started (P := P) (w := w) (base := base) T G_refuse_early
  have R_started := rk_started (P := P) (w := w) (base := base) T KB NB G_refuse_early R_refuse_early
  have G_shown := ok_shown (P := P) (w := w) (base := base) T G_refuse_early
  have R_shown := rk_shown (P := P) (w := w) (base := base) T KB NB G_refuse_early R_refuse_early
  have G_halted := ok_halted (P := P) (w := w) (base := base) T G_shown
  have R_halted := rk_halted (P := P) (w := w) (base := base) T KB NB G_shown R_shown
  have G_lapped := ok_lapped (P := P) (w := w) (base := base) T G_shown
  have R_lapped := rk_lapped (P := P) (w := w) (base := base) T KB NB G_shown R_shown
  have G_cleared := ok_cleared (P := P) (w := w) (base := base) T G_refuse_early
  have R_cleared := rk_cleared (P := P) (w := w) (base := base) T KB NB G_refuse_early R_refuse_early
  have G_law_told := ok_law_told (P := P) (w := w) (base := base) T KB NB G_started G_halted G_lapped G_cleared G_shown R_started R_halted R_lapped R_cleared R_shown
  have G_lap_sizes := ok_lap_sizes (P := P) (w := w) (base := base) T 
  have G_fastest := ok_fastest (P := P) (w := w) (base := base) T G_lap_sizes
  have G_when_shown := ok_when_shown (P := P) (w := w) (base := base) T 
  have G_played := ok_played (P := P) (w := w) (base := base) T G_fresh G_started G_halted G_shown G_cleared
  exact ok_law T G_law_watch G_fresh G_law_drawn G_law_due G_law_told G_lap_sizes G_fastest G_when_shown G_played
end
theorem tx_mk {K : PySem.W.Frag} {h : Heap} {mg : Str → Option Value} (X : K.In h) (G : h.Ns mainGlobals mg) {f0 : Addr} {od0 an0 : Option Addr} {sl0 : Array (Option Value)} {oc0 kV0 dc0 pm0 cd0 ct0 : Value} {f1 : Addr} {od1 an1 : Option Addr} {sl1 : Array (Option Value)} {oc1 kV1 dc1 pm1 cd1 ct1 : Value} {f2 : Addr} {od2 an2 : Option Addr} {sl2 : Array (Option Value)} {oc2 kV2 dc2 pm2 cd2 ct2 : Value} {f3 : Addr} {od3 an3 : Option Addr} {sl3 : Array (Option Value)} {oc3 kV3 dc3 pm3 cd3 ct3 : Value} {f4 : Addr} {od4 an4 : Option Addr} {sl4 : Array (Option Value)} {oc4 kV4 dc4 pm4 cd4 ct4 : Value} {f5 : Addr} {od5 an5 : Option Addr} {sl5 : Array (Option Value)} {oc5 kV5 dc5 pm5 cd5 ct5 : Value} {f6 : Addr} {od6 an6 : Option Addr} {sl6 : Array (Option Value)} {oc6 kV6 dc6 pm6 cd6 ct6 : Value} {f7 : Addr} {od7 an7 : Option Addr} {sl7 : Array (Option Value)} {oc7 kV7 dc7 pm7 cd7 ct7 : Value} {f8 : Addr} {od8 an8 : Option Addr} {sl8 : Array (Option Value)} {oc8 kV8 dc8 pm8 cd8 ct8 : Value} {f9 : Addr} {od9 an9 : Option Addr} {sl9 : Array (Option Value)} {oc9 kV9 dc9 pm9 cd9 ct9 : Value} {f10 : Addr} {od10 an10 : Option Addr} {sl10 : Array (Option Value)} {oc10 kV10 dc10 pm10 cd10 ct10 : Value} {f11 : Addr} {od11 an11 : Option Addr} {sl11 : Array (Option Value)} {oc11 kV11 dc11 pm11 cd11 ct11 : Value} {f12 : Addr} {od12 an12 : Option Addr} {sl12 : Array (Option Value)} {oc12 kV12 dc12 pm12 cd12 ct12 : Value} {f13 : Addr} {od13 an13 : Option Addr} {sl13 : Array (Option Value)} {oc13 kV13 dc13 pm13 cd13 ct13 : Value} {f14 : Addr} {od14 an14 : Option Addr} {sl14 : Array (Option Value)} {oc14 kV14 dc14 pm14 cd14 ct14 : Value} {f15 : Addr} {od15 an15 : Option Addr} {sl15 : Array (Option Value)} {oc15 kV15 dc15 pm15 cd15 ct15 : Value} {f16 : Addr} {od16 an16 : Option Addr} {sl16 : Array (Option Value)} {oc16 kV16 dc16 pm16 cd16 ct16 : Value} {f17 : Addr} {od17 an17 : Option Addr} {sl17 : Array (Option Value)} {oc17 kV17 dc17 pm17 cd17 ct17 : Value} {CEarly : Addr} {CNoClock : Addr} {CAsleep : Addr} {CAwake : Addr} {CRingError : Addr}
    (a0 : PySem.W.nsIn K mainGlobals "_law_cell" = some (some (.ref f0))) (l0 : K.lookup f0 = some ⟨oc0, od0, .func (PySem.W.fnOf "_law_cell" "_law_cell" (defArgs s_law_cell) (defBody s_law_cell) (defScope s_law_cell) .none kV0 dc0 pm0 an0 cd0 ct0), sl0⟩) (c0 : PySem.W.codeIn K cd0 "_law_cell" = true) (k0 : PySem.W.keepIn K (.ref f0) = true) (a1 : PySem.W.nsIn K mainGlobals "_law_drawn" = some (some (.ref f1))) (l1 : K.lookup f1 = some ⟨oc1, od1, .func (PySem.W.fnOf "_law_drawn" "_law_drawn" (defArgs s_law_drawn) (defBody s_law_drawn) (defScope s_law_drawn) .none kV1 dc1 pm1 an1 cd1 ct1), sl1⟩) (c1 : PySem.W.codeIn K cd1 "_law_drawn" = true) (k1 : PySem.W.keepIn K (.ref f1) = true) (a2 : PySem.W.nsIn K mainGlobals "_law_watch" = some (some (.ref f2))) (l2 : K.lookup f2 = some ⟨oc2, od2, .func (PySem.W.fnOf "_law_watch" "_law_watch" (defArgs s_law_watch) (defBody s_law_watch) (defScope s_law_watch) .none kV2 dc2 pm2 an2 cd2 ct2), sl2⟩) (c2 : PySem.W.codeIn K cd2 "_law_watch" = true) (k2 : PySem.W.keepIn K (.ref f2) = true) (a3 : PySem.W.nsIn K mainGlobals "fresh" = some (some (.ref f3))) (l3 : K.lookup f3 = some ⟨oc3, od3, .func (PySem.W.fnOf "fresh" "fresh" (defArgs s_fresh) (defBody s_fresh) (defScope s_fresh) .none kV3 dc3 pm3 an3 cd3 ct3), sl3⟩) (c3 : PySem.W.codeIn K cd3 "fresh" = true) (k3 : PySem.W.keepIn K (.ref f3) = true) (a4 : PySem.W.nsIn K mainGlobals "_law_due" = some (some (.ref f4))) (l4 : K.lookup f4 = some ⟨oc4, od4, .func (PySem.W.fnOf "_law_due" "_law_due" (defArgs s_law_due) (defBody s_law_due) (defScope s_law_due) .none kV4 dc4 pm4 an4 cd4 ct4), sl4⟩) (c4 : PySem.W.codeIn K cd4 "_law_due" = true) (k4 : PySem.W.keepIn K (.ref f4) = true) (a5 : PySem.W.nsIn K mainGlobals "refuse_early" = some (some (.ref f5))) (l5 : K.lookup f5 = some ⟨oc5, od5, .func (PySem.W.fnOf "refuse_early" "refuse_early" (defArgs s_refuse_early) (defBody s_refuse_early) (defScope s_refuse_early) .none kV5 dc5 pm5 an5 cd5 ct5), sl5⟩) (c5 : PySem.W.codeIn K cd5 "refuse_early" = true) (k5 : PySem.W.keepIn K (.ref f5) = true) (a6 : PySem.W.nsIn K mainGlobals "started" = some (some (.ref f6))) (l6 : K.lookup f6 = some ⟨oc6, od6, .func (PySem.W.fnOf "started" "started" (defArgs s_started) (defBody s_started) (defScope s_started) .none kV6 dc6 pm6 an6 cd6 ct6), sl6⟩) (c6 : PySem.W.codeIn K cd6 "started" = true) (k6 : PySem.W.keepIn K (.ref f6) = true) (a7 : PySem.W.nsIn K mainGlobals "shown" = some (some (.ref f7))) (l7 : K.lookup f7 = some ⟨oc7, od7, .func (PySem.W.fnOf "shown" "shown" (defArgs s_shown) (defBody s_shown) (defScope s_shown) .none kV7 dc7 pm7 an7 cd7 ct7), sl7⟩) (c7 : PySem.W.codeIn K cd7 "shown" = true) (k7 : PySem.W.keepIn K (.ref f7) = true) (a8 : PySem.W.nsIn K mainGlobals "halted" = some (some (.ref f8))) (l8 : K.lookup f8 = some ⟨oc8, od8, .func (PySem.W.fnOf "halted" "halted" (defArgs s_halted) (defBody s_halted) (defScope s_halted) .none kV8 dc8 pm8 an8 cd8 ct8), sl8⟩) (c8 : PySem.W.codeIn K cd8 "halted" = true) (k8 : PySem.W.keepIn K (.ref f8) = true) (a9 : PySem.W.nsIn K mainGlobals "lapped" = some (some (.ref f9))) (l9 : K.lookup f9 = some ⟨oc9, od9, .func (PySem.W.fnOf "lapped" "lapped" (defArgs s_lapped) (defBody s_lapped) (defScope s_lapped) .none kV9 dc9 pm9 an9 cd9 ct9), sl9⟩) (c9 : PySem.W.codeIn K cd9 "lapped" = true) (k9 : PySem.W.keepIn K (.ref f9) = true) (a10 : PySem.W.nsIn K mainGlobals "cleared" = some (some (.ref f10))) (l10 : K.lookup f10 = some ⟨oc10, od10, .func (PySem.W.fnOf "cleared" "cleared" (defArgs s_cleared) (defBody s_cleared) (defScope s_cleared) .none kV10 dc10 pm10 an10 cd10 ct10), sl10⟩) (c10 : PySem.W.codeIn K cd10 "cleared" = true) (k10 : PySem.W.keepIn K (.ref f10) = true) (a11 : PySem.W.nsIn K mainGlobals "_law_told" = some (some (.ref f11))) (l11 : K.lookup f11 = some ⟨oc11, od11, .func (PySem.W.fnOf "_law_told" "_law_told" (defArgs s_law_told) (defBody s_law_told) (defScope s_law_told) .none kV11 dc11 pm11 an11 cd11 ct11), sl11⟩) (c11 : PySem.W.codeIn K cd11 "_law_told" = true) (k11 : PySem.W.keepIn K (.ref f11) = true) (a12 : PySem.W.nsIn K mainGlobals "lap_sizes" = some (some (.ref f12))) (l12 : K.lookup f12 = some ⟨oc12, od12, .func (PySem.W.fnOf "lap_sizes" "lap_sizes" (defArgs s_lap_sizes) (defBody s_lap_sizes) (defScope s_lap_sizes) .none kV12 dc12 pm12 an12 cd12 ct12), sl12⟩) (c12 : PySem.W.codeIn K cd12 "lap_sizes" = true) (k12 : PySem.W.keepIn K (.ref f12) = true) (a13 : PySem.W.nsIn K mainGlobals "fastest" = some (some (.ref f13))) (l13 : K.lookup f13 = some ⟨oc13, od13, .func (PySem.W.fnOf "fastest" "fastest" (defArgs s_fastest) (defBody s_fastest) (defScope s_fastest) .none kV13 dc13 pm13 an13 cd13 ct13), sl13⟩) (c13 : PySem.W.codeIn K cd13 "fastest" = true) (k13 : PySem.W.keepIn K (.ref f13) = true) (a14 : PySem.W.nsIn K mainGlobals "when_shown" = some (some (.ref f14))) (l14 : K.lookup f14 = some ⟨oc14, od14, .func (PySem.W.fnOf "when_shown" "when_shown" (defArgs s_when_shown) (defBody s_when_shown) (defScope s_when_shown) .none kV14 dc14 pm14 an14 cd14 ct14), sl14⟩) (c14 : PySem.W.codeIn K cd14 "when_shown" = true) (k14 : PySem.W.keepIn K (.ref f14) = true) (a15 : PySem.W.nsIn K mainGlobals "played" = some (some (.ref f15))) (l15 : K.lookup f15 = some ⟨oc15, od15, .func (PySem.W.fnOf "played" "played" (defArgs s_played) (defBody s_played) (defScope s_played) .none kV15 dc15 pm15 an15 cd15 ct15), sl15⟩) (c15 : PySem.W.codeIn K cd15 "played" = true) (k15 : PySem.W.keepIn K (.ref f15) = true) (a16 : PySem.W.nsIn K mainGlobals "_law_refused" = some (some (.ref f16))) (l16 : K.lookup f16 = some ⟨oc16, od16, .func (PySem.W.fnOf "_law_refused" "_law_refused" (defArgs s_law_refused) (defBody s_law_refused) (defScope s_law_refused) .none kV16 dc16 pm16 an16 cd16 ct16), sl16⟩) (c16 : PySem.W.codeIn K cd16 "_law_refused" = true) (k16 : PySem.W.keepIn K (.ref f16) = true) (a17 : PySem.W.nsIn K mainGlobals "law" = some (some (.ref f17))) (l17 : K.lookup f17 = some ⟨oc17, od17, .func (PySem.W.fnOf "law" "law" (defArgs s_law) (defBody s_law) (defScope s_law) .none kV17 dc17 pm17 an17 cd17 ct17), sl17⟩) (c17 : PySem.W.codeIn K cd17 "law" = true) (k17 : PySem.W.keepIn K (.ref f17) = true) (aeEarly : PySem.W.nsIn K mainGlobals "Early" = some (some (.ref CEarly))) (aeNoClock : PySem.W.nsIn K mainGlobals "NoClock" = some (some (.ref CNoClock))) (aeAsleep : PySem.W.nsIn K mainGlobals "Asleep" = some (some (.ref CAsleep))) (aeAwake : PySem.W.nsIn K mainGlobals "Awake" = some (some (.ref CAwake))) (aeRingError : PySem.W.nsIn K mainGlobals "RingError" = some (some (.ref CRingError))) (xq : PySem.W.excIn K CEarly [.type "ValueError", .type "Exception", .type "BaseException", .type "object"] "ValueError.__new__" = true) (xr : PySem.W.excIn K CRingError [.type "ValueError", .type "Exception", .type "BaseException", .type "object"] "ValueError.__new__" = true) (xga : PySem.W.findIn K (.ref CEarly) "__getattribute__" = some (some (.builtin "BaseException.__getattribute__"))) (xgn : PySem.W.findIn K (.ref CEarly) "__getattr__" = some none) (xcl : PySem.W.findIn K (.ref CEarly) "__class__" = some (some (.builtin "object.__class__"))) (xkv : PySem.W.kitOne K (.ref CEarly) (.type "ValueError") = some true) (xkEarly : PySem.W.kitOne K (.ref CEarly) (.ref CEarly) = some true) (xkNoClock : PySem.W.kitOne K (.ref CEarly) (.ref CNoClock) = some false) (xkAsleep : PySem.W.kitOne K (.ref CEarly) (.ref CAsleep) = some false) (xkAwake : PySem.W.kitOne K (.ref CEarly) (.ref CAwake) = some false) (xmr : PySem.W.mroIn K CEarly (.ref CRingError) = some true) (xnr : CEarly ≠ CRingError) (z0 : PySem.W.nsIn K mainGlobals "ValueError" = some none) (z1 : PySem.W.nsIn K mainGlobals "enumerate" = some none) (z2 : PySem.W.nsIn K mainGlobals "int" = some none) (z3 : PySem.W.nsIn K mainGlobals "isinstance" = some none) (z4 : PySem.W.nsIn K mainGlobals "len" = some none) (z5 : PySem.W.nsIn K mainGlobals "list" = some none) (z6 : PySem.W.nsIn K mainGlobals "max" = some none) (z7 : PySem.W.nsIn K mainGlobals "min" = some none) (z8 : PySem.W.nsIn K mainGlobals "range" = some none) (z9 : PySem.W.nsIn K mainGlobals "tuple" = some none) (z10 : PySem.W.nsIn K mainGlobals "zip" = some none) :
    ∃ t : Ad, Tx K mg t ∧ t.a_law = f17 ∧ t.g_law = PySem.W.fnOf "law" "law" (defArgs s_law) (defBody s_law) (defScope s_law) .none kV17 dc17 pm17 an17 cd17 ct17 := by
  have F0 := fun_mk (st := s_law_cell) l0 c0 k0
  have F1 := fun_mk (st := s_law_drawn) l1 c1 k1
  have F2 := fun_mk (st := s_law_watch) l2 c2 k2
  have F3 := fun_mk (st := s_fresh) l3 c3 k3
  have F4 := fun_mk (st := s_law_due) l4 c4 k4
  have F5 := fun_mk (st := s_refuse_early) l5 c5 k5
  have F6 := fun_mk (st := s_started) l6 c6 k6
  have F7 := fun_mk (st := s_shown) l7 c7 k7
  have F8 := fun_mk (st := s_halted) l8 c8 k8
  have F9 := fun_mk (st := s_lapped) l9 c9 k9
  have F10 := fun_mk (st := s_cleared) l10 c10 k10
  have F11 := fun_mk (st := s_law_told) l11 c11 k11
  have F12 := fun_mk (st := s_lap_sizes) l12 c12 k12
  have F13 := fun_mk (st := s_fastest) l13 c13 k13
  have F14 := fun_mk (st := s_when_shown) l14 c14 k14
  have F15 := fun_mk (st := s_played) l15 c15 k15
  have F16 := fun_mk (st := s_law_refused) l16 c16 k16
  have F17 := fun_mk (st := s_law) l17 c17 k17
  exact ⟨⟨f0, _, f1, _, f2, _, f3, _, f4, _, f5, _, f6, _, f7, _, f8, _, f9, _, f10, _, f11, _, f12, _, f13, _, f14, _, f15, _, f16, _, f17, _, CEarly, CNoClock, CAsleep, CAwake, CRingError⟩, ⟨F0, F0.binds (ps := ["_law_script", "_law_k"]) (fun _ _ _ _ _ _ us hl => match us, hl with | [_, _], _ => rfl), PySem.W.mg_of X G a0, F1, F1.binds (ps := ["_law_script", "_law_k", "_law_many"]) (fun _ _ _ _ _ _ us hl => match us, hl with | [_, _, _], _ => rfl), PySem.W.mg_of X G a1, F2, F2.binds (ps := ["_law_script", "_law_at"]) (fun _ _ _ _ _ _ us hl => match us, hl with | [_, _], _ => rfl), PySem.W.mg_of X G a2, F3, F3.binds (ps := []) (fun _ _ _ _ _ _ us hl => match us, hl with | [], _ => rfl), PySem.W.mg_of X G a3, F4, F4.binds (ps := ["_law_way", "_law_watch_here", "_law_now"]) (fun _ _ _ _ _ _ us hl => match us, hl with | [_, _, _], _ => rfl), PySem.W.mg_of X G a4, F5, F5.binds (ps := ["earlier", "now"]) (fun _ _ _ _ _ _ us hl => match us, hl with | [_, _], _ => rfl), PySem.W.mg_of X G a5, F6, F6.binds (ps := ["watch", "now"]) (fun _ _ _ _ _ _ us hl => match us, hl with | [_, _], _ => rfl), PySem.W.mg_of X G a6, F7, F7.binds (ps := ["watch", "now"]) (fun _ _ _ _ _ _ us hl => match us, hl with | [_, _], _ => rfl), PySem.W.mg_of X G a7, F8, F8.binds (ps := ["watch", "now"]) (fun _ _ _ _ _ _ us hl => match us, hl with | [_, _], _ => rfl), PySem.W.mg_of X G a8, F9, F9.binds (ps := ["watch", "now"]) (fun _ _ _ _ _ _ us hl => match us, hl with | [_, _], _ => rfl), PySem.W.mg_of X G a9, F10, F10.binds (ps := ["watch", "now"]) (fun _ _ _ _ _ _ us hl => match us, hl with | [_, _], _ => rfl), PySem.W.mg_of X G a10, F11, F11.binds (ps := ["_law_way", "_law_watch_here", "_law_now"]) (fun _ _ _ _ _ _ us hl => match us, hl with | [_, _, _], _ => rfl), PySem.W.mg_of X G a11, F12, F12.binds (ps := ["watch"]) (fun _ _ _ _ _ _ us hl => match us, hl with | [_], _ => rfl), PySem.W.mg_of X G a12, F13, F13.binds (ps := ["watch"]) (fun _ _ _ _ _ _ us hl => match us, hl with | [_], _ => rfl), PySem.W.mg_of X G a13, F14, F14.binds (ps := ["watch", "size"]) (fun _ _ _ _ _ _ us hl => match us, hl with | [_, _], _ => rfl), PySem.W.mg_of X G a14, F15, F15.binds (ps := ["deeds"]) (fun _ _ _ _ _ _ us hl => match us, hl with | [_], _ => rfl), PySem.W.mg_of X G a15, F16, F16.binds (ps := ["_law_e"]) (fun _ _ _ _ _ _ us hl => match us, hl with | [_], _ => rfl), PySem.W.mg_of X G a16, F17, F17.binds (ps := ["_law_script"]) (fun _ _ _ _ _ _ us hl => match us, hl with | [_], _ => rfl), PySem.W.mg_of X G a17, PySem.W.mg_none_of X G z0, PySem.W.mg_none_of X G z1, PySem.W.mg_none_of X G z2, PySem.W.mg_none_of X G z3, PySem.W.mg_none_of X G z4, PySem.W.mg_none_of X G z5, PySem.W.mg_none_of X G z6, PySem.W.mg_none_of X G z7, PySem.W.mg_none_of X G z8, PySem.W.mg_none_of X G z9, PySem.W.mg_none_of X G z10, PySem.W.mg_of X G aeEarly, PySem.W.mg_of X G aeNoClock, PySem.W.mg_of X G aeAsleep, PySem.W.mg_of X G aeAwake, PySem.W.mg_of X G aeRingError, ⟨⟨_, _, xq, by decide, by decide⟩, xga, xgn, xcl⟩, xkv, xkEarly, xkNoClock, xkAsleep, xkAwake, xq, xr, aeEarly, aeRingError, xmr, xnr⟩, rfl, rfl⟩
theorem law_mk {l : PySem.W.OpenLaw} {w : World} {K : PySem.W.Frag} {h : Heap} {mg : Str → Option Value} {fa : Addr} (X : K.In h) (G : h.Ns mainGlobals mg) (hfa : mg "law" = some (.ref fa)) {f0 : Addr} {od0 an0 : Option Addr} {sl0 : Array (Option Value)} {oc0 kV0 dc0 pm0 cd0 ct0 : Value} {f1 : Addr} {od1 an1 : Option Addr} {sl1 : Array (Option Value)} {oc1 kV1 dc1 pm1 cd1 ct1 : Value} {f2 : Addr} {od2 an2 : Option Addr} {sl2 : Array (Option Value)} {oc2 kV2 dc2 pm2 cd2 ct2 : Value} {f3 : Addr} {od3 an3 : Option Addr} {sl3 : Array (Option Value)} {oc3 kV3 dc3 pm3 cd3 ct3 : Value} {f4 : Addr} {od4 an4 : Option Addr} {sl4 : Array (Option Value)} {oc4 kV4 dc4 pm4 cd4 ct4 : Value} {f5 : Addr} {od5 an5 : Option Addr} {sl5 : Array (Option Value)} {oc5 kV5 dc5 pm5 cd5 ct5 : Value} {f6 : Addr} {od6 an6 : Option Addr} {sl6 : Array (Option Value)} {oc6 kV6 dc6 pm6 cd6 ct6 : Value} {f7 : Addr} {od7 an7 : Option Addr} {sl7 : Array (Option Value)} {oc7 kV7 dc7 pm7 cd7 ct7 : Value} {f8 : Addr} {od8 an8 : Option Addr} {sl8 : Array (Option Value)} {oc8 kV8 dc8 pm8 cd8 ct8 : Value} {f9 : Addr} {od9 an9 : Option Addr} {sl9 : Array (Option Value)} {oc9 kV9 dc9 pm9 cd9 ct9 : Value} {f10 : Addr} {od10 an10 : Option Addr} {sl10 : Array (Option Value)} {oc10 kV10 dc10 pm10 cd10 ct10 : Value} {f11 : Addr} {od11 an11 : Option Addr} {sl11 : Array (Option Value)} {oc11 kV11 dc11 pm11 cd11 ct11 : Value} {f12 : Addr} {od12 an12 : Option Addr} {sl12 : Array (Option Value)} {oc12 kV12 dc12 pm12 cd12 ct12 : Value} {f13 : Addr} {od13 an13 : Option Addr} {sl13 : Array (Option Value)} {oc13 kV13 dc13 pm13 cd13 ct13 : Value} {f14 : Addr} {od14 an14 : Option Addr} {sl14 : Array (Option Value)} {oc14 kV14 dc14 pm14 cd14 ct14 : Value} {f15 : Addr} {od15 an15 : Option Addr} {sl15 : Array (Option Value)} {oc15 kV15 dc15 pm15 cd15 ct15 : Value} {f16 : Addr} {od16 an16 : Option Addr} {sl16 : Array (Option Value)} {oc16 kV16 dc16 pm16 cd16 ct16 : Value} {f17 : Addr} {od17 an17 : Option Addr} {sl17 : Array (Option Value)} {oc17 kV17 dc17 pm17 cd17 ct17 : Value} {CEarly : Addr} {CNoClock : Addr} {CAsleep : Addr} {CAwake : Addr} {CRingError : Addr}
    (a0 : PySem.W.nsIn K mainGlobals "_law_cell" = some (some (.ref f0))) (l0 : K.lookup f0 = some ⟨oc0, od0, .func (PySem.W.fnOf "_law_cell" "_law_cell" (defArgs s_law_cell) (defBody s_law_cell) (defScope s_law_cell) .none kV0 dc0 pm0 an0 cd0 ct0), sl0⟩) (c0 : PySem.W.codeIn K cd0 "_law_cell" = true) (k0 : PySem.W.keepIn K (.ref f0) = true) (a1 : PySem.W.nsIn K mainGlobals "_law_drawn" = some (some (.ref f1))) (l1 : K.lookup f1 = some ⟨oc1, od1, .func (PySem.W.fnOf "_law_drawn" "_law_drawn" (defArgs s_law_drawn) (defBody s_law_drawn) (defScope s_law_drawn) .none kV1 dc1 pm1 an1 cd1 ct1), sl1⟩) (c1 : PySem.W.codeIn K cd1 "_law_drawn" = true) (k1 : PySem.W.keepIn K (.ref f1) = true) (a2 : PySem.W.nsIn K mainGlobals "_law_watch" = some (some (.ref f2))) (l2 : K.lookup f2 = some ⟨oc2, od2, .func (PySem.W.fnOf "_law_watch" "_law_watch" (defArgs s_law_watch) (defBody s_law_watch) (defScope s_law_watch) .none kV2 dc2 pm2 an2 cd2 ct2), sl2⟩) (c2 : PySem.W.codeIn K cd2 "_law_watch" = true) (k2 : PySem.W.keepIn K (.ref f2) = true) (a3 : PySem.W.nsIn K mainGlobals "fresh" = some (some (.ref f3))) (l3 : K.lookup f3 = some ⟨oc3, od3, .func (PySem.W.fnOf "fresh" "fresh" (defArgs s_fresh) (defBody s_fresh) (defScope s_fresh) .none kV3 dc3 pm3 an3 cd3 ct3), sl3⟩) (c3 : PySem.W.codeIn K cd3 "fresh" = true) (k3 : PySem.W.keepIn K (.ref f3) = true) (a4 : PySem.W.nsIn K mainGlobals "_law_due" = some (some (.ref f4))) (l4 : K.lookup f4 = some ⟨oc4, od4, .func (PySem.W.fnOf "_law_due" "_law_due" (defArgs s_law_due) (defBody s_law_due) (defScope s_law_due) .none kV4 dc4 pm4 an4 cd4 ct4), sl4⟩) (c4 : PySem.W.codeIn K cd4 "_law_due" = true) (k4 : PySem.W.keepIn K (.ref f4) = true) (a5 : PySem.W.nsIn K mainGlobals "refuse_early" = some (some (.ref f5))) (l5 : K.lookup f5 = some ⟨oc5, od5, .func (PySem.W.fnOf "refuse_early" "refuse_early" (defArgs s_refuse_early) (defBody s_refuse_early) (defScope s_refuse_early) .none kV5 dc5 pm5 an5 cd5 ct5), sl5⟩) (c5 : PySem.W.codeIn K cd5 "refuse_early" = true) (k5 : PySem.W.keepIn K (.ref f5) = true) (a6 : PySem.W.nsIn K mainGlobals "started" = some (some (.ref f6))) (l6 : K.lookup f6 = some ⟨oc6, od6, .func (PySem.W.fnOf "started" "started" (defArgs s_started) (defBody s_started) (defScope s_started) .none kV6 dc6 pm6 an6 cd6 ct6), sl6⟩) (c6 : PySem.W.codeIn K cd6 "started" = true) (k6 : PySem.W.keepIn K (.ref f6) = true) (a7 : PySem.W.nsIn K mainGlobals "shown" = some (some (.ref f7))) (l7 : K.lookup f7 = some ⟨oc7, od7, .func (PySem.W.fnOf "shown" "shown" (defArgs s_shown) (defBody s_shown) (defScope s_shown) .none kV7 dc7 pm7 an7 cd7 ct7), sl7⟩) (c7 : PySem.W.codeIn K cd7 "shown" = true) (k7 : PySem.W.keepIn K (.ref f7) = true) (a8 : PySem.W.nsIn K mainGlobals "halted" = some (some (.ref f8))) (l8 : K.lookup f8 = some ⟨oc8, od8, .func (PySem.W.fnOf "halted" "halted" (defArgs s_halted) (defBody s_halted) (defScope s_halted) .none kV8 dc8 pm8 an8 cd8 ct8), sl8⟩) (c8 : PySem.W.codeIn K cd8 "halted" = true) (k8 : PySem.W.keepIn K (.ref f8) = true) (a9 : PySem.W.nsIn K mainGlobals "lapped" = some (some (.ref f9))) (l9 : K.lookup f9 = some ⟨oc9, od9, .func (PySem.W.fnOf "lapped" "lapped" (defArgs s_lapped) (defBody s_lapped) (defScope s_lapped) .none kV9 dc9 pm9 an9 cd9 ct9), sl9⟩) (c9 : PySem.W.codeIn K cd9 "lapped" = true) (k9 : PySem.W.keepIn K (.ref f9) = true) (a10 : PySem.W.nsIn K mainGlobals "cleared" = some (some (.ref f10))) (l10 : K.lookup f10 = some ⟨oc10, od10, .func (PySem.W.fnOf "cleared" "cleared" (defArgs s_cleared) (defBody s_cleared) (defScope s_cleared) .none kV10 dc10 pm10 an10 cd10 ct10), sl10⟩) (c10 : PySem.W.codeIn K cd10 "cleared" = true) (k10 : PySem.W.keepIn K (.ref f10) = true) (a11 : PySem.W.nsIn K mainGlobals "_law_told" = some (some (.ref f11))) (l11 : K.lookup f11 = some ⟨oc11, od11, .func (PySem.W.fnOf "_law_told" "_law_told" (defArgs s_law_told) (defBody s_law_told) (defScope s_law_told) .none kV11 dc11 pm11 an11 cd11 ct11), sl11⟩) (c11 : PySem.W.codeIn K cd11 "_law_told" = true) (k11 : PySem.W.keepIn K (.ref f11) = true) (a12 : PySem.W.nsIn K mainGlobals "lap_sizes" = some (some (.ref f12))) (l12 : K.lookup f12 = some ⟨oc12, od12, .func (PySem.W.fnOf "lap_sizes" "lap_sizes" (defArgs s_lap_sizes) (defBody s_lap_sizes) (defScope s_lap_sizes) .none kV12 dc12 pm12 an12 cd12 ct12), sl12⟩) (c12 : PySem.W.codeIn K cd12 "lap_sizes" = true) (k12 : PySem.W.keepIn K (.ref f12) = true) (a13 : PySem.W.nsIn K mainGlobals "fastest" = some (some (.ref f13))) (l13 : K.lookup f13 = some ⟨oc13, od13, .func (PySem.W.fnOf "fastest" "fastest" (defArgs s_fastest) (defBody s_fastest) (defScope s_fastest) .none kV13 dc13 pm13 an13 cd13 ct13), sl13⟩) (c13 : PySem.W.codeIn K cd13 "fastest" = true) (k13 : PySem.W.keepIn K (.ref f13) = true) (a14 : PySem.W.nsIn K mainGlobals "when_shown" = some (some (.ref f14))) (l14 : K.lookup f14 = some ⟨oc14, od14, .func (PySem.W.fnOf "when_shown" "when_shown" (defArgs s_when_shown) (defBody s_when_shown) (defScope s_when_shown) .none kV14 dc14 pm14 an14 cd14 ct14), sl14⟩) (c14 : PySem.W.codeIn K cd14 "when_shown" = true) (k14 : PySem.W.keepIn K (.ref f14) = true) (a15 : PySem.W.nsIn K mainGlobals "played" = some (some (.ref f15))) (l15 : K.lookup f15 = some ⟨oc15, od15, .func (PySem.W.fnOf "played" "played" (defArgs s_played) (defBody s_played) (defScope s_played) .none kV15 dc15 pm15 an15 cd15 ct15), sl15⟩) (c15 : PySem.W.codeIn K cd15 "played" = true) (k15 : PySem.W.keepIn K (.ref f15) = true) (a16 : PySem.W.nsIn K mainGlobals "_law_refused" = some (some (.ref f16))) (l16 : K.lookup f16 = some ⟨oc16, od16, .func (PySem.W.fnOf "_law_refused" "_law_refused" (defArgs s_law_refused) (defBody s_law_refused) (defScope s_law_refused) .none kV16 dc16 pm16 an16 cd16 ct16), sl16⟩) (c16 : PySem.W.codeIn K cd16 "_law_refused" = true) (k16 : PySem.W.keepIn K (.ref f16) = true) (a17 : PySem.W.nsIn K mainGlobals "law" = some (some (.ref f17))) (l17 : K.lookup f17 = some ⟨oc17, od17, .func (PySem.W.fnOf "law" "law" (defArgs s_law) (defBody s_law) (defScope s_law) .none kV17 dc17 pm17 an17 cd17 ct17), sl17⟩) (c17 : PySem.W.codeIn K cd17 "law" = true) (k17 : PySem.W.keepIn K (.ref f17) = true) (aeEarly : PySem.W.nsIn K mainGlobals "Early" = some (some (.ref CEarly))) (aeNoClock : PySem.W.nsIn K mainGlobals "NoClock" = some (some (.ref CNoClock))) (aeAsleep : PySem.W.nsIn K mainGlobals "Asleep" = some (some (.ref CAsleep))) (aeAwake : PySem.W.nsIn K mainGlobals "Awake" = some (some (.ref CAwake))) (aeRingError : PySem.W.nsIn K mainGlobals "RingError" = some (some (.ref CRingError))) (xq : PySem.W.excIn K CEarly [.type "ValueError", .type "Exception", .type "BaseException", .type "object"] "ValueError.__new__" = true) (xr : PySem.W.excIn K CRingError [.type "ValueError", .type "Exception", .type "BaseException", .type "object"] "ValueError.__new__" = true) (xga : PySem.W.findIn K (.ref CEarly) "__getattribute__" = some (some (.builtin "BaseException.__getattribute__"))) (xgn : PySem.W.findIn K (.ref CEarly) "__getattr__" = some none) (xcl : PySem.W.findIn K (.ref CEarly) "__class__" = some (some (.builtin "object.__class__"))) (xkv : PySem.W.kitOne K (.ref CEarly) (.type "ValueError") = some true) (xkEarly : PySem.W.kitOne K (.ref CEarly) (.ref CEarly) = some true) (xkNoClock : PySem.W.kitOne K (.ref CEarly) (.ref CNoClock) = some false) (xkAsleep : PySem.W.kitOne K (.ref CEarly) (.ref CAsleep) = some false) (xkAwake : PySem.W.kitOne K (.ref CEarly) (.ref CAwake) = some false) (xmr : PySem.W.mroIn K CEarly (.ref CRingError) = some true) (xnr : CEarly ≠ CRingError) (z0 : PySem.W.nsIn K mainGlobals "ValueError" = some none) (z1 : PySem.W.nsIn K mainGlobals "enumerate" = some none) (z2 : PySem.W.nsIn K mainGlobals "int" = some none) (z3 : PySem.W.nsIn K mainGlobals "isinstance" = some none) (z4 : PySem.W.nsIn K mainGlobals "len" = some none) (z5 : PySem.W.nsIn K mainGlobals "list" = some none) (z6 : PySem.W.nsIn K mainGlobals "max" = some none) (z7 : PySem.W.nsIn K mainGlobals "min" = some none) (z8 : PySem.W.nsIn K mainGlobals "range" = some none) (z9 : PySem.W.nsIn K mainGlobals "tuple" = some none) (z10 : PySem.W.nsIn K mainGlobals "zip" = some none) :
    ∃ fd : FuncData, (∀ (s : Shared) (v : Value), BindsTo s fd ⟨[v], []⟩ [("_law_script", v)]) ∧ ∀ base : Heap, K.In base → base.Ns mainGlobals mg → FnOk l.prog w K mg base CX0 5 fa fd ["_law_script"] (spOf K S_law) := by
  obtain ⟨t, T, e1, e2⟩ := tx_mk X G a0 l0 c0 k0 a1 l1 c1 k1 a2 l2 c2 k2 a3 l3 c3 k3 a4 l4 c4 k4 a5 l5 c5 k5 a6 l6 c6 k6 a7 l7 c7 k7 a8 l8 c8 k8 a9 l9 c9 k9 a10 l10 c10 k10 a11 l11 c11 k11 a12 l12 c12 k12 a13 l13 c13 k13 a14 l14 c14 k14 a15 l15 c15 k15 a16 l16 c16 k16 a17 l17 c17 k17 aeEarly aeNoClock aeAsleep aeAwake aeRingError xq xr xga xgn xcl xkv xkEarly xkNoClock xkAsleep xkAwake xmr xnr z0 z1 z2 z3 z4 z5 z6 z7 z8 z9 z10
  have e := hfa.symm.trans T.m_law
  cases e
  refine ⟨t.g_law, fun s v => ?_, fun base KB NB => ok_all T KB NB⟩
  rw [e2]
  exact .of_eq rfl
theorem walk {l : PySem.W.OpenLaw} {q : Program} {loose : List Str} {XP : (Str → Option Value) → Heap → Prop} {YP : World → Heap → Prop} {d : DefRec} {K : Params → PySem.W.Frag} (hn : l.most = some 63) (hdf : d.params.defaults = [])
    (hY : ∀ (w : World) (h : Heap), YP w h → (K w.params).In h)
    (F : ∀ (w : World) (mg : Str → Option Value) (fa : Addr) (h : Heap), (K w.params).In h → h.Ns mainGlobals mg → mg d.name = some (.ref fa) →
      ∃ fd : FuncData, (∀ (s : Shared) (u : Value), BindsTo s fd ⟨[u], []⟩ [("_law_script", u)]) ∧ ∀ base : Heap, (K w.params).In base → base.Ns mainGlobals mg → FnOk l.prog w (K w.params) mg base CX0 5 fa fd ["_law_script"] (spOf (K w.params) S_law)) :
    PySem.W.WalkO q loose XP YP l.row.toRowW d [] (fun f vs => PySem.call f vs) :=
  L2.walk_of (n := 63) (k := 5) (x := "_law_script") (CX := fun _ => CX0) (sp := fun w => spOf (K w.params) S_law) hn (by decide) hdf ⟨rfl, by decide, by decide⟩ hY F
    (fun w H a ns hl _ hS => ⟨H, [.lst (ns.map D.int)], fun d => d = .bl true, Same.refl _, .cons (.lst hS (DenL.ints ns)) .nil, ⟨ns, rfl, hl, rfl⟩, fun v G' H' d _ dv e => by subst e; exact dv.bl_inv⟩) fun _ _ _ _ _ z => z
end Law
open PySem PySem.W PyProof.Rows
set_option maxRecDepth 100000 in
set_option maxHeartbeats 0 in
theorem PySem.Challenge.cw_latebells_k10_watches_holds : PySem.Challenge.rw_latebells_k10_watches.Holds := by
  w_on; o_law; k_head; (case hw => w_witness2)
  k_fill
  refine Law.walk (l := PySem.Challenge.rw_latebells_k10_watches) rfl rfl (fun w h Y => PySem.W.kIn_of Y) ?F
  case F =>
    intro w mg fa h KX G hmg
    refine' Law.law_mk KX G hmg ?a0 ?l0 ?c0 ?k0 ?a1 ?l1 ?c1 ?k1 ?a2 ?l2 ?c2 ?k2 ?a3 ?l3 ?c3 ?k3 ?a4 ?l4 ?c4 ?k4 ?a5 ?l5 ?c5 ?k5 ?a6 ?l6 ?c6 ?k6 ?a7 ?l7 ?c7 ?k7 ?a8 ?l8 ?c8 ?k8 ?a9 ?l9 ?c9 ?k9 ?a10 ?l10 ?c10 ?k10 ?a11 ?l11 ?c11 ?k11 ?a12 ?l12 ?c12 ?k12 ?a13 ?l13 ?c13 ?k13 ?a14 ?l14 ?c14 ?k14 ?a15 ?l15 ?c15 ?k15 ?a16 ?l16 ?c16 ?k16 ?a17 ?l17 ?c17 ?k17 ?aeEarly ?aeNoClock ?aeAsleep ?aeAwake ?aeRingError ?xq ?xr ?xga ?xgn ?xcl ?xkv ?xkEarly ?xkNoClock ?xkAsleep ?xkAwake ?xmr ?xnr ?z0 ?z1 ?z2 ?z3 ?z4 ?z5 ?z6 ?z7 ?z8 ?z9 ?z10
    (case a0 => k_is); (case l0 => k_is); (case c0 => k_is); (case k0 => k_is)
    (case a1 => k_is); (case l1 => k_is); (case c1 => k_is); (case k1 => k_is)
    (case a2 => k_is); (case l2 => k_is); (case c2 => k_is); (case k2 => k_is)
    (case a3 => k_is); (case l3 => k_is); (case c3 => k_is); (case k3 => k_is)
    (case a4 => k_is); (case l4 => k_is); (case c4 => k_is); (case k4 => k_is)
    (case a5 => k_is); (case l5 => k_is); (case c5 => k_is); (case k5 => k_is)
    (case a6 => k_is); (case l6 => k_is); (case c6 => k_is); (case k6 => k_is)
    (case a7 => k_is); (case l7 => k_is); (case c7 => k_is); (case k7 => k_is)
    (case a8 => k_is); (case l8 => k_is); (case c8 => k_is); (case k8 => k_is)
    (case a9 => k_is); (case l9 => k_is); (case c9 => k_is); (case k9 => k_is)
    (case a10 => k_is); (case l10 => k_is); (case c10 => k_is); (case k10 => k_is)
    (case a11 => k_is); (case l11 => k_is); (case c11 => k_is); (case k11 => k_is)
    (case a12 => k_is); (case l12 => k_is); (case c12 => k_is); (case k12 => k_is)
    (case a13 => k_is); (case l13 => k_is); (case c13 => k_is); (case k13 => k_is)
    (case a14 => k_is); (case l14 => k_is); (case c14 => k_is); (case k14 => k_is)
    (case a15 => k_is); (case l15 => k_is); (case c15 => k_is); (case k15 => k_is)
    (case a16 => k_is); (case l16 => k_is); (case c16 => k_is); (case k16 => k_is)
    (case a17 => k_is); (case l17 => k_is); (case c17 => k_is); (case k17 => k_is)
    (case aeEarly => k_is); (case aeNoClock => k_is); (case aeAsleep => k_is); (case aeAwake => k_is)
    (case aeRingError => k_is); (case xq => k_exc); (case xr => k_exc); (case xga => k_is)
    (case xgn => k_is); (case xcl => k_is); (case xkv => kit_is); (case xkEarly => kit_is)
    (case xkNoClock => kit_is); (case xkAsleep => kit_is); (case xkAwake => kit_is); (case xmr => k_is)
    (case xnr => exact (by decide)); (case z0 => k_is); (case z1 => k_is); (case z2 => k_is)
    (case z3 => k_is); (case z4 => k_is); (case z5 => k_is); (case z6 => k_is)
    (case z7 => k_is); (case z8 => k_is); (case z9 => k_is); (case z10 => k_is)
