import PyProof.Rows.All
import Wide.All
import OpenK.AllK
import Wide.FinOn
import Lean
import PyProof.EqAt
import PyProof.EqKinds
import PyProof.TupleCall
import PyProof.NeData
import PyProof.P3In
import PySem.Challenge.RW_latebells_k81_whole_read
set_option compiler.extract_closed false
set_option Elab.async false
set_option linter.all false
set_option maxRecDepth 100000
namespace L2
open PySem PySem.Spec PyProof.Rows
noncomputable abbrev Key := Sum Int Str
noncomputable def keyIs : Key → Value → Bool
  | .inl k, v => Value.isInt k v
  | .inr x, v => Value.isStrOf x v
noncomputable def keyH (w : World) : Key → Int
  | .inl k => hashInt k
  | .inr x => hashStr w x
theorem keyIs_shape : ∀ {k : Key} {v : Value}, keyIs k v = true → (∃ i t, k = Sum.inl i ∧ v = Value.int i t) ∨ (∃ x t, k = Sum.inr x ∧ v = Value.str x t)
  | .inl i, v, h => by
    obtain ⟨t, e⟩ := Value.isInt_shape (k := i) (v := v) h
    exact .inl ⟨i, t, rfl, e⟩
  | .inr x, v, h => by
    obtain ⟨t, e⟩ := Value.isStrOf_shape (x := x) (v := v) h
    exact .inr ⟨x, t, rfl, e⟩
theorem key_ll (a b : Int) : decide ((Sum.inl a : Key) = Sum.inl b) = (a == b) := by
  by_cases e : a = b
  · subst e; simp
  · have h : ¬ (Sum.inl a : Key) = Sum.inl b := fun q => e (Sum.inl.inj q)
    rw [decide_eq_false h]
    exact (beq_eq_false_iff_ne.mpr e).symm
theorem key_rr (a b : Str) : decide ((Sum.inr a : Key) = Sum.inr b) = decide (a = b) := by
  by_cases e : a = b
  · subst e; simp
  · have h : ¬ (Sum.inr a : Key) = Sum.inr b := fun q => e (Sum.inr.inj q)
    rw [decide_eq_false h, decide_eq_false e]
theorem key_lr (a : Int) (b : Str) : decide ((Sum.inl a : Key) = Sum.inr b) = false := decide_eq_false (fun q => nomatch q)
theorem key_rl (a : Str) (b : Int) : decide ((Sum.inr a : Key) = Sum.inl b) = false := decide_eq_false (fun q => nomatch q)
noncomputable def mixKind (prog : Program) (w : World) : PySem.KeyKind prog w Key where
  is := keyIs
  hash := keyH w
  inj := fun v a b ha hb => by
    rcases keyIs_shape ha with ⟨i, t, rfl, rfl⟩ | ⟨x, t, rfl, rfl⟩
    · rcases keyIs_shape hb with ⟨j, u, rfl, e⟩ | ⟨y, u, rfl, e⟩
      · injection e with e1 _; rw [e1]
      · exact nomatch e
    · rcases keyIs_shape hb with ⟨j, u, rfl, e⟩ | ⟨y, u, rfl, e⟩
      · exact nomatch e
      · injection e with e1 _; rw [e1]
  byValue := fun k v h => by
    rcases keyIs_shape h with ⟨i, t, rfl, rfl⟩ | ⟨x, t, rfl, rfl⟩ <;> rfl
  pyHash := fun hv h => by
    rcases keyIs_shape hv with ⟨i, t, rfl, rfl⟩ | ⟨x, t, rfl, rfl⟩
    · exact wpAny_pyHash_int h
    · exact wpAny_pyHash_str h
  eqBool := fun hu hv h => by
    rcases keyIs_shape hu with ⟨i, t, rfl, rfl⟩ | ⟨x, t, rfl, rfl⟩
    · rcases keyIs_shape hv with ⟨j, u, rfl, rfl⟩ | ⟨y, u, rfl, rfl⟩
      · rw [key_ll] at h; exact wpAny_eqBool_int h
      · rw [key_lr] at h; exact SeqAt.EqAt.int_str i t y u _ _ _ _ h
    · rcases keyIs_shape hv with ⟨j, u, rfl, rfl⟩ | ⟨y, u, rfl, rfl⟩
      · rw [key_rl] at h; exact SeqAt.EqAt.str_int x t j u _ _ _ _ h
      · rw [key_rr] at h; exact wpAny_eqBool_str h
  «strs» := fun k x t v h => by
    rcases keyIs_shape h with ⟨i, u, rfl, e⟩ | ⟨y, u, rfl, e⟩
    · exact nomatch e
    · injection e with e1 _
      subst e1
      cases v <;> rfl
end L2
namespace L2
open PySem PySem.Spec PyProof.Rows
inductive V where
  | non | bl (b : Bool) | int (i : Int) | str (x : Str) | byt (b : Array UInt8) | flt (b : UInt64) | ref (a : Addr) | ty (n : String)
  deriving DecidableEq
noncomputable def RelV : V → Value → Prop
  | .non, u => u = Value.none
  | .bl b, u => u = Value.bool b
  | .int i, u => ∃ t, u = Value.int i t
  | .str x, u => ∃ t, u = Value.str x t
  | .byt b, u => ∃ t, u = Value.bytes b t
  | .flt b, u => ∃ t, u = Value.float b t
  | .ref a, u => u = Value.ref a
  | .ty n, u => u = Value.type n
noncomputable abbrev Vals : List V → List Value → Prop := Paired RelV
theorem Vals.length {xs : List V} {us : List Value} (r : Vals xs us) : xs.length = us.length := Paired.length r
theorem Vals.get : ∀ {xs : List V} {us : List Value} {i : Nat} {x : V}, Vals xs us → xs[i]? = some x → ∃ u, us[i]? = some u ∧ RelV x u
  | _, _, _, _, .nil, e => by simp at e
  | _, _, 0, _, .cons r _, e => by simp at e; subst e; exact ⟨_, rfl, r⟩
  | _, _, i + 1, x, .cons _ t, e => by
    obtain ⟨u, h1, h2⟩ := Vals.get (i := i) (x := x) t (by simpa using e)
    exact ⟨u, by simpa using h1, h2⟩
theorem Vals.set {x : V} {u : Value} (r : RelV x u) : ∀ {xs : List V} {us : List Value} (i : Nat), Vals xs us → Vals (xs.set i x) (us.set i u)
  | _, _, _, .nil => .nil
  | _, _, 0, .cons _ t => .cons r t
  | _, _, i + 1, .cons q t => .cons q (Vals.set r i t)
theorem Vals.append : ∀ {xs ys : List V} {us ws : List Value}, Vals xs us → Vals ys ws → Vals (xs ++ ys) (us ++ ws)
  | _, _, _, _, .nil, s => s
  | _, _, _, _, .cons r t, s => .cons r (Vals.append t s)
theorem Vals.take : ∀ {xs : List V} {us : List Value} (n : Nat), Vals xs us → Vals (xs.take n) (us.take n)
  | _, _, 0, _ => .nil
  | _, _, _ + 1, .nil => .nil
  | _, _, n + 1, .cons r t => .cons r (Vals.take n t)
theorem Vals.drop : ∀ {xs : List V} {us : List Value} (n : Nat), Vals xs us → Vals (xs.drop n) (us.drop n)
  | _, _, 0, r => r
  | _, _, _ + 1, .nil => .nil
  | _, _, n + 1, .cons _ t => Vals.drop n t
noncomputable def RelO : Option V → Option Value → Prop
  | some v, some u => RelV v u
  | none, none => True
  | _, _ => False
noncomputable def KV {κ : Type} : List (κ × V) → List (κ × Value) → Prop := Paired fun (p : κ × V) (q : κ × Value) => p.1 = q.1 ∧ RelV p.2 q.2
noncomputable def kV : Key → V
  | .inl i => .int i
  | .inr x => .str x
inductive HO where
  | lst (xs : List V)
  | tup (xs : List V)
  | dK (kvs : List (Key × V)) | dT (kvs : List (List Key × V))
  | set (S : Int → Bool) (n : Nat)
  | ins (C dx : Addr) (fs : List (Str × V))
  | own (x : Addr)
  | xd (fs : List (Str × V))
  | met (f x : Addr)
  | rng (lo hi : Int)
  | frz (o : Obj) (u : HO)
  | tbl (ps : Array Value)
  | ext (φ : Heap → Prop)
noncomputable abbrev Hp := Addr → Option HO
noncomputable def upd (H : Hp) (a : Addr) (o : HO) : Hp := fun b => if b = a then some o else H b
theorem upd_same {H : Hp} {a : Addr} {o : HO} : upd H a o a = some o := by unfold upd; rw [if_pos rfl]
theorem upd_ne {H : Hp} {a b : Addr} {o : HO} (h : b ≠ a) : upd H a o b = H b := by unfold upd; rw [if_neg h]
theorem ne_of_none {H : Hp} {a b : Addr} {o : HO} (h : H a = some o) (h' : H b = none) : a ≠ b := by
  intro e; subst e; rw [h] at h'; cases h'
section
variable (P : Program) (w : World)
noncomputable def ObjOk (H : Hp) (h : Heap) (a : Addr) : HO → Prop
  | .lst xs => xs.length ≤ sizeLine ∧ ∃ (its : List Value) (n : Nat), Vals xs its ∧ h.get? a = some { cls := .type "list", data := .seq its.toArray n }
  | .tup xs => xs.length ≤ sizeLine ∧ ∃ its : List Value, Vals xs its ∧ IsTup h a its.toArray
  | .dK kvs => kvs.length ≤ sizeLine ∧ (a == sysModules) = false ∧ ∃ vs, KV kvs vs ∧ h.DictOf (mixKind P w) a vs
  | .dT kvs => kvs.length ≤ sizeLine ∧ (a == sysModules) = false ∧ ∃ xs : List (List Key × Addr × Value),
      Paired (fun (p : List Key × V) (q : List Key × Addr × Value) => p.1 = q.1 ∧ H q.2.1 = some (.tup (p.1.map kV)) ∧ RelV p.2 q.2.2) kvs xs ∧
      ∃ o es ep, h.get? a = some o ∧ o.ExactDict ∧ o.data = .dict es ep ∧ es.toList = xs.map (entryOfKey (tupleKind (mixKind P w))) ∧ (xs.map (·.1)).Nodup
  | .set S n => h.SetOf (intKind P w) a S n
  | .ins C dx fs => H dx = some (.own a) ∧ fs.length ≤ 1000 ∧ dx ≠ a ∧ h.get? a = some (PySem.W.instObj C dx) ∧
      ∃ mA, h.Ns1 dx mA ∧ (∀ f, RelO (fs.lookup f) (mA f)) ∧ PySem.Within mA (fs.map (·.1))
  | .own _ => ∃ o, h.get? a = some o
  | .xd fs => ∃ mA, h.Ns1 a mA ∧ ∀ f, RelO (fs.lookup f) (mA f)
  | .rng lo hi => ∃ t u v, h.get? a = some { cls := .type "range", data := .fields #[.int lo t, .int hi u, .int 1 v] }
  | .frz o u => h.get? a = some o ∧ ObjOk H h a u
  | .tbl ps => h.get? a = some { cls := .none, data := .fields ps }
  | .met f x => h.get? a = some (PySem.W.methodObj (.ref f) (.ref x))
  | .ext φ => φ h ∧ (∃ o, h.get? a = some o) ∧ ∀ h1 h2 : Heap, φ h1 → (∀ o, h1.get? a = some o → h2.get? a = some o) → φ h2
noncomputable def HOk (H : Hp) (h : Heap) : Prop := ∀ a o, H a = some o → ObjOk P w H h a o
end
section
variable {P : Program} {w : World} {H H' : Hp} {h h' : Heap} {a : Addr} {o : HO}
theorem ObjOk.lt (x : ObjOk P w H h a o) : a < h.objs.size := by
  cases o with
  | lst xs => obtain ⟨_, _, _, _, e⟩ := x; exact Heap.lt_size e
  | tup xs => obtain ⟨_, _, _, p⟩ := x; exact p.lt
  | dK kvs => obtain ⟨_, _, _, _, o, _, _, e, _⟩ := x; exact Heap.lt_size e
  | dT kvs => obtain ⟨_, _, _, _, o, _, _, e, _⟩ := x; exact Heap.lt_size e
  | set S n => obtain ⟨o, _, _, _, e, _⟩ := x; exact Heap.lt_size e
  | ins C dx fs => obtain ⟨_, _, _, e, _⟩ := x; exact Heap.lt_size e
  | own y => obtain ⟨_, e⟩ := x; exact Heap.lt_size e
  | xd fs => obtain ⟨_, ⟨_, _, _, e, _⟩, _⟩ := x; exact Heap.lt_size e
  | rng lo hi => obtain ⟨_, _, _, e⟩ := x; exact Heap.lt_size e
  | frz ob u => obtain ⟨e, _⟩ := x; exact Heap.lt_size e
  | tbl ps => exact Heap.lt_size (show h.get? a = some _ from x)
  | met f y => exact Heap.lt_size (show h.get? a = some _ from x)
  | ext φ => obtain ⟨_, ⟨_, e⟩, _⟩ := x; exact Heap.lt_size e
theorem Paired.mapP {α β : Type} {F G : α → β → Prop} : ∀ {l₁ : List α} {l₂ : List β}, Paired F l₁ l₂ → (∀ a b, F a b → G a b) → Paired G l₁ l₂
  | _, _, .nil, _ => .nil
  | _, _, .cons r t, f => .cons (f _ _ r) (Paired.mapP t f)
theorem ObjOk.stay (x : ObjOk P w H h a o) (k : ∀ b u, (b = a ∨ H b = some (.own a)) → h.get? b = some u → h'.get? b = some u)
    (ho : ∀ b, H b = some (.own a) → H' b = some (.own a)) (ht : ∀ b xs, H b = some (.tup xs) → H' b = some (.tup xs)) : ObjOk P w H' h' a o := by
  induction o with
  | lst xs => obtain ⟨z, its, n, r, e⟩ := x; exact ⟨z, its, n, r, k _ _ (.inl rfl) e⟩
  | tup xs => obtain ⟨z, its, r, ob, e, c⟩ := x; exact ⟨z, its, r, ob, k _ _ (.inl rfl) e, c⟩
  | dK kvs => obtain ⟨z, y, vs, r, ob, es, ep, e, c⟩ := x; exact ⟨z, y, vs, r, ob, es, ep, k _ _ (.inl rfl) e, c⟩
  | dT kvs =>
    obtain ⟨z, y, xs, r, ob, es, ep, e, c⟩ := x
    exact ⟨z, y, xs, Paired.mapP r fun p q z => ⟨z.1, ht _ _ z.2.1, z.2.2⟩, ob, es, ep, k _ _ (.inl rfl) e, c⟩
  | set S n => obtain ⟨ob, es, ep, t, e, c⟩ := x; exact ⟨ob, es, ep, t, k _ _ (.inl rfl) e, c⟩
  | ins C dx fs =>
    obtain ⟨d, z, ne, e, mA, ⟨od, es, ep, e2, c⟩, r⟩ := x
    exact ⟨ho _ d, z, ne, k _ _ (.inl rfl) e, mA, ⟨od, es, ep, k _ _ (.inr d) e2, c⟩, r⟩
  | own y => obtain ⟨ob, e⟩ := x; exact ⟨ob, k _ _ (.inl rfl) e⟩
  | xd fs => obtain ⟨mA, ⟨od, es, ep, e, c⟩, r⟩ := x; exact ⟨mA, ⟨od, es, ep, k _ _ (.inl rfl) e, c⟩, r⟩
  | rng lo hi => obtain ⟨t, u, v, e⟩ := x; exact ⟨t, u, v, k _ _ (.inl rfl) e⟩
  | frz ob u ih => obtain ⟨e, q⟩ := x; exact ⟨k _ _ (.inl rfl) e, ih q⟩
  | tbl ps =>
    have e : h.get? a = some { cls := .none, data := .fields ps } := x
    show h'.get? a = some { cls := .none, data := .fields ps }
    exact k a _ (.inl rfl) e
  | met f y =>
    have e : h.get? a = some (PySem.W.methodObj (.ref f) (.ref y)) := x
    show h'.get? a = some (PySem.W.methodObj (.ref f) (.ref y))
    exact k a _ (.inl rfl) e
  | ext φ => obtain ⟨p, ⟨o, e⟩, st⟩ := x; exact ⟨st _ _ p fun o q => k _ _ (.inl rfl) q, ⟨o, k _ _ (.inl rfl) e⟩, st⟩
theorem HOk.lt (x : HOk P w H h) (e : H a = some o) : a < h.objs.size := (x a o e).lt
theorem HOk.fresh (x : HOk P w H h) (e : h.objs.size ≤ a) : H a = none := by
  cases q : H a with
  | none => rfl
  | some u => exact absurd (Nat.lt_of_lt_of_le (x.lt q) e) (Nat.lt_irrefl _)
theorem HOk.kept (x : HOk P w H h) (k : ∀ b u, h.get? b = some u → h'.get? b = some u) : HOk P w H h' := fun a o e =>
  (x a o e).stay (fun b u _ q => k b u q) (fun _ q => q) fun _ _ q => q
theorem HOk.laid (x : HOk P w H h) (k : ∀ b u, h.get? b = some u → h'.get? b = some u) (hp : h.objs.size ≤ a) (new : ObjOk P w (upd H a o) h' a o) : HOk P w (upd H a o) h' := fun b u e => by
  have hn := x.fresh hp
  by_cases hb : b = a
  · subst hb; rw [upd_same] at e; cases e; exact new
  · rw [upd_ne hb] at e
    exact (x b u e).stay (fun c v _ q => k c v q) (fun c q => by rw [upd_ne (ne_of_none q hn)]; exact q) fun c xs q => by rw [upd_ne (ne_of_none q hn)]; exact q
end
noncomputable def Rd (H : Hp) (a : Addr) (u : HO) : Prop := H a = some u ∨ ∃ o, H a = some (.frz o u)
theorem Rd.of {H : Hp} {a : Addr} {u : HO} (h : H a = some u) : Rd H a u := .inl h
theorem Rd.ok {P : Program} {w : World} {H : Hp} {h : Heap} {a : Addr} {u : HO} (r : Rd H a u) (x : HOk P w H h) : ObjOk P w H h a u := by
  rcases r with r | ⟨o, r⟩
  · exact x a u r
  · obtain ⟨_, q⟩ := x a _ r
    exact q
noncomputable def Mut : Option HO → Prop
  | some (.lst _) => True
  | some (.dK _) => True
  | some (.dT _) => True
  | some (.set _ _) => True
  | some (.ins _ _ _) => True
  | some (.ext _) => True
  | _ => False
section
variable {P : Program} {w : World} {H : Hp} {h h' : Heap} {x e : Addr} {o' : HO}
theorem HOk.write (ok : HOk P w H h) (mu : Mut (H x)) (he : e = x ∨ H e = some (.own x)) (k : ∀ b u, b ≠ e → h.get? b = some u → h'.get? b = some u) (heo : ∃ u, h'.get? e = some u)
    (new : ObjOk P w (upd H x o') h' x o') : HOk P w (upd H x o') h' := fun b u q => by
  have nown : ∀ c y, H c = some (.own y) → c ≠ x := fun c y r z => by subst z; rw [r] at mu; exact mu
  have ntup : ∀ c xs, H c = some (.tup xs) → c ≠ x := fun c xs r z => by subst z; rw [r] at mu; exact mu
  by_cases hb : b = x
  · subst hb; rw [upd_same] at q; cases q; exact new
  · rw [upd_ne hb] at q
    by_cases hbe : b = e
    · have q' : H b = some (.own x) := by
        rcases he with z | z
        · exact absurd (hbe.trans z) hb
        · rw [hbe]; exact z
      rw [q] at q'; cases q'
      obtain ⟨v, hv⟩ := heo
      exact ⟨v, by rw [hbe]; exact hv⟩
    · refine (ok b u q).stay (fun c v hc r => k c v ?_ r) (fun c r => by rw [upd_ne (nown c b r)]; exact r) fun c xs r => by rw [upd_ne (ntup c xs r)]; exact r
      rcases hc with rfl | hc
      · exact hbe
      · rintro rfl
        rcases he with z | z
        · exact nown c b hc z
        · rw [hc] at z; cases z; exact hb rfl
end
structure Un (fs ex : List Addr) (H H' : Hp) (h h' : Heap) : Prop where
  keep : ∀ b o, h.get? b = some o → H b = none → b ∉ fs → b ∉ ex → h'.get? b = some o
  slot : ∀ b o, h.get? b = some o → H b = none → b ∈ fs → b ∉ ex → ∃ sl, h'.get? b = some { o with slots := sl }
  free : ∀ b o, h.get? b = some o → H b = none → b ∉ ex → H' b = none
  there : ∀ b o, h.get? b = some o → b ∉ ex → ∃ o', h'.get? b = some o'
  tups : ∀ b xs, H b = some (.tup xs) → H' b = some (.tup xs)
  frzs : ∀ b o u, H b = some (.frz o u) → H' b = some (.frz o u)
  tbls : ∀ b ps, H b = some (.tbl ps) → ∃ more, H' b = some (.tbl (ps ++ more))
section
variable {fs fs' ex ex' : List Addr} {H H1 H2 : Hp} {h h1 h2 h' : Heap} {a x e : Addr} {o : HO}
theorem Un.any (u : Un fs ex H H1 h h1) {b : Addr} {ob : Obj} (q : h.get? b = some ob) (n : H b = none) (hx : b ∉ ex) : ∃ sl, h1.get? b = some { ob with slots := sl } := by
  by_cases hb : b ∈ fs
  · exact u.slot b ob q n hb hx
  · exact ⟨ob.slots, u.keep b ob q n hb hx⟩
theorem Un.trans (a : Un fs ex H H1 h h1) (b : Un fs ex H1 H2 h1 h2) : Un fs ex H H2 h h2 where
  keep := fun c ob q n hc hx => b.keep c ob (a.keep c ob q n hc hx) (a.free c ob q n hx) hc hx
  slot := fun c ob q n hc hx => by
    obtain ⟨sl, e1⟩ := a.slot c ob q n hc hx
    obtain ⟨sl', e2⟩ := b.slot c _ e1 (a.free c ob q n hx) hc hx
    exact ⟨sl', e2⟩
  free := fun c ob q n hx => by
    obtain ⟨o', e1⟩ := a.there c ob q hx
    exact b.free c o' e1 (a.free c ob q n hx) hx
  there := fun c ob q hx => by
    obtain ⟨o', e1⟩ := a.there c ob q hx
    exact b.there c o' e1 hx
  tups := fun c xs q => b.tups c xs (a.tups c xs q)
  frzs := fun c ob xs q => b.frzs c ob xs (a.frzs c ob xs q)
  tbls := fun c ps q => by
    obtain ⟨m1, e1⟩ := a.tbls c ps q
    obtain ⟨m2, e2⟩ := b.tbls c _ e1
    exact ⟨m1 ++ m2, by rw [e2, Array.append_assoc]⟩
theorem Un.kept (k : ∀ b u, h.get? b = some u → h'.get? b = some u) : Un fs ex H H h h' :=
  ⟨fun b ob q _ _ _ => k b ob q, fun b ob q _ _ _ => ⟨ob.slots, k b ob q⟩, fun _ _ _ n _ => n, fun b ob q _ => ⟨ob, k b ob q⟩, fun _ _ q => q, fun _ _ _ q => q, fun _ ps q => ⟨#[], by rw [q]; simp⟩⟩
theorem Un.refl : Un fs ex H H h h := Un.kept fun _ _ q => q
theorem Un.laid (k : ∀ b u, h.get? b = some u → h'.get? b = some u) (hp : h.objs.size ≤ a) (hn : H a = none) : Un fs ex H (upd H a o) h h' where
  keep := fun b u q _ _ _ => k b u q
  slot := fun b u q _ _ _ => ⟨u.slots, k b u q⟩
  free := fun b u q n _ => by rw [upd_ne (Nat.ne_of_lt (Nat.lt_of_lt_of_le (Heap.lt_size q) hp))]; exact n
  there := fun b u q _ => ⟨u, k b u q⟩
  tups := fun b xs q => by rw [upd_ne (ne_of_none q hn)]; exact q
  frzs := fun b u xs q => by rw [upd_ne (ne_of_none q hn)]; exact q
  tbls := fun b ps q => ⟨#[], by rw [upd_ne (ne_of_none q hn), q]; simp⟩
theorem Un.write (mu : Mut (H x)) (he : e = x ∨ H e = some (.own x)) (k : ∀ b u, b ≠ e → h.get? b = some u → h'.get? b = some u) (heo : ∃ u, h'.get? e = some u) : Un fs ex H (upd H x o) h h' := by
  have hx : ∀ b, H b = none → b ≠ x := fun b n z => by subst z; rw [n] at mu; exact mu
  have hb : ∀ b, H b = none → b ≠ e := fun b n z => by
    subst z
    rcases he with r | r
    · exact hx b n r
    · rw [n] at r; cases r
  have hm : ∀ b u, H b = some u → ¬ Mut (some u) → b ≠ x := fun b u q nm z => by subst z; rw [q] at mu; exact nm mu
  refine ⟨fun b u q n _ _ => k b u (hb b n) q, fun b u q n _ _ => ⟨u.slots, k b u (hb b n) q⟩, fun b u q n _ => by rw [upd_ne (hx b n)]; exact n, fun b u q _ => ?_,
    fun b xs q => by rw [upd_ne (hm b _ q fun z => z)]; exact q, fun b u xs q => by rw [upd_ne (hm b _ q fun z => z)]; exact q, fun b ps q => ⟨#[], by rw [upd_ne (hm b _ q fun z => z), q]; simp⟩⟩
  by_cases hbe : b = e
  · subst hbe; exact heo
  · exact ⟨u, k b u hbe q⟩
theorem Un.mono (u : Un fs ex H H1 h h1) (hs : ∀ b ∈ fs, b ∈ fs') (hx : ∀ b ∈ ex, b ∈ ex') : Un fs' ex' H H1 h h1 :=
  ⟨fun b ob q n hb he => u.keep b ob q n (fun z => hb (hs b z)) fun z => he (hx b z), fun _ _ q n _ he => u.any q n fun z => he (hx _ z), fun b ob q n he => u.free b ob q n fun z => he (hx b z), fun b ob q he => u.there b ob q fun z => he (hx b z), u.tups, u.frzs, u.tbls⟩
end
noncomputable def trk (h : Heap) (H : Hp) : List Addr := (List.range h.objs.size).filter fun a => (H a).isSome
noncomputable def hidT (h : Heap) (H : Hp) : Heap := PySem.W.hideAll h (trk h H)
theorem hidT_size (h : Heap) (H : Hp) : (hidT h H).objs.size = h.objs.size := PySem.W.hideAll_size _ _
theorem hidT_get {h : Heap} {H : Hp} {b : Addr} {o : Obj} (e : h.get? b = some o) (n : H b = none) : (hidT h H).get? b = some o :=
  PySem.W.hideAll_get _ e fun hm => by
    have q : (H b).isSome = true := (List.mem_filter.mp hm).2
    rw [n] at q; simp at q
theorem of_hidT {h : Heap} {H : Hp} {b : Addr} {o : Obj} (e : (hidT h H).get? b = some o) : h.get? b = some o ∧ H b = none := by
  have e' : h.get? b = some o := PySem.W.of_hideAll (trk h H) e
  refine ⟨e', ?_⟩
  cases q : H b with
  | none => rfl
  | some x =>
    have hm : b ∈ trk h H := List.mem_filter.mpr ⟨List.mem_range.mpr (Heap.lt_size e'), by simp [q]⟩
    have z : (hidT h H).get? b = none := PySem.W.hideAll_none (trk h H) hm
    rw [z] at e; cases e
noncomputable def allNews (g h : Heap) (L : Addr) : List (Addr × Obj) := (List.range h.objs.size).filterMap fun a => if a = L ∨ (g.get? a).isSome = true then none else (h.get? a).map fun o => (a, o)
noncomputable def rest (g h : Heap) (L d : Addr) : List (Addr × Obj) := (allNews g h L).filter fun p => decide (p.1 ≠ d)
end L2
namespace L2
open PySem PySem.Spec PyProof.Rows
structure Mod (K : PySem.W.Frag) (mg : Str → Option Value) (base : Heap) : Prop where
  kin : K.In base
  glob : base.Ns mainGlobals mg
  blt : ∃ mb, base.Ns builtinsNs mb ∧ ∀ x : Str, x ≠ "__name__" → mb x = bootBuiltins x
  nolimit : base.NoLimit
structure Cx where
  prog : Program
  w : World
  K : PySem.W.Frag
  mg : Str → Option Value
  base : Heap
  A : Around
  N : List Str
  s₀ : Shared
  H₀ : Hp
  env : Env
  outer : List Env
  stack : List Env
  ex : List Addr
  fn : Str → Bool
  calm : Bool
  pn : List (Addr × Obj)
  xe : Value → Shared → Prop
noncomputable def frs (l : List Env) : List Addr := l.filterMap (·.frame)
noncomputable abbrev Cx.fs (X : Cx) : List Addr := frs X.outer
noncomputable def Vis (sc : Scope) (x : Str) : Prop := sc.names.lookup x = some .local ∨ sc.names.lookup x = some .cell ∨ sc.names.lookup x = some .free
noncomputable def Loc (sc : Scope) (x : Str) : Prop := sc.names.lookup x = some .local ∨ sc.names.lookup x = some .cell
noncomputable def Look (env : Env) (h : Heap) (m : Str → Option Value) (x : Str) (u : Value) : Prop :=
  (env.kindOf x = some .local ∧ m x = some u) ∨ ((env.kindOf x = some .cell ∨ env.kindOf x = some .free) ∧ ∃ c, env.cells.lookup x = some c ∧ h.IsCell c (some u))
structure Cx.Ok (X : Cx) : Prop where
  mod : Mod X.K X.mg X.base
  kind : X.env.scope.kind = .function
  glob : X.env.globals = mainGlobals
  blt : X.env.builtins = builtinsNs
  above : X.s₀.heap.objs.size ≤ X.env.locals
  inj : ∀ x y c, X.env.cells.lookup x = some c → X.env.cells.lookup y = some c → x = y
  has : ∀ x, (X.env.kindOf x = some .cell ∨ X.env.kindOf x = some .free) → ∃ c, X.env.cells.lookup x = some c
  cab : ∀ x c, X.fn x = true → X.env.cells.lookup x = some c → X.s₀.heap.objs.size ≤ c
  hd : X.calm = true → X.A.handled = none
  frames : X.A.frames = some X.stack
  stk : X.stack = X.outer ∨ (X.stack = X.env :: X.outer ∧ X.env.frame = some X.env.locals)
  exf : ∀ b ∈ X.ex, b ≠ X.env.locals ∧ ∀ x c, X.env.cells.lookup x = some c → c ≠ b
  bs : ∀ b o, X.base.get? b = some o → X.s₀.heap.get? b = some o ∧ X.H₀ b = none
  bsz : X.base.objs.size ≤ X.s₀.heap.objs.size
  noex : ∀ b o, X.base.get? b = some o → b ∉ X.ex
  exfs : ∀ b ∈ X.ex, b ∉ X.fs
  funs : X.s₀.heap.FunFrames X.base X.outer
  frf : ∀ b ∈ X.fs, X.H₀ b = none
structure Inv (X : Cx) (pins : List (Addr × Obj)) (σ : List (Option V)) (H : Hp) (s : Shared) : Prop where
  ok : X.Ok
  os : s.os = X.s₀.os
  bare : AllBare s.gens
  base : Un X.fs X.ex X.H₀ H X.s₀.heap s.heap
  loc : ∃ m, s.heap.Ns X.env.locals m ∧ ∀ (i : Nat) (x : Str) (v : V), X.N[i]? = some x → σ[i]? = some (some v) → Vis X.env.scope x → ∃ u, RelV v u ∧ Look X.env s.heap m x u
  cell : ∀ x c, X.env.cells.lookup x = some c → ∃ v, s.heap.IsCell c v
  free : H X.env.locals = none
  freeC : ∀ x c, X.env.cells.lookup x = some c → H c = none
  pin : ∀ p ∈ X.pn ++ pins, s.heap.get? p.1 = some p.2 ∧ H p.1 = none ∧ p.1 ≠ X.env.locals ∧ p.1 ∉ X.fs ∧ ∀ v, p.2.data ≠ .cell v
  hok : HOk X.prog X.w H s.heap
  len : σ.length = X.N.length
section
variable {X : Cx} {pins : List (Addr × Obj)} {σ : List (Option V)} {H H' : Hp} {s : Shared} {h' : Heap}
theorem Cx.Ok.nofr (ok : X.Ok) {b : Addr} {o : Obj} (e : X.base.get? b = some o) : b ∉ X.fs := fun hb => by
  have := (ok.funs.mem hb).1
  rw [e] at this; cases this
theorem Inv.bs (I : Inv X pins σ H s) : ∀ b o, X.base.get? b = some o → s.heap.get? b = some o ∧ H b = none := fun b o e =>
  ⟨I.base.keep b o (I.ok.bs b o e).1 (I.ok.bs b o e).2 (I.ok.nofr e) (I.ok.noex b o e), I.base.free b o (I.ok.bs b o e).1 (I.ok.bs b o e).2 (I.ok.noex b o e)⟩
theorem Inv.bk (I : Inv X pins σ H s) : ∀ b o, X.base.get? b = some o → s.heap.get? b = some o := fun b o e => (I.bs b o e).1
theorem Inv.mod (I : Inv X pins σ H s) : Mod X.K X.mg X.base := I.ok.mod
theorem Inv.kIn (I : Inv X pins σ H s) : X.K.In s.heap := I.ok.mod.kin.keeps I.bk
theorem Inv.nolimit (I : Inv X pins σ H s) : s.heap.NoLimit := I.ok.mod.nolimit.keeps I.bk
theorem Inv.fr (I : Inv X pins σ H s) : ∃ m, Fr X.base X.env.locals s.heap m :=
  let ⟨m, hn, _⟩ := I.loc
  ⟨m, hn, I.bk, Nat.le_trans I.ok.bsz I.ok.above⟩
theorem Inv.lt (I : Inv X pins σ H s) : X.env.locals < s.heap.objs.size := let ⟨_, hn, _⟩ := I.loc; hn.lt
theorem Inv.sz (I : Inv X pins σ H s) : X.s₀.heap.objs.size ≤ s.heap.objs.size := Nat.le_trans I.ok.above (Nat.le_of_lt I.lt)
theorem Inv.nofs (I : Inv X pins σ H s) {a : Addr} (h : s.heap.objs.size ≤ a) : a ∉ X.fs := fun hb => by
  obtain ⟨_, o, ho, _⟩ := I.ok.funs.mem hb
  exact absurd (Nat.lt_of_lt_of_le (Heap.lt_size ho) (Nat.le_trans I.sz h)) (Nat.lt_irrefl _)
theorem Inv.cne (I : Inv X pins σ H s) : ∀ x c, X.env.cells.lookup x = some c → c ≠ X.env.locals := fun x c e z => by
  obtain ⟨v, o, ho, hd⟩ := I.cell x c e
  obtain ⟨m, ⟨o', es, ep, ho', hd', _⟩, _⟩ := I.loc
  rw [z, ho'] at ho; cases ho; rw [hd'] at hd; cases hd
theorem Inv.funs (I : Inv X pins σ H s) : s.heap.FunFrames X.base X.outer := by
  have all : ∀ (l : List Env), (∀ b ∈ frs l, b ∈ X.fs) → X.s₀.heap.FunFrames X.base l → s.heap.FunFrames X.base l := by
    intro l
    induction l with
    | nil => intro _ _; trivial
    | cons env r ih =>
      intro hs hl
      obtain ⟨hk, ⟨L, o, hf, hn, ho, hd⟩, hr⟩ := hl
      have hL : L ∈ X.fs := hs L (by unfold frs; rw [List.filterMap_cons, hf]; exact List.mem_cons_self)
      obtain ⟨sl, e⟩ := I.base.slot L o ho (I.ok.frf L hL) hL fun z => I.ok.exfs L z hL
      exact ⟨hk, ⟨L, _, hf, hn, e, hd⟩, ih (fun b hb => hs b (by unfold frs; rw [List.filterMap_cons, hf]; exact List.mem_cons_of_mem _ hb)) hr⟩
  exact all X.outer (fun _ hb => hb) I.ok.funs
theorem Inv.stack (I : Inv X pins σ H s) : s.heap.FunFrames X.base X.stack := by
  rcases I.ok.stk with e | ⟨e, hf⟩
  · rw [e]; exact I.funs
  · rw [e]
    obtain ⟨m, hn, _⟩ := I.loc
    refine .cons (by rw [I.ok.kind]; decide) hf hn ?_ I.funs
    exact Heap.get?_none_of_le (Nat.le_trans I.ok.bsz I.ok.above)
theorem Inv.stkSub (I : Inv X pins σ H s) : ∀ b ∈ frs X.stack, b ∈ X.env.locals :: X.fs := fun b hb => by
  rcases I.ok.stk with e | ⟨e, hf⟩
  · rw [e] at hb; exact List.mem_cons_of_mem _ hb
  · rw [e] at hb
    unfold frs at hb
    rw [List.filterMap_cons, hf] at hb
    exact hb
theorem Inv.stkFree (I : Inv X pins σ H s) : ∀ b ∈ frs X.stack, H b = none := fun b hb => by
  rcases List.mem_cons.mp (I.stkSub b hb) with e | hb
  · rw [e]; exact I.free
  · obtain ⟨_, o, ho, _⟩ := I.ok.funs.mem hb
    exact I.base.free b o ho (I.ok.frf b hb) fun z => I.ok.exfs b z hb
theorem Inv.step {g' : Array GenState} {t' : Nat} {d' : Drawn} {ch : List Addr} (I : Inv X pins σ H s)
    (hch : ∀ b ∈ ch, (b ∈ X.ex ∨ X.s₀.heap.objs.size ≤ b) ∧ b ≠ X.env.locals ∧ (∀ x c, X.env.cells.lookup x = some c → c ≠ b) ∧ ∀ p ∈ X.pn ++ pins, p.1 ≠ b)
    (keep : ∀ b o, b ≠ X.env.locals → b ∉ X.fs → b ∉ ch → s.heap.get? b = some o → H b = none → h'.get? b = some o)
    (slot : ∀ b o, b ≠ X.env.locals → b ∈ X.fs → b ∉ ch → s.heap.get? b = some o → H b = none → ∃ sl, h'.get? b = some { o with slots := sl }) (free : ∀ b o, b ∉ ch → s.heap.get? b = some o → H b = none → H' b = none)
    (there : ∀ b o, b ∉ ch → s.heap.get? b = some o → ∃ o', h'.get? b = some o')
    (tups : ∀ b xs, H b = some (.tup xs) → H' b = some (.tup xs)) (frzs : ∀ b o u, H b = some (.frz o u) → H' b = some (.frz o u)) (tbls : ∀ b ps, H b = some (.tbl ps) → ∃ more, H' b = some (.tbl (ps ++ more)))
    (ns : ∀ m, s.heap.Ns X.env.locals m → h'.Ns X.env.locals m) (hok : HOk X.prog X.w H' h') (hg : AllBare g') :
    Inv X pins σ H' { s with heap := h', gens := g', drawn := d', toks := t' } := by
  have neL : ∀ b o, X.s₀.heap.get? b = some o → b ≠ X.env.locals := fun b o e => Nat.ne_of_lt (Nat.lt_of_lt_of_le (Heap.lt_size e) I.ok.above)
  have neC : ∀ b o, X.s₀.heap.get? b = some o → b ∉ X.ex → b ∉ ch := fun b o e hx hb => by
    rcases (hch b hb).1 with z | z
    · exact hx z
    · exact absurd (Nat.lt_of_lt_of_le (Heap.lt_size e) z) (Nat.lt_irrefl _)
  have cellK : ∀ x c, X.env.cells.lookup x = some c → ∀ v, s.heap.IsCell c v → h'.IsCell c v := fun x c e v ⟨o, ho, hd⟩ => by
    have nch : c ∉ ch := fun z => (hch c z).2.2.1 x c e rfl
    by_cases hc : c ∈ X.fs
    · obtain ⟨sl, q⟩ := slot c o (I.cne x c e) hc nch ho (I.freeC x c e)
      exact ⟨_, q, hd⟩
    · exact ⟨o, keep c o (I.cne x c e) hc nch ho (I.freeC x c e), hd⟩
  refine ⟨I.ok, I.os, hg, ⟨fun b o e n hb hx => ?_, fun b o e n hb hx => ?_, fun b o e n hx => ?_, fun b o e hx => ?_, fun b xs e => tups b xs (I.base.tups b xs e), fun b o xs e => frzs b o xs (I.base.frzs b o xs e), fun b ps e => ?_⟩, ?_, fun x c e => ?_, ?_, fun x c e => ?_, fun p hp => ?_, hok, I.len⟩
  · exact keep b o (neL b o e) hb (neC b o e hx) (I.base.keep b o e n hb hx) (I.base.free b o e n hx)
  · obtain ⟨sl, e1⟩ := I.base.slot b o e n hb hx
    obtain ⟨sl', e2⟩ := slot b _ (neL b o e) hb (neC b o e hx) e1 (I.base.free b o e n hx)
    exact ⟨sl', e2⟩
  · obtain ⟨o', e1⟩ := I.base.there b o e hx
    exact free b o' (neC b o e hx) e1 (I.base.free b o e n hx)
  · obtain ⟨o', e1⟩ := I.base.there b o e hx
    exact there b o' (neC b o e hx) e1
  · obtain ⟨m1, e1⟩ := I.base.tbls b ps e
    obtain ⟨m2, e2⟩ := tbls b _ e1
    exact ⟨m1 ++ m2, by rw [e2, Array.append_assoc]⟩
  · obtain ⟨m, hn, hl⟩ := I.loc
    refine ⟨m, ns m hn, fun i x v e1 e2 e3 => ?_⟩
    obtain ⟨u, r, l⟩ := hl i x v e1 e2 e3
    refine ⟨u, r, ?_⟩
    rcases l with l | ⟨k, c, e, z⟩
    · exact .inl l
    · exact .inr ⟨k, c, e, cellK x c e _ z⟩
  · obtain ⟨v, z⟩ := I.cell x c e
    exact ⟨v, cellK x c e v z⟩
  · obtain ⟨m, ⟨o, _, _, ho, _⟩, _⟩ := I.loc
    exact free _ o (fun z => (hch _ z).2.1 rfl) ho I.free
  · obtain ⟨v, o, ho, hd⟩ := I.cell x c e
    exact free c o (fun z => (hch c z).2.2.1 x c e rfl) ho (I.freeC x c e)
  · obtain ⟨e, n, ne, nf, d⟩ := I.pin p hp
    have nch : p.1 ∉ ch := fun z => (hch p.1 z).2.2.2 p hp rfl
    exact ⟨keep p.1 p.2 ne nf nch e n, free p.1 p.2 nch e n, ne, nf, d⟩
theorem Inv.un {t' : Nat} (I : Inv X pins σ H s) (u : Un X.fs [] H H' s.heap h') (hok : HOk X.prog X.w H' h') : Inv X pins σ H' { s with heap := h', toks := t' } := by
  obtain ⟨m, ⟨o, es, ep, ho, r⟩, _⟩ := id I.loc
  obtain ⟨sl, hL⟩ := u.any ho I.free (by simp)
  exact I.step (g' := s.gens) (d' := s.drawn) (ch := []) (fun _ z => nomatch z) (fun b o _ hb _ e n => u.keep b o e n hb (by simp)) (fun b o _ hb _ e n => u.slot b o e n hb (by simp)) (fun b o _ e n => u.free b o e n (by simp)) (fun b o _ e => u.there b o e (by simp)) u.tups u.frzs u.tbls (fun m' hm => by
    obtain ⟨o', es', ep', ho', r'⟩ := hm
    rw [ho] at ho'; cases ho'
    exact ⟨_, es', ep', hL, r'⟩) hok I.bare
theorem Inv.call {g' : Array GenState} {t' : Nat} {d' : Drawn} {ch : List Addr} (I : Inv X pins σ H s) (u : Un (frs X.stack) ch H H' s.heap h') (hok : HOk X.prog X.w H' h') (hg : AllBare g')
    (hch : ∀ b ∈ ch, (b ∈ X.ex ∨ X.s₀.heap.objs.size ≤ b) ∧ b ≠ X.env.locals ∧ (∀ x c, X.env.cells.lookup x = some c → c ≠ b) ∧ ∀ p ∈ X.pn ++ pins, p.1 ≠ b) :
    Inv X pins σ H' { s with heap := h', gens := g', drawn := d', toks := t' } := by
  obtain ⟨m, ⟨o, es, ep, ho, r⟩, _⟩ := id I.loc
  obtain ⟨sl, hL⟩ := u.any ho I.free fun z => (hch _ z).2.1 rfl
  exact I.step (ch := ch) hch (fun b o hL hb hc e n => u.keep b o e n (fun z => (List.mem_cons.mp (I.stkSub b z)).elim hL hb) hc) (fun b o _ _ hc e n => u.any e n hc) (fun b o hc e n => u.free b o e n hc) (fun b o hc e => u.there b o e hc) u.tups u.frzs u.tbls (fun m' hm => by
    obtain ⟨o', es', ep', ho', r'⟩ := hm
    rw [ho] at ho'; cases ho'
    exact ⟨_, es', ep', hL, r'⟩) hok hg
theorem Inv.turned {t' : Nat} {it : Addr} (I : Inv X pins σ H s) (k : ∀ b o, b ≠ it → s.heap.get? b = some o → h'.get? b = some o) (hn : H it = none) (hL : it ≠ X.env.locals)
    (h1 : it ∈ X.ex ∨ X.s₀.heap.objs.size ≤ it) (h2 : ∀ x c, X.env.cells.lookup x = some c → c ≠ it) (h3 : ∀ p ∈ X.pn ++ pins, p.1 ≠ it) : Inv X pins σ H { s with heap := h', toks := t' } := by
  have nit : ∀ b u, H b = some u → b ≠ it := fun b u e z => by rw [z, hn] at e; cases e
  refine I.step (g' := s.gens) (d' := s.drawn) (ch := [it]) (fun b hb => ?_) (fun b o _ _ hc e _ => k b o (fun z => hc (by simp [z])) e) (fun b o _ _ hc e _ => ⟨o.slots, k b o (fun z => hc (by simp [z])) e⟩) (fun _ _ _ _ n => n)
    (fun b o hc e => ⟨o, k b o (fun z => hc (by simp [z])) e⟩) (fun _ _ e => e) (fun _ _ _ e => e) (fun b ps e => ⟨#[], by rw [e]; simp⟩) (fun m hm => ?_) (fun b u e => ?_) I.bare
  · have e : b = it := by simpa using hb
    subst e
    exact ⟨h1, hL, h2, h3⟩
  · obtain ⟨o, es, ep, ho, r⟩ := hm
    exact ⟨o, es, ep, k _ o (Ne.symm hL) ho, r⟩
  · refine (I.hok b u e).stay (fun c v hc q => k c v ?_ q) (fun _ q => q) fun _ _ q => q
    rcases hc with z | z
    · rw [z]; exact nit b u e
    · exact nit c _ z
theorem Inv.tok (I : Inv X pins σ H s) (t : Nat) : Inv X pins σ H { s with toks := t } := I.un (h' := s.heap) (t' := t) Un.refl I.hok
theorem Inv.kept {t' : Nat} (I : Inv X pins σ H s) (k : ∀ b u, s.heap.get? b = some u → h'.get? b = some u) : Inv X pins σ H { s with heap := h', toks := t' } := I.un (Un.kept k) (I.hok.kept k)
theorem Inv.laid {a : Addr} {o : HO} {t' : Nat} (I : Inv X pins σ H s) (k : ∀ b u, s.heap.get? b = some u → h'.get? b = some u) (hp : s.heap.objs.size ≤ a) (new : ObjOk X.prog X.w (upd H a o) h' a o) :
    Inv X pins σ (upd H a o) { s with heap := h', toks := t' } := I.un (Un.laid k hp (I.hok.fresh hp)) (I.hok.laid k hp new)
theorem Inv.write {x e : Addr} {o : HO} {t' : Nat} (I : Inv X pins σ H s) (mu : Mut (H x)) (he : e = x ∨ H e = some (.own x)) (k : ∀ b u, b ≠ e → s.heap.get? b = some u → h'.get? b = some u) (heo : ∃ u, h'.get? e = some u)
    (new : ObjOk X.prog X.w (upd H x o) h' x o) : Inv X pins σ (upd H x o) { s with heap := h', toks := t' } := I.un (Un.write mu he k heo) (I.hok.write mu he k heo new)
theorem Inv.pins_of {pins' : List (Addr × Obj)} (I : Inv X pins σ H s) (h : ∀ p ∈ pins', s.heap.get? p.1 = some p.2 ∧ H p.1 = none ∧ p.1 ≠ X.env.locals ∧ p.1 ∉ X.fs ∧ ∀ v, p.2.data ≠ .cell v) : Inv X pins' σ H s :=
  ⟨I.ok, I.os, I.bare, I.base, I.loc, I.cell, I.free, I.freeC, fun p hp => (List.mem_append.mp hp).elim (fun z => I.pin p (List.mem_append_left _ z)) (h p), I.hok, I.len⟩
theorem nodup_ix {N : List Str} (hN : N.Nodup) {i j : Nat} {x : Str} (a : N[i]? = some x) (b : N[j]? = some x) : i = j := by
  obtain ⟨h1, e1⟩ := List.getElem?_eq_some_iff.mp a
  obtain ⟨h2, e2⟩ := List.getElem?_eq_some_iff.mp b
  exact (List.getElem_inj hN).mp (e1.trans e2.symm)
theorem store_ok2 {M : Model} {A : Around} {E : Value → Shared → Prop} {i : Nat} {x : Str} {v : V} {u : Value} {Q : Unit → Shared → Prop} (I : Inv X pins σ H s) (hN : X.N.Nodup) (hi : X.N[i]? = some x) (hx : Loc X.env.scope x) (r : RelV v u)
    (h : ∀ s', Inv X pins (σ.set i (some v)) H s' → (∃ a, Heap.SameBut a s.heap s'.heap ∧ (a = X.env.locals ∨ X.env.cells.lookup x = some a)) → Q () s') (hf : X.fn x = true ∨ X.env.scope.names.lookup x = some .local := by first | exact .inl rfl | exact .inr rfl | assumption) : wpAny M A (storeName X.env x u) Q E s := by
  obtain ⟨m, hn, hl⟩ := id I.loc
  have hcls : (X.env.scope.kind == .class || (X.env.scope.kind == .module && X.env.locals != X.env.globals)) = false := by rw [I.ok.kind]; rfl
  have hiσ : i < σ.length := by rw [I.len]; exact (List.getElem?_eq_some_iff.mp hi).1
  have cne := I.cne
  have tracked : ∀ {a : Addr} {h' : Heap}, (∃ o, s.heap.get? a = some o ∧ H a = none) → Heap.SameBut a s.heap h' → HOk X.prog X.w H h' := fun {a h'} ha hs b ob e => by
    obtain ⟨_, _, hfree⟩ := ha
    refine (I.hok b ob e).stay (fun c w' hc q => (hs.2 c ?_).trans q) (fun _ q => q) fun _ _ q => q
    rintro rfl
    rcases hc with rfl | hc
    · rw [hfree] at e; cases e
    · rw [hfree] at hc; cases hc
  rcases hx with hk | hk
  · refine wpAny_storeName_local hk hn (fun h' hn' hs => ?_) hcls
    obtain ⟨oL, _, _, hoL, _⟩ := id hn
    refine h _ ⟨I.ok, I.os, I.bare, ⟨fun b o e n hb hx => ?_, fun b o e n hb hx => ?_, I.base.free, fun b o e hx => ?_, I.base.tups, I.base.frzs, I.base.tbls⟩, ⟨_, hn', fun j y v' e1 e2 e3 => ?_⟩, fun y c e => ?_, I.free, I.freeC, fun p hp => ?_, tracked ⟨oL, hoL, I.free⟩ hs, by simpa using I.len⟩ ⟨_, hs, .inl rfl⟩
    · exact (hs.2 b (Nat.ne_of_lt (Nat.lt_of_lt_of_le (Heap.lt_size e) I.ok.above))).trans (I.base.keep b o e n hb hx)
    · obtain ⟨sl, e1⟩ := I.base.slot b o e n hb hx
      exact ⟨sl, (hs.2 b (Nat.ne_of_lt (Nat.lt_of_lt_of_le (Heap.lt_size e) I.ok.above))).trans e1⟩
    · obtain ⟨o', e1⟩ := I.base.there b o e hx
      exact ⟨o', (hs.2 b (Nat.ne_of_lt (Nat.lt_of_lt_of_le (Heap.lt_size e) I.ok.above))).trans e1⟩
    · by_cases hj : j = i
      · subst hj
        rw [hi] at e1; cases e1
        rw [List.getElem?_set_self hiσ] at e2
        cases e2
        exact ⟨u, r, .inl ⟨hk, by simp⟩⟩
      · rw [List.getElem?_set_ne (Ne.symm hj)] at e2
        obtain ⟨u', r', q⟩ := hl j y v' e1 e2 e3
        refine ⟨u', r', ?_⟩
        rcases q with ⟨k, e⟩ | ⟨k, c, e, z⟩
        · refine .inl ⟨k, ?_⟩
          have : y ≠ x := fun e => hj (nodup_ix hN e1 (e ▸ hi))
          simp [this, e]
        · exact .inr ⟨k, c, e, z.sameBut hs (cne y c e)⟩
    · obtain ⟨w', z⟩ := I.cell y c e
      exact ⟨w', z.sameBut hs (cne y c e)⟩
    · obtain ⟨e, n, ne, nf, d⟩ := I.pin p hp
      exact ⟨(hs.2 p.1 ne).trans e, n, ne, nf, d⟩
  · have hfn : X.fn x = true := by
      rcases hf with z | z
      · exact z
      · rw [z] at hk; cases hk
    obtain ⟨c, hc⟩ := I.ok.has x (.inl hk)
    obtain ⟨w', z⟩ := I.cell x c hc
    refine wpAny_storeName_cell I.ok.kind hk hc z (fun h' hc' hs => ?_)
    obtain ⟨oc, hoc, hocd⟩ := id z
    refine h { s with heap := h' } ⟨I.ok, I.os, I.bare, ⟨fun b o e n hb hx => ?_, fun b o e n hb hx => ?_, I.base.free, fun b o e hx => ?_, I.base.tups, I.base.frzs, I.base.tbls⟩, ⟨m, hn.sameBut hs (Ne.symm (cne x c hc)), fun j y v' e1 e2 e3 => ?_⟩, fun y c' e => ?_, I.free, I.freeC, fun p hp => ?_, tracked ⟨oc, hoc, I.freeC x c hc⟩ hs, by simpa using I.len⟩ ⟨c, hs, .inr hc⟩
    · exact (hs.2 b (Nat.ne_of_lt (Nat.lt_of_lt_of_le (Heap.lt_size e) (I.ok.cab x c hfn hc)))).trans (I.base.keep b o e n hb hx)
    · obtain ⟨sl, e1⟩ := I.base.slot b o e n hb hx
      exact ⟨sl, (hs.2 b (Nat.ne_of_lt (Nat.lt_of_lt_of_le (Heap.lt_size e) (I.ok.cab x c hfn hc)))).trans e1⟩
    · obtain ⟨o', e1⟩ := I.base.there b o e hx
      exact ⟨o', (hs.2 b (Nat.ne_of_lt (Nat.lt_of_lt_of_le (Heap.lt_size e) (I.ok.cab x c hfn hc)))).trans e1⟩
    · by_cases hj : j = i
      · subst hj
        rw [hi] at e1; cases e1
        rw [List.getElem?_set_self hiσ] at e2
        cases e2
        exact ⟨u, r, .inr ⟨.inl hk, c, hc, hc'⟩⟩
      · rw [List.getElem?_set_ne (Ne.symm hj)] at e2
        obtain ⟨u', r', q⟩ := hl j y v' e1 e2 e3
        refine ⟨u', r', ?_⟩
        rcases q with q | ⟨k, c', e, z'⟩
        · exact .inl q
        · refine .inr ⟨k, c', e, z'.sameBut hs ?_⟩
          rintro rfl
          exact hj (nodup_ix hN e1 (I.ok.inj _ _ _ e hc ▸ hi))
    · by_cases hcc : c' = c
      · subst hcc; exact ⟨_, hc'⟩
      · obtain ⟨w2, z2⟩ := I.cell y c' e
        exact ⟨w2, z2.sameBut hs hcc⟩
    · obtain ⟨e, n, ne, nf, d⟩ := I.pin p hp
      refine ⟨(hs.2 p.1 ?_).trans e, n, ne, nf, d⟩
      intro q
      rw [q, hoc] at e
      have q' : oc = p.2 := Option.some.inj e
      exact d w' (by rw [← q']; exact hocd)
theorem store_ok {M : Model} {A : Around} {E : Value → Shared → Prop} {i : Nat} {x : Str} {v : V} {u : Value} {Q : Unit → Shared → Prop} (I : Inv X pins σ H s) (hN : X.N.Nodup) (hi : X.N[i]? = some x) (hx : Loc X.env.scope x) (r : RelV v u)
    (h : ∀ s', Inv X pins (σ.set i (some v)) H s' → Q () s') (hf : X.fn x = true ∨ X.env.scope.names.lookup x = some .local := by first | exact .inl rfl | exact .inr rfl | assumption) : wpAny M A (storeName X.env x u) Q E s :=
  store_ok2 I hN hi hx r (fun s' I' _ => h s' I') hf
theorem Inv.call' {s' : Shared} {ch : List Addr} (I : Inv X pins σ H s) (ho : s'.os = s.os) (u : Un (frs X.stack) ch H H' s.heap s'.heap) (hok : HOk X.prog X.w H' s'.heap) (hg : AllBare s'.gens)
    (hch : ∀ b ∈ ch, (b ∈ X.ex ∨ X.s₀.heap.objs.size ≤ b) ∧ b ≠ X.env.locals ∧ (∀ x c, X.env.cells.lookup x = some c → c ≠ b) ∧ ∀ p ∈ X.pn ++ pins, p.1 ≠ b) : Inv X pins σ H' s' := by
  obtain ⟨h', g', d', t', o'⟩ := s'
  have e : o' = s.os := ho
  subst e
  exact I.call (g' := g') (t' := t') (d' := d') u hok hg hch
end
noncomputable abbrev XK := Value → Option Addr → Hp → Prop
noncomputable abbrev St := List (Option V)
noncomputable abbrev VK := V → Hp → Prop
noncomputable abbrev TE := St → Hp → VK → Prop
noncomputable abbrev TT := St → Hp → (Bool → Hp → Prop) → Prop
noncomputable abbrev TA := St → Hp → (List V → Hp → Prop) → Prop
structure Ends where
  nx : St → Hp → Prop
  rt : VK
  bk : St → Hp → Prop := fun _ _ => False
  ct : St → Hp → Prop := fun _ _ => False
noncomputable abbrev TS := Ends → St → Hp → Prop
noncomputable def EP (X : Cx) (pins : List (Addr × Obj)) (σ : St) (Q : VK) (u : Value) (s' : Shared) : Prop := ∃ v H', Inv X pins σ H' s' ∧ RelV v u ∧ Q v H'
noncomputable def TP (X : Cx) (pins : List (Addr × Obj)) (σ : St) (Q : Bool → Hp → Prop) (b : Bool) (s' : Shared) : Prop := ∃ H', Inv X pins σ H' s' ∧ Q b H'
noncomputable def AP (X : Cx) (pins : List (Addr × Obj)) (σ : St) (Q : List V → Hp → Prop) (us : List Value) (s' : Shared) : Prop := ∃ vs H', Inv X pins σ H' s' ∧ Vals vs us ∧ Q vs H'
noncomputable def SP (X : Cx) (pins : List (Addr × Obj)) (D : Ends) (f : Flow) (s' : Shared) : Prop :=
  match f with
  | .next => ∃ σ' H', Inv X pins σ' H' s' ∧ D.nx σ' H'
  | .brk => ∃ σ' H', Inv X pins σ' H' s' ∧ D.bk σ' H'
  | .cont => ∃ σ' H', Inv X pins σ' H' s' ∧ D.ct σ' H'
  | .ret u => ∃ v σ' H', Inv X pins σ' H' s' ∧ RelV v u ∧ D.rt v H'
noncomputable def PE (X : Cx) (e : Expr) (t : TE) : Prop :=
  ∀ (pins : List (Addr × Obj)) (s : Shared) (σ : St) (H : Hp) (Q : VK), Inv X pins σ H s → t σ H Q → wpAny (model X.prog X.w) X.A (eval e X.env) (EP X pins σ Q) X.xe s
noncomputable def PT (X : Cx) (e : Expr) (t : TT) : Prop :=
  ∀ (pins : List (Addr × Obj)) (s : Shared) (σ : St) (H : Hp) (Q : Bool → Hp → Prop), Inv X pins σ H s → t σ H Q → wpAny (model X.prog X.w) X.A (isTrue e X.env (eval e X.env)) (TP X pins σ Q) X.xe s
noncomputable def PW (X : Cx) (e : Expr) (t : TT) : Prop :=
  ∀ (whole : Sem Value) (pins : List (Addr × Obj)) (s : Shared) (σ : St) (H : Hp) (Q : Bool → Hp → Prop), Inv X pins σ H s → t σ H Q → wpAny (model X.prog X.w) X.A (isTrue e X.env whole) (TP X pins σ Q) X.xe s
theorem PW.pt {X : Cx} {e : Expr} {t : TT} (h : PW X e t) : PT X e t := h _
noncomputable def PA (X : Cx) (es : List Expr) (t : TA) : Prop :=
  ∀ (pos : Pos) (pins : List (Addr × Obj)) (s : Shared) (σ : St) (H : Hp) (Q : List V → Hp → Prop), Inv X pins σ H s → t σ H Q → wpAny (model X.prog X.w) X.A (spliced (backTo pos (starEach es X.env))) (AP X pins σ Q) X.xe s
noncomputable def PS (X : Cx) (st : Stmt) (t : TS) : Prop :=
  ∀ (pins : List (Addr × Obj)) (s : Shared) (σ : St) (H : Hp) (D : Ends), Inv X pins σ H s → t D σ H → wpAny (model X.prog X.w) X.A (exec st X.env) (SP X pins D) X.xe s
noncomputable def PSs (X : Cx) (st : List Stmt) (t : TS) : Prop :=
  ∀ (pins : List (Addr × Obj)) (s : Shared) (σ : St) (H : Hp) (D : Ends), Inv X pins σ H s → t D σ H → wpAny (model X.prog X.w) X.A (execs st X.env) (SP X pins D) X.xe s
theorem thn {α : Type} {t : Sem α} {Q Q' : α → Shared → Prop} {M : Model} {A : Around} {E : Value → Shared → Prop} {s : Shared} (h : wpAny M A t Q E s) (hQ : ∀ a s, Q a s → Q' a s) : wpAny M A t Q' E s := wpAny_mono h hQ fun _ _ x => x
end L2
namespace L2
open PySem PySem.Spec PyProof.Rows
section
variable {X : Cx}
noncomputable def tVar (i : Nat) : TE := fun σ H Q => ∃ v, σ[i]? = some (some v) ∧ Q v H
noncomputable def tC (v : V) : TE := fun _ H Q => Q v H
theorem pe_var {i : Nat} {x : Str} {pos : Pos} (hN : X.N[i]? = some x) (hv : Vis X.env.scope x) (hd : (x == ("__debug__" : Str)) = false := by decide) (hcd : (x == ("__classdict__" : Str)) = false := by decide) : PE X (.Name x pos) (tVar i) := by
  intro pins s σ H Q I h
  obtain ⟨v, e, h⟩ := h
  obtain ⟨m, hn, hl⟩ := I.loc
  obtain ⟨u, r, l⟩ := hl i x v hN e hv
  have fin : EP X pins σ Q u s := ⟨v, H, I, r, h⟩
  rcases l with ⟨hk, hm⟩ | ⟨hk, c, hc, hcell⟩
  · exact wpAny_Name (wpAny_loadName_local I.ok.kind hk hn hm fin) hd
  · rcases hk with hk | hk
    · exact wpAny_Name (wpAny_loadName_cell I.ok.kind hk hc hcell fin) hd
    · exact wpAny_Name (wpAny_loadName_free I.ok.kind hk hc hcell fin hcd) hd
theorem pe_int {i j pos} : PE X (.Constant (.int i) j pos) (tC (.int i)) := fun _ _ _ H _ I h => wpAny_Constant_int ⟨.int i, H, I.tok _, ⟨_, rfl⟩, h⟩
theorem pe_bl {b j pos} : PE X (.Constant (.bool b) j pos) (tC (.bl b)) := fun _ _ _ H _ I h => Constant_bool ⟨.bl b, H, I, rfl, h⟩
theorem pe_non {j pos} : PE X (.Constant .none j pos) (tC .non) := fun _ _ _ H _ I h => Constant_none ⟨.non, H, I, rfl, h⟩
theorem pe_str {x j pos} : PE X (.Constant (.str x) j pos) (tC (.str x)) := fun _ _ _ H _ I h => Calls.Constant_str ⟨.str x, H, I.tok _, ⟨_, rfl⟩, h⟩
noncomputable def Gl (X : Cx) (x : Str) : Prop := X.env.kindOf x = some .globalImplicit
theorem ld_glob {E : Value → Shared → Prop} {pins : List (Addr × Obj)} {s : Shared} {σ : St} {H : Hp} {x : Str} {u : Value} {pos : Pos} {Q : Value → Shared → Prop} (I : Inv X pins σ H s) (hg : Gl X x) (hm : X.mg x = some u) (h : Q u s)
    (hd : (x == ("__debug__" : Str)) = false := by decide) : wpAny (model X.prog X.w) X.A (eval (.Name x pos) X.env) Q E s :=
  Calls.Name_function_global I.ok.kind hg (Calls.loadGlobal_global (by rw [I.ok.glob]; exact I.mod.glob.keeps I.bk) hm h) hd
theorem ld_blt {E : Value → Shared → Prop} {pins : List (Addr × Obj)} {s : Shared} {σ : St} {H : Hp} {x : Str} {u : Value} {pos : Pos} {Q : Value → Shared → Prop} (I : Inv X pins σ H s) (hg : Gl X x) (hm : X.mg x = none) (hv : bootBuiltins x = some u) (h : Q u s)
    (hn : x ≠ "__name__" := by decide) (hd : (x == ("__debug__" : Str)) = false := by decide) : wpAny (model X.prog X.w) X.A (eval (.Name x pos) X.env) Q E s := by
  obtain ⟨mb, h1, h2⟩ := I.mod.blt
  exact Calls.Name_function_global I.ok.kind hg (Calls.loadGlobal_builtin (by rw [I.ok.glob]; exact I.mod.glob.keeps I.bk) hm (by rw [I.ok.blt]; exact h1.keeps I.bk) ((h2 x hn).trans hv) h) hd
theorem pe_glob {x : Str} {v : V} {u : Value} {pos : Pos} (hg : Gl X x) (hm : X.mg x = some u) (r : RelV v u) (hd : (x == ("__debug__" : Str)) = false := by decide) : PE X (.Name x pos) (tC v) :=
  fun _ _ _ H _ I h => ld_glob I hg hm ⟨v, H, I, r, h⟩ hd
theorem pe_bltn {x : Str} {v : V} {u : Value} {pos : Pos} (hg : Gl X x) (hm : X.mg x = none) (hv : bootBuiltins x = some u) (r : RelV v u) (hn : x ≠ "__name__" := by decide) (hd : (x == ("__debug__" : Str)) = false := by decide) : PE X (.Name x pos) (tC v) :=
  fun _ _ _ H _ I h => ld_blt I hg hm hv ⟨v, H, I, r, h⟩ hn hd
variable {a b : Expr} {ta tb : TE} {pos : Pos}
variable {tA tB' : TT} {rest : List Expr}
noncomputable def tAnd (t u : TT) : TT := fun σ H Q => t σ H fun c H1 => if c = true then u σ H1 Q else Q false H1
noncomputable def tOr (t u : TT) : TT := fun σ H Q => t σ H fun c H1 => if c = true then Q true H1 else u σ H1 Q
noncomputable def tNot (t : TT) : TT := fun σ H Q => t σ H fun c H1 => Q (!c) H1
theorem pw_and1 (ha : PT X a tA) : PW X (.BoolOp .And [a] pos) tA := by
  intro wh pins s σ H Q I h
  refine isTrue_and (thn (ha pins s σ H Q I h) fun c s1 e => ?_)
  cases c with
  | true => exact isTrue_and_nil e
  | false => exact e
theorem pw_or1 (ha : PT X a tA) : PW X (.BoolOp .Or [a] pos) tA := by
  intro wh pins s σ H Q I h
  refine isTrue_or (thn (ha pins s σ H Q I h) fun c s1 e => ?_)
  cases c with
  | false => exact isTrue_or_nil e
  | true => exact e
theorem pw_and (ha : PT X a tA) (hb : PW X (.BoolOp .And (b :: rest) pos) tB') : PW X (.BoolOp .And (a :: b :: rest) pos) (tAnd tA tB') := by
  intro wh pins s σ H Q I h
  refine isTrue_and (thn (ha pins s σ H _ I h) fun c s1 ⟨H1, I1, q1⟩ => ?_)
  cases c with
  | true => exact hb wh pins s1 σ H1 Q I1 q1
  | false => exact ⟨H1, I1, q1⟩
theorem pw_or (ha : PT X a tA) (hb : PW X (.BoolOp .Or (b :: rest) pos) tB') : PW X (.BoolOp .Or (a :: b :: rest) pos) (tOr tA tB') := by
  intro wh pins s σ H Q I h
  refine isTrue_or (thn (ha pins s σ H _ I h) fun c s1 ⟨H1, I1, q1⟩ => ?_)
  cases c with
  | true => exact ⟨H1, I1, q1⟩
  | false => exact hb wh pins s1 σ H1 Q I1 q1
theorem pt_not (ha : PT X a tA) : PT X (.UnaryOp .Not a pos) (tNot tA) := by
  intro pins s σ H Q I h
  exact isTrue_not (ha pins s σ H (fun c H1 => Q (!c) H1) I h)
noncomputable def tAndV (ta tb : TE) : TE := fun σ H Q => ta σ H fun x H1 => ∃ c, x = .bl c ∧ if c = true then tb σ H1 Q else Q (.bl false) H1
theorem pe_one {op} {t : TE} (h : PE X a t) : PE X (.BoolOp op [a] pos) t := fun pins s σ H Q I hw => BoolOp_one (h pins s σ H Q I hw)
theorem pe_and (ha : PE X a ta) (hb : PE X (.BoolOp .And (b :: rest) pos) tb) : PE X (.BoolOp .And (a :: b :: rest) pos) (tAndV ta tb) := by
  intro pins s σ H Q I h
  refine BoolOp_and (thn (ha pins s σ H _ I h) fun v s1 ⟨x, H1, I1, r1, q1⟩ => ?_)
  obtain ⟨c, rfl, q1⟩ := q1
  cases r1
  refine wpAny_truthy_bool ?_
  cases c with
  | true => exact hb pins s1 σ H1 Q I1 q1
  | false => exact ⟨.bl false, H1, I1, rfl, q1⟩
noncomputable def tIf (t : TT) (ta tb : TE) : TE := fun σ H Q => t σ H fun c H1 => if c = true then ta σ H1 Q else tb σ H1 Q
theorem pe_ifExp {c : Expr} (hc : PT X c tA) (ha : PE X a ta) (hb : PE X b tb) : PE X (.IfExp c a b pos) (tIf tA ta tb) := by
  intro pins s σ H Q I h
  refine wpAny_IfExp (thn (hc pins s σ H _ I h) fun d s1 ⟨H1, I1, q1⟩ => ?_)
  cases d with
  | true => exact ha pins s1 σ H1 Q I1 q1
  | false => exact hb pins s1 σ H1 Q I1 q1
end
end L2
namespace L2
open PySem PySem.Spec PyProof.Rows
noncomputable def SqL (K : PySem.W.Frag) (H : Hp) (a : Addr) (xs : List V) : Prop :=
  Rd H a (.lst xs) ∨
    ∃ (o : Obj) (its : Array Value) (n : Nat), K.lookup a = some o ∧ o.cls = .type "list" ∧ o.dict = none ∧ o.data = .seq its n ∧ its.size ≤ sizeLine ∧ Vals xs its.toList
noncomputable def SqT (K : PySem.W.Frag) (H : Hp) (a : Addr) (xs : List V) : Prop :=
  Rd H a (.tup xs) ∨
    ∃ (o : Obj) (its : Array Value) (n : Nat), K.lookup a = some o ∧ o.cls = .type "tuple" ∧ o.data = .seq its n ∧ its.size ≤ sizeLine ∧ Vals xs its.toList
noncomputable def absV : Value → Option V
  | .none => some .non
  | .bool b => some (.bl b)
  | .int i _ => some (.int i)
  | .str x _ => some (.str x)
  | .bytes b _ => some (.byt b)
  | .float b _ => some (.flt b)
  | .ref a => some (.ref a)
  | .type n => some (.ty n)
  | _ => none
theorem RelV.abs {x : V} {u : Value} (r : RelV x u) : absV u = some x := by
  cases x with
  | non => cases r; rfl
  | bl _ => cases r; rfl
  | int _ => obtain ⟨t, rfl⟩ := r; rfl
  | str _ => obtain ⟨t, rfl⟩ := r; rfl
  | byt _ => obtain ⟨t, rfl⟩ := r; rfl
  | flt _ => obtain ⟨t, rfl⟩ := r; rfl
  | ref _ => cases r; rfl
  | ty _ => cases r; rfl
theorem RelV.inj {x y : V} {u : Value} (r : RelV x u) (q : RelV y u) : x = y := Option.some.inj (r.abs.symm.trans q.abs)
theorem Vals.inj : ∀ {xs ys : List V} {us : List Value}, Vals xs us → Vals ys us → xs = ys
  | _, _, _, .nil, .nil => rfl
  | _, _, _, .cons r t, .cons r' t' => by rw [r.inj r', Vals.inj t t']
section
variable {X : Cx} {pins : List (Addr × Obj)} {σ : St} {H : Hp} {s : Shared} {a : Addr} {xs ys : List V}
theorem SqL.of {K : PySem.W.Frag} (h : H a = some (.lst xs)) : SqL K H a xs := .inl (.inl h)
theorem SqT.of {K : PySem.W.Frag} (h : H a = some (.tup xs)) : SqT K H a xs := .inl (.inl h)
theorem Inv.list (I : Inv X pins σ H s) (h : SqL X.K H a xs) : ∃ its : List Value, Vals xs its ∧ PlainL s.heap a its.toArray ∧ xs.length ≤ sizeLine := by
  rcases h with h | ⟨o, its, n, hk, hc, hd, hs, hz, r⟩
  · obtain ⟨z, its, n, r, e⟩ := h.ok I.hok
    exact ⟨its, r, ⟨_, n, e, rfl, rfl, rfl⟩, z⟩
  · refine ⟨its.toList, r, ⟨o, n, I.kIn a o hk, hc, hd, by simpa using hs⟩, ?_⟩
    have e := r.length
    simp only [Array.length_toList] at e
    omega
theorem Inv.tuple (I : Inv X pins σ H s) (h : SqT X.K H a xs) : ∃ its : List Value, Vals xs its ∧ IsTup s.heap a its.toArray ∧ xs.length ≤ sizeLine := by
  rcases h with h | ⟨o, its, n, hk, hc, hs, hz, r⟩
  · obtain ⟨z, its, r, p⟩ := h.ok I.hok
    exact ⟨its, r, p, z⟩
  · refine ⟨its.toList, r, ⟨o, I.kIn a o hk, hc, n, by simpa using hs⟩, ?_⟩
    have e := r.length
    simp only [Array.length_toList] at e
    omega
theorem Inv.list_inj (I : Inv X pins σ H s) (h : SqL X.K H a xs) (h' : SqL X.K H a ys) : xs = ys := by
  obtain ⟨its, r, ⟨o, n, e, _, _, d⟩, _⟩ := I.list h
  obtain ⟨its', r', ⟨o', n', e', _, _, d'⟩, _⟩ := I.list h'
  rw [e] at e'; cases e'
  rw [d] at d'
  injection d' with d1 _
  have : its = its' := by simpa using congrArg Array.toList d1
  subst this
  exact r.inj r'
theorem Inv.tuple_inj (I : Inv X pins σ H s) (h : SqT X.K H a xs) (h' : SqT X.K H a ys) : xs = ys := by
  obtain ⟨its, r, ⟨o, e, _, n, d⟩, _⟩ := I.tuple h
  obtain ⟨its', r', ⟨o', e', _, n', d'⟩, _⟩ := I.tuple h'
  rw [e] at e'; cases e'
  rw [d] at d'
  injection d' with d1 _
  have : its = its' := by simpa using congrArg Array.toList d1
  subst this
  exact r.inj r'
end
noncomputable abbrev Cx.wish (X : Cx) (E : Value → Shared → Prop) : Cx := { X with xe := E }
noncomputable abbrev Cx.nox (X : Cx) : Cx := X.wish fun _ _ => False
theorem Cx.Ok.wish {X : Cx} (ok : X.Ok) (E : Value → Shared → Prop) : (X.wish E).Ok :=
  ⟨ok.mod, ok.kind, ok.glob, ok.blt, ok.above, ok.inj, ok.has, ok.cab, ok.hd, ok.frames, ok.stk, ok.exf, ok.bs, ok.bsz, ok.noex, ok.exfs, ok.funs, ok.frf⟩
theorem Cx.Ok.unwish {X : Cx} {E : Value → Shared → Prop} (ok : (X.wish E).Ok) : X.Ok :=
  ⟨ok.mod, ok.kind, ok.glob, ok.blt, ok.above, ok.inj, ok.has, ok.cab, ok.hd, ok.frames, ok.stk, ok.exf, ok.bs, ok.bsz, ok.noex, ok.exfs, ok.funs, ok.frf⟩
section
variable {X : Cx} {pins : List (Addr × Obj)} {σ : St} {H : Hp} {s : Shared} {E : Value → Shared → Prop}
theorem Inv.wish (I : Inv X pins σ H s) (E : Value → Shared → Prop) : Inv (X.wish E) pins σ H s := ⟨I.ok.wish E, I.os, I.bare, I.base, I.loc, I.cell, I.free, I.freeC, I.pin, I.hok, I.len⟩
theorem Inv.unwish (I : Inv (X.wish E) pins σ H s) : Inv X pins σ H s := ⟨I.ok.unwish, I.os, I.bare, I.base, I.loc, I.cell, I.free, I.freeC, I.pin, I.hok, I.len⟩
theorem SP.unwish {D : Ends} {f : Flow} {s' : Shared} (h : SP (X.wish E) pins D f s') : SP X pins D f s' := by
  cases f with
  | next => obtain ⟨σ', H', I, q⟩ := h; exact ⟨σ', H', I.unwish, q⟩
  | brk => obtain ⟨σ', H', I, q⟩ := h; exact ⟨σ', H', I.unwish, q⟩
  | cont => obtain ⟨σ', H', I, q⟩ := h; exact ⟨σ', H', I.unwish, q⟩
  | ret u => obtain ⟨v, σ', H', I, r, q⟩ := h; exact ⟨v, σ', H', I.unwish, r, q⟩
theorem PE.nox {e : Expr} {t : TE} (h : PE X.nox e t) : PE X e t := fun pins s σ H Q I hw =>
  wpAny_mono (h pins s σ H Q (I.wish _) hw) (fun _ _ ⟨v, H', I', r, q⟩ => ⟨v, H', I'.unwish, r, q⟩) fun _ _ z => False.elim z
theorem PT.nox {e : Expr} {t : TT} (h : PT X.nox e t) : PT X e t := fun pins s σ H Q I hw =>
  wpAny_mono (h pins s σ H Q (I.wish _) hw) (fun _ _ ⟨H', I', q⟩ => ⟨H', I'.unwish, q⟩) fun _ _ z => False.elim z
theorem PSs.nox {st : List Stmt} {t : TS} (h : PSs X.nox st t) : PSs X st t := fun pins s σ H D I hw =>
  wpAny_mono (h pins s σ H D (I.wish _) hw) (fun _ _ q => q.unwish) fun _ _ z => False.elim z
end
section
variable {X : Cx} {st : Stmt} {rest : List Stmt} {t u : TS} {e : Expr} {te : TE} {pos : Pos}
noncomputable def tNext : TS := fun D σ H => D.nx σ H
noncomputable def tSeq (t u : TS) : TS := fun D σ H => t { D with nx := u D } σ H
theorem pss_nil : PSs X [] tNext := fun _ _ σ H _ I h => wpAny_execs_nil ⟨σ, H, I, h⟩
theorem pss_cons (h1 : PS X st t) (h2 : PSs X rest u) : PSs X (st :: rest) (tSeq t u) := by
  intro pins s σ H D I h
  refine wpAny_execs_cons (thn (h1 pins s σ H { D with nx := u D } I h) fun f s1 q => ?_)
  cases f with
  | next =>
    obtain ⟨σ', H', I', q⟩ := q
    exact h2 pins s1 σ' H' D I' q
  | ret v => exact q
  | brk => exact q
  | cont => exact q
theorem pss_one (h1 : PS X st t) : PSs X [st] t := by
  intro pins s σ H D I h
  refine wpAny_execs_cons (thn (h1 pins s σ H D I h) fun f s1 q => ?_)
  cases f with
  | next => exact wpAny_execs_nil q
  | ret v => exact q
  | brk => exact q
  | cont => exact q
theorem Inv.quiet {pins : List (Addr × Obj)} {σ : St} {H : Hp} {s : Shared} (I : Inv X pins σ H s) : interactive X.env = false := by simp [interactive, I.ok.kind]
noncomputable def tDrop (te : TE) : TS := fun D σ H => te σ H fun _ H1 => D.nx σ H1
theorem ps_expr (he : PE X e te) (hs : swapsWith e none pos.line X.env = pure false := by rfl) : PS X (.Expr e pos) (tDrop te) := by
  intro pins s σ H D I h
  exact wpAny_Expr_any (thn (he pins s σ H _ I h) fun v s1 ⟨x, H1, I1, r1, q1⟩ => ⟨σ, H1, I1, q1⟩) I.quiet hs
noncomputable def tRet (te : TE) : TS := fun D σ H => te σ H D.rt
theorem ps_ret (he : PE X e te) : PS X (.Return (some e) pos) (tRet te) := by
  intro pins s σ H D I h
  exact wpAny_Return_some (thn (he pins s σ H _ I h) fun v s1 ⟨x, H1, I1, r1, q1⟩ => ⟨x, σ, H1, I1, r1, q1⟩)
noncomputable def tIfS (c : TT) (t u : TS) : TS := fun D σ H => c σ H fun b H1 => if b = true then t D σ H1 else u D σ H1
theorem ps_if {c : Expr} {a b : List Stmt} {tc : TT} (hc : PT X c tc) (ha : PSs X a t) (hb : PSs X b u) : PS X (.If c a b pos) (tIfS tc t u) := by
  intro pins s σ H D I h
  refine wpAny_If (thn (hc pins s σ H _ I h) fun d s1 ⟨H1, I1, q1⟩ => ?_)
  cases d with
  | true => exact ha pins s1 σ H1 D I1 q1
  | false => exact hb pins s1 σ H1 D I1 q1
end
noncomputable abbrev TG := V → St → Hp → (St → Hp → Prop) → Prop
noncomputable abbrev TGs := List V → St → Hp → (St → Hp → Prop) → Prop
noncomputable def PG (X : Cx) (target : Expr) (t : TG) : Prop :=
  ∀ (pins : List (Addr × Obj)) (s : Shared) (σ : St) (H : Hp) (v : V) (u : Value) (Q : St → Hp → Prop), Inv X pins σ H s → RelV v u → t v σ H Q →
    wpAny (model X.prog X.w) X.A (assign target X.env u) (fun _ s' => ∃ σ' H', Inv X pins σ' H' s' ∧ Q σ' H') X.xe s
noncomputable def PGs (X : Cx) (ts : List Expr) (t : TGs) : Prop :=
  ∀ (pins : List (Addr × Obj)) (s : Shared) (σ : St) (H : Hp) (vs : List V) (us : List Value) (Q : St → Hp → Prop), Inv X pins σ H s → Vals vs us → t vs σ H Q →
    wpAny (model X.prog X.w) X.A (assignInOrder ((assignEach ts X.env).map (·.2)) us) (fun _ s' => ∃ σ' H', Inv X pins σ' H' s' ∧ Q σ' H') X.xe s
section
variable {X : Cx} {pos : Pos}
noncomputable def gName (i : Nat) : TG := fun v σ H Q => Q (σ.set i (some v)) H
theorem pg_name {i : Nat} {x : Str} (hN : X.N.Nodup) (hi : X.N[i]? = some x) (hx : Loc X.env.scope x) (hf : X.fn x = true ∨ X.env.scope.names.lookup x = some .local := by first | exact .inl rfl | exact .inr rfl | assumption) : PG X (.Name x pos) (gName i) := by
  intro pins s σ H v u Q I r h
  exact wpAny_assign_Name (store_ok I hN hi hx r (fun s' I' => ⟨_, H, I', h⟩) hf)
noncomputable def gNil : TGs := fun vs σ H Q => vs = [] ∧ Q σ H
noncomputable def gCons (t : TG) (u : TGs) : TGs := fun vs σ H Q => ∃ v r, vs = v :: r ∧ t v σ H fun σ' H' => u r σ' H' Q
theorem pgs_nil : PGs X [] gNil := by
  intro pins s σ H vs us Q I r h
  obtain ⟨e, h⟩ := h
  subst e
  cases r
  exact assignInOrder_nil ⟨σ, H, I, h⟩
theorem pgs_cons {e : Expr} {es : List Expr} {t : TG} {u : TGs} (h1 : PG X e t) (h2 : PGs X es u)
    (hs : (assignEach (e :: es) X.env).map (·.2) = assign e X.env :: (assignEach es X.env).map (·.2) := by rfl) : PGs X (e :: es) (gCons t u) := by
  intro pins s σ H vs us Q I r h
  obtain ⟨v, vr, e1, h⟩ := h
  subst e1
  cases r with
  | cons r rr =>
    rw [hs]
    refine assignInOrder_cons (thn (h1 pins s σ H _ _ _ I r h) fun _ s1 ⟨σ1, H1, I1, q1⟩ => ?_)
    exact h2 pins s1 σ1 H1 _ _ Q I1 rr q1
noncomputable def gTup (K : PySem.W.Frag) (n : Nat) (t : TGs) : TG := fun v σ H Q => ∃ a xs, v = .ref a ∧ SqT K H a xs ∧ xs.length = n ∧ t xs σ H Q
theorem pg_tup {es : List Expr} {k : Nat} {t : TGs} {n : Nat} (hc : X.calm = true) (h : PGs X es t)
    (hn : (assignEach es X.env).length = n := by rfl) (hst : (assignEach es X.env).findIdx? (·.1) = none := by rfl) : PG X (.Tuple es k pos) (gTup X.K n t) := by
  intro pins s σ H v u Q I r hw
  obtain ⟨a, xs, e1, hq, hl, hw⟩ := hw
  subst e1
  cases r
  obtain ⟨its, rv, ht, hz⟩ := I.tuple hq
  refine assign_Tuple_tuple (I.ok.hd hc) ht (by simp [hn, ← hl, rv.length]) hst fun h' hx => ?_
  have I1 : Inv X pins σ H { s with heap := h' } := I.kept (t' := s.toks) fun b o e => hx b o (Nat.ne_of_lt (Heap.lt_size e)) e
  exact h pins _ σ H xs _ Q I1 (by simpa using rv) hw
noncomputable def tAsg (te : TE) (g : TG) : TS := fun D σ H => te σ H fun x H1 => g x σ H1 D.nx
theorem ps_set {i : Nat} {x : Str} {e : Expr} {te : TE} {pos' : Pos} (hN : X.N.Nodup) (hi : X.N[i]? = some x) (hx : Loc X.env.scope x) (he : PE X e te) (hs : swapsWith e (some (.Name x pos')) pos.line X.env = pure false := by rfl) (hf : X.fn x = true ∨ X.env.scope.names.lookup x = some .local := by first | exact .inl rfl | exact .inr rfl | assumption) :
    PS X (.Assign [.Name x pos'] e pos) (tAsg te (gName i)) := by
  intro pins s σ H D I h
  refine wpAny_Assign_Name (thn (he pins s σ H _ I h) fun v s1 ⟨y, H1, I1, r1, q1⟩ => ?_) hs
  exact store_ok I1 hN hi hx r1 (fun s2 I2 => ⟨_, H1, I2, q1⟩) hf
end
section
variable {X : Cx} {pos : Pos}
noncomputable def tWhile (c : TT) (tb : TS) : TS := fun D σ H => ∃ W : Nat → St → Hp → Prop, (∃ m, W m σ H) ∧ ∀ m σ H, W m σ H →
  c σ H fun b H1 => if b = true then ∃ N : St → Hp → Prop, (∀ σ' H', N σ' H' → ∃ m', m' < m ∧ W m' σ' H') ∧ tb { D with nx := N, ct := N, bk := D.nx } σ H1 else D.nx σ H1
theorem ps_while {c : Expr} {body : List Stmt} {tc : TT} {tb : TS} (hp : PassesOwn (model X.prog X.w) X.A X.env X.xe) (hc : PT X c tc) (hb : PSs X body tb) : PS X (.While c body [] pos) (tWhile tc tb) := by
  intro pins s σ H D I h
  obtain ⟨W, ⟨m0, w0⟩, turn⟩ := h
  refine wpAny_While (codeAny_whileLoop (fun n s' => ∃ σ' H', Inv X pins σ' H' s' ∧ W n σ' H') ?_ m0 ⟨σ, H, I, w0⟩)
  rintro n s1 ⟨σ1, H1, I1, w1⟩
  refine wpAny_passesOwn hp (thn (hc pins s1 σ1 H1 _ I1 (turn n σ1 H1 w1)) fun b s2 ⟨H2, I2, q2⟩ => ?_)
  cases b with
  | true =>
    obtain ⟨N, hN, q2⟩ := q2
    rw [if_pos rfl]
    refine wpAny_passesOwn hp (thn (hb pins s2 σ1 H2 _ I2 q2) fun f s3 q3 => ?_)
    cases f with
    | next =>
      obtain ⟨σ3, H3, I3, n3⟩ := q3
      obtain ⟨m', hm, w3⟩ := hN σ3 H3 n3
      exact ⟨m', hm, σ3, H3, I3, w3⟩
    | cont =>
      obtain ⟨σ3, H3, I3, n3⟩ := q3
      obtain ⟨m', hm, w3⟩ := hN σ3 H3 n3
      exact ⟨m', hm, σ3, H3, I3, w3⟩
    | brk => exact q3
    | ret v => exact q3
  | false =>
    rw [if_neg Bool.false_ne_true]
    exact wpAny_execs_nil ⟨σ1, H2, I2, q2⟩
end
structure It where
  go : Nat → Hp → Prop
  yld : Nat → Hp → V → Hp → Prop
  stop : Nat → Hp → Prop
noncomputable def FpOk (X : Cx) (pins : List (Addr × Obj)) (H : Hp) (b : Addr) : Prop :=
  H b = none ∧ b ≠ X.env.locals ∧ b ∉ X.fs ∧ (b ∈ X.ex ∨ X.s₀.heap.objs.size ≤ b) ∧ (∀ x c, X.env.cells.lookup x = some c → c ≠ b) ∧ ∀ p ∈ X.pn ++ pins, p.1 ≠ b
theorem Inv.fpOk {X : Cx} {pins : List (Addr × Obj)} {σ : St} {H H' : Hp} {s : Shared} {b : Addr} (I : Inv X pins σ H s) (hb : s.heap.objs.size ≤ b) (hn : H' b = none) : FpOk X pins H' b := by
  refine ⟨hn, Nat.ne_of_gt (Nat.lt_of_lt_of_le I.lt hb), I.nofs hb, .inr (Nat.le_trans I.sz hb), fun x c e z => ?_, fun p hp z => ?_⟩
  · obtain ⟨v, q⟩ := I.cell x c e
    exact absurd (Nat.lt_of_lt_of_le q.lt (by rw [z]; exact hb)) (Nat.lt_irrefl _)
  · exact absurd (Nat.lt_of_lt_of_le (Heap.lt_size (I.pin p hp).1) (by rw [z]; exact hb)) (Nat.lt_irrefl _)
structure Turn (P : Program) (w : World) (K : PySem.W.Frag) (tg : Expr) (J : It) (fp : List Addr) (it : Addr) (tn : Nat → Heap → Prop) : Prop where
  mem : it ∈ fp
  obj : ∀ i h, tn i h → ∀ b ∈ fp, ∃ o, h.get? b = some o ∧ ∀ v, o.data ≠ .cell v
  keep : ∀ i h h', tn i h → (∀ b ∈ fp, ∀ o, h.get? b = some o → h'.get? b = some o) → tn i h'
  item : ∀ (X : Cx), X.prog = P → X.w = w → X.K = K → X.calm = true → ∀ (i : Nat) (pins : List (Addr × Obj)) (s : Shared) (σ : St) (H : Hp) (E : Value → Shared → Prop), Inv X pins σ H s → (∀ b ∈ fp, FpOk X pins H b) → tn i s.heap → J.go i H →
    wpAny (model P w) X.A (pyNext (.ref it)) (fun r s1 => ∃ u, r = some u ∧
      wpAny (model P w) X.A (letOwnedTupleGo tg (.ref it) u) (fun _ s2 => ∃ x H', Inv X pins σ H' s2 ∧ RelV x u ∧ J.yld i H x H' ∧ tn (i + 1) s2.heap ∧ ∀ b ∈ fp, H' b = none) E s1) E s
  done : ∀ (X : Cx), X.prog = P → X.w = w → X.K = K → X.calm = true → ∀ (i : Nat) (pins : List (Addr × Obj)) (s : Shared) (σ : St) (H : Hp) (E : Value → Shared → Prop), Inv X pins σ H s → (∀ b ∈ fp, FpOk X pins H b) → tn i s.heap → J.stop i H →
    wpAny (model P w) X.A (pyNext (.ref it)) (fun r s1 => r = none ∧ Inv X pins σ H s1) E s
  self : ∀ (A : Around) (i : Nat) (s : Shared) (Q : Value → Shared → Prop) (E : Value → Shared → Prop), tn i s.heap → Q (.ref it) s → wpAny (model P w) A (pyIter (.ref it)) Q E s
noncomputable abbrev TI := St → Hp → (It → Hp → Prop) → Prop
noncomputable def PIE (X : Cx) (pins : List (Addr × Obj)) (σ : St) (tg : Expr) (R : It → Hp → Prop) (itv : Value) (s2 : Shared) : Prop :=
  ∃ (it : Addr) (fp : List Addr) (tn : Nat → Heap → Prop) (J : It) (H' : Hp), itv = .ref it ∧ Inv X pins σ H' s2 ∧ Turn X.prog X.w X.K tg J fp it tn ∧ tn 0 s2.heap ∧ (∀ b ∈ fp, FpOk X pins H' b) ∧ R J H'
noncomputable def PI (X : Cx) (tg iter : Expr) (wi : TI) : Prop :=
  ∀ (pins : List (Addr × Obj)) (s : Shared) (σ : St) (H : Hp) (R : It → Hp → Prop), Inv X pins σ H s → wi σ H R →
    wpAny (model X.prog X.w) X.A (eval iter X.env) (fun v s1 => wpAny (model X.prog X.w) X.A (pyIter v) (PIE X pins σ tg R) X.xe s1) X.xe s
theorem go_of {M : Model} {A : Around} {E : Value → Shared → Prop} {s : Shared} {tg : Expr} {it : Addr} {u : Value} {o : Obj} {n : String} {vs : Array Value} {Q : Unit → Shared → Prop} (ho : s.heap.get? it = some o) (hc : o.cls = .type n) (hd : o.data = .fields vs)
    (hn : ["enumerate", "zip", "dict_itemiterator", "dict_reverseitemiterator", "odict_iterator", "itertools.zip_longest", "itertools.pairwise"].contains n = false) (hQ : Q () s) : wpAny M A (letOwnedTupleGo tg (.ref it) u) Q E s := by
  unfold letOwnedTupleGo
  cases tg <;> first
    | exact wpAny_pure hQ
    | (cases u <;> first
        | exact wpAny_pure hQ
        | (refine wpAny_bind (wpAny_load ho ?_)
           rw [hc, hd]
           show wpAny M A (if (["enumerate", "zip", "dict_itemiterator", "dict_reverseitemiterator", "odict_iterator", "itertools.zip_longest", "itertools.pairwise"].contains n && vs[0]? == some (rawInt _)) = true then _ else _) Q E s
           rw [if_neg (by intro h; rw [hn, Bool.false_and] at h; cases h)]
           exact wpAny_pure hQ))
noncomputable def Itl (K : PySem.W.Frag) (a : Addr) : It :=
  ⟨fun i H => ∃ xs x, SqL K H a xs ∧ xs[i]? = some x, fun i H x H' => H' = H ∧ ∀ xs, SqL K H a xs → xs[i]? = some x, fun i H => ∃ xs, SqL K H a xs ∧ xs.length ≤ i⟩
noncomputable def Itt (K : PySem.W.Frag) (a : Addr) : It :=
  ⟨fun i H => ∃ xs x, SqT K H a xs ∧ xs[i]? = some x, fun i H x H' => H' = H ∧ ∀ xs, SqT K H a xs → xs[i]? = some x, fun i H => ∃ xs, SqT K H a xs ∧ xs.length ≤ i⟩
noncomputable def Itr (lo : Int) (n : Nat) : It := ⟨fun i _ => i < n, fun i H x H' => H' = H ∧ x = .int (lo + i), fun i _ => n ≤ i⟩
theorem turn_list {P : Program} {w : World} {K : PySem.W.Frag} {tg : Expr} (a it : Addr) : Turn P w K tg (Itl K a) [it] it (fun i h => h.IsListIter it a i) where
  mem := by simp
  obj := fun i h st b hb => by
    have e : b = it := by simpa using hb
    subst e
    obtain ⟨o, e, c, d⟩ := st
    exact ⟨o, e, fun v z => by rw [d] at z; cases z⟩
  keep := fun i h h' st k => st.at fun o e => k it (by simp) o e
  item := by
    intro X hP hw hK hc i pins s σ H E I hf st hg
    subst hP hw hK
    obtain ⟨xs, x, hq, hx⟩ := hg
    obtain ⟨its, rv, p, hz⟩ := I.list hq
    obtain ⟨u, hu, ru⟩ := rv.get hx
    obtain ⟨f0, f1, f2, f3, f4, f5⟩ := hf it (by simp)
    refine wpAny_pyNext_list_item st p.isList (x := u) (by simpa using hu) fun h' st' sb => ?_
    have I1 : Inv X pins σ H { s with heap := h' } := I.turned (t' := s.toks) (fun b o hb e => (sb.2 b hb).trans e) f0 f1 f3 f4 f5
    obtain ⟨o, e, c, d⟩ := id st'
    exact ⟨u, rfl, go_of (s := { s with heap := h' }) e c d (by decide) ⟨x, H, I1, ru, ⟨rfl, fun ys hy => by rw [I.list_inj hy hq]; exact hx⟩, st', fun b hb => (hf b hb).1⟩⟩
  done := by
    intro X hP hw hK hc i pins s σ H E I hf st hg
    subst hP hw hK
    obtain ⟨xs, hq, hx⟩ := hg
    obtain ⟨its, rv, p, hz⟩ := I.list hq
    obtain ⟨f0, f1, f2, f3, f4, f5⟩ := hf it (by simp)
    have hl := rv.length
    exact wpAny_pyNext_list_end (I.ok.hd hc) st p.isList (by simp; omega) fun h' eb => ⟨rfl, I.turned (t' := s.toks) (fun b o hb e => eb b o hb e) f0 f1 f3 f4 f5⟩
  self := fun _ _ _ _ _ st h => wpAny_pyIter_listiter st h
theorem turn_tuple {P : Program} {w : World} {K : PySem.W.Frag} {tg : Expr} (a it : Addr) : Turn P w K tg (Itt K a) [it] it (fun i h => h.IsTupleIter it a i) where
  mem := by simp
  obj := fun i h st b hb => by
    have e : b = it := by simpa using hb
    subst e
    obtain ⟨o, e, c, d⟩ := st
    exact ⟨o, e, fun v z => by rw [d] at z; cases z⟩
  keep := fun i h h' st k => st.at fun o e => k it (by simp) o e
  item := by
    intro X hP hw hK hc i pins s σ H E I hf st hg
    subst hP hw hK
    obtain ⟨xs, x, hq, hx⟩ := hg
    obtain ⟨its, rv, p, hz⟩ := I.tuple hq
    obtain ⟨u, hu, ru⟩ := rv.get hx
    obtain ⟨f0, f1, f2, f3, f4, f5⟩ := hf it (by simp)
    refine wpAny_pyNext_tuple_item st (show s.heap.IsTuple a its.toArray from p) (x := u) (by simpa using hu) fun h' st' sb => ?_
    have I1 : Inv X pins σ H { s with heap := h' } := I.turned (t' := s.toks) (fun b o hb e => (sb.2 b hb).trans e) f0 f1 f3 f4 f5
    obtain ⟨o, e, c, d⟩ := id st'
    exact ⟨u, rfl, go_of (s := { s with heap := h' }) e c d (by decide) ⟨x, H, I1, ru, ⟨rfl, fun ys hy => by rw [I.tuple_inj hy hq]; exact hx⟩, st', fun b hb => (hf b hb).1⟩⟩
  done := by
    intro X hP hw hK hc i pins s σ H E I hf st hg
    subst hP hw hK
    obtain ⟨xs, hq, hx⟩ := hg
    obtain ⟨its, rv, p, hz⟩ := I.tuple hq
    obtain ⟨f0, f1, f2, f3, f4, f5⟩ := hf it (by simp)
    have hl := rv.length
    exact wpAny_pyNext_tuple_end (I.ok.hd hc) st (show s.heap.IsTuple a its.toArray from p) (by simp; omega) fun h' eb => ⟨rfl, I.turned (t' := s.toks) (fun b o hb e => eb b o hb e) f0 f1 f3 f4 f5⟩
  self := fun _ _ _ _ _ st h => wpAny_pyIter_tupleiter st h
theorem turn_range {P : Program} {w : World} {K : PySem.W.Frag} {tg : Expr} (it : Addr) (lo : Int) (n : Nat) : Turn P w K tg (Itr lo n) [it] it (fun i h => IsRangeIter h it (lo + (i : Nat) * 1) ((n : Int) - (i : Nat)) 1) where
  mem := by simp
  obj := fun i h st b hb => by
    have e : b = it := by simpa using hb
    subst e
    exact ⟨_, st, fun v z => by
      have z' : Data.fields _ = Data.cell v := z
      cases z'⟩
  keep := fun i h h' st k => k it (by simp) _ st
  item := by
    intro X hP hw hK hc i pins s σ H E I hf st hg
    subst hP hw hK
    obtain ⟨f0, f1, f2, f3, f4, f5⟩ := hf it (by simp)
    have W := Walks.range (prog := X.prog) (w := X.w) (I.ok.hd hc) it lo 1 n
    refine W.item i s _ _ hg st fun v h' tk hv st' kk => ?_
    obtain ⟨t, rfl⟩ := hv
    have I1 : Inv X pins σ H { s with heap := h', toks := tk } := I.turned (fun b o hb e => kk b o (by simpa using hb) e) f0 f1 f3 f4 f5
    refine ⟨_, rfl, go_of (s := { s with heap := h', toks := tk }) (n := "range_iterator") st' rfl rfl (by decide) ⟨.int (lo + i), H, I1, ⟨t, ?_⟩, ⟨rfl, rfl⟩, st', fun b hb => (hf b hb).1⟩⟩
    rw [Int.mul_one]
  done := by
    intro X hP hw hK hc i pins s σ H E I hf st hg
    subst hP hw hK
    obtain ⟨f0, f1, f2, f3, f4, f5⟩ := hf it (by simp)
    exact wpAny_pyNext_range_end (I.ok.hd hc) st (by have : n ≤ i := hg; omega) fun h' eb => ⟨rfl, I.turned (t' := s.toks) (fun b o hb e => eb b o hb e) f0 f1 f3 f4 f5⟩
  self := fun _ _ _ _ _ st h => wpAny_pyIter_rangeiter st h
end L2
namespace L2
open PySem PySem.Spec PyProof.Rows
section
variable {X : Cx} {tg : Expr}
theorem range_it {pins : List (Addr × Obj)} {σ : St} {H : Hp} {s : Shared} {R : It → Hp → Prop} {E : Value → Shared → Prop} {lo hi : Int} {t u v : Tok} {tk : Nat} (I : Inv X pins σ H s) (h1 : -(2 ^ 62) ≤ lo) (h2 : lo < 2 ^ 62) (h3 : -(2 ^ 62) ≤ hi) (h4 : hi < 2 ^ 62)
    (q : R (Itr lo (hi - lo).toNat) H) : wpAny (model X.prog X.w) X.A (pyIter (.ref s.heap.objs.size)) (PIE X pins σ tg R) E { s with heap := s.heap.push { cls := .type "range", data := .fields #[.int lo t, .int hi u, .int 1 v] }, toks := tk } := by
  refine wpAny_pyIter_range (IsRange.new ..) (small_one h1 h2 h3 h4) ?_
  have I1 : Inv X pins σ H { s with heap := s.heap.push { cls := .type "range", data := .fields #[.int lo t, .int hi u, .int 1 v] }, toks := tk } := I.kept fun b o e => Heap.get?_push_of_some _ e
  refine ⟨(s.heap.push { cls := .type "range", data := .fields #[.int lo t, .int hi u, .int 1 v] }).objs.size, [(s.heap.push { cls := .type "range", data := .fields #[.int lo t, .int hi u, .int 1 v] }).objs.size], _, _, H, rfl,
    I1.kept (t' := tk) fun b o e => Heap.get?_push_of_some _ e, turn_range _ lo (hi - lo).toNat, ?_, fun b hb => ?_, q⟩
  · have e1 : lo + ((0 : Nat) : Int) * 1 = lo := by simp
    have e2 : (((hi - lo).toNat : Nat) : Int) - ((0 : Nat) : Int) = Builtin.Range.rangeSize lo hi 1 := by rw [rangeSize_one]; split <;> omega
    show IsRangeIter _ _ (lo + ((0 : Nat) : Int) * 1) ((((hi - lo).toNat : Nat) : Int) - ((0 : Nat) : Int)) 1
    rw [e1, e2]
    exact Heap.get?_push_size _ rfl
  · have e : b = (s.heap.push { cls := .type "range", data := .fields #[.int lo t, .int hi u, .int 1 v] }).objs.size := by simpa using hb
    subst e
    exact I1.fpOk (Nat.le_refl _) (I1.hok.fresh (Nat.le_refl _))
noncomputable def iRng1 (ta : TA) : TI := fun σ H R => ta σ H fun vs H1 => ∃ j : Int, vs = [.int j] ∧ -(2 ^ 62) ≤ j ∧ j < 2 ^ 62 ∧ R (Itr 0 j.toNat) H1
theorem pi_range1 {a : Expr} {ta : TA} {p pos : Pos} (hg : Gl X "range") (hm : X.mg "range" = none) (ha : PA X [a] ta) (hs : starEach [a] X.env = [(false, eval a X.env)] := by rfl) : PI X tg (.Call (.Name "range" p) [a] [] pos) (iRng1 ta) := by
  intro pins s σ H R I h
  refine Call_ (ld_blt I hg hm boot_range (PyProof.Rows.callWith_type1 (thn (ha pos pins s σ H _ I h) fun us s1 ⟨vs, H1, I1, r1, q1⟩ => ?_) hs rfl))
  obtain ⟨j, e, q1, q2, q⟩ := q1
  subst e
  cases r1 with
  | cons r rr =>
    cases rr
    obtain ⟨t, rfl⟩ := r
    exact call_range_1 (range_it I1 (by omega) (by omega) q1 q2 (by simpa using q))
noncomputable def tFor (wi : TI) (g : TG) (tb : TS) : TS := fun D σ H => wi σ H fun J H1 => ∃ W : Nat → Nat → St → Hp → Prop, (∃ m, W 0 m σ H1) ∧ ∀ i m σ H, W i m σ H →
  (J.stop i H ∧ D.nx σ H) ∨ (J.go i H ∧ ∃ N : St → Hp → Prop, (∀ σ' H', N σ' H' → ∃ m', m' < m ∧ W (i + 1) m' σ' H') ∧ ∀ x H', J.yld i H x H' → g x σ H' fun σ2 H2 => tb { D with nx := N, ct := N, bk := D.nx } σ2 H2)
noncomputable def pinsAt (fp : List Addr) (h : Heap) : List (Addr × Obj) := fp.filterMap fun b => (h.get? b).map fun o => (b, o)
theorem mem_pinsAt {fp : List Addr} {h : Heap} {b : Addr} {o : Obj} (hb : b ∈ fp) (e : h.get? b = some o) : (b, o) ∈ pinsAt fp h := List.mem_filterMap.mpr ⟨b, hb, by rw [e]; rfl⟩
theorem of_pinsAt {fp : List Addr} {h : Heap} {p : Addr × Obj} (hp : p ∈ pinsAt fp h) : p.1 ∈ fp ∧ h.get? p.1 = some p.2 := by
  obtain ⟨b, hb, e⟩ := List.mem_filterMap.mp hp
  cases q : h.get? b with
  | none => rw [q] at e; cases e
  | some o =>
    rw [q] at e
    have e' : (b, o) = p := Option.some.inj e
    subst e'
    exact ⟨hb, q⟩
theorem Inv.pinned {pins : List (Addr × Obj)} {σ : St} {H : Hp} {s : Shared} {fp : List Addr} (I : Inv X pins σ H s) (hf : ∀ b ∈ fp, FpOk X pins H b) (ho : ∀ b ∈ fp, ∃ o, s.heap.get? b = some o ∧ ∀ v, o.data ≠ .cell v) : Inv X (pins ++ pinsAt fp s.heap) σ H s :=
  I.pins_of fun p hp => (List.mem_append.mp hp).elim (fun z => I.pin p (List.mem_append_right _ z)) fun z => by
    obtain ⟨hb, e⟩ := of_pinsAt z
    obtain ⟨f0, f1, f2, _⟩ := hf p.1 hb
    obtain ⟨o, e', d⟩ := ho p.1 hb
    rw [e] at e'; cases e'
    exact ⟨e, f0, f1, f2, d⟩
theorem Inv.unpinned {pins pl : List (Addr × Obj)} {σ : St} {H : Hp} {s : Shared} (I : Inv X (pins ++ pl) σ H s) : Inv X pins σ H s := I.pins_of fun p hp => I.pin p (List.mem_append_right _ (List.mem_append_left _ hp))
theorem ps_for {iter : Expr} {body : List Stmt} {wi : TI} {g : TG} {tb : TS} {pos : Pos} (hp : PassesOwn (model X.prog X.w) X.A X.env X.xe) (hc : X.calm = true) (hi : PI X tg iter wi) (hg : PG X tg g) (hb : PSs X body tb)
    (hs : ∀ x, foldedSetIterable iter X.env x = pure x := by intro _; rfl) : PS X (.For tg iter body [] pos) (tFor wi g tb) := by
  intro pins s σ H D I h
  refine wpAny_For (thn (hi pins s σ H _ I h) fun v s1 h1 => thn h1 fun itv s2 h2 => ?_) hs
  obtain ⟨it, fp, tn, J, H2, e, I2, T, st2, f2, W, ⟨m0, w0⟩, turn⟩ := h2
  subst e
  have stat : ∀ {H' : Hp}, (∀ b ∈ fp, H' b = none) → ∀ b ∈ fp, FpOk X pins H' b := fun hn b hb => ⟨hn b hb, (f2 b hb).2⟩
  refine codeAny_forLoop_any (fun n s' => ∃ i σ' H', Inv X pins σ' H' s' ∧ tn i s'.heap ∧ (∀ b ∈ fp, H' b = none) ∧ W i n σ' H') ?_ m0 ⟨0, σ, H2, I2, st2, fun b hb => (f2 b hb).1, w0⟩
  rintro n s3 ⟨i, σ3, H3, I3, st3, fr3, w3⟩
  rcases turn i n σ3 H3 w3 with ⟨stop, qn⟩ | ⟨go, N, hN, step⟩
  · refine wpAny_passesOwn hp (thn (T.done X rfl rfl rfl hc i pins s3 σ3 H3 X.xe I3 (stat fr3) st3 stop) fun r s4 ⟨hr, I4⟩ => ?_)
    subst hr
    exact wpAny_execs_nil ⟨σ3, H3, I4, qn⟩
  · refine wpAny_passesOwn hp (thn (T.item X rfl rfl rfl hc i pins s3 σ3 H3 X.xe I3 (stat fr3) st3 go) fun r s4 ⟨u, hr, h4⟩ => ?_)
    subst hr
    refine wpAny_passesOwn hp (thn h4 fun _ s5 ⟨x, H5, I5, r5, y5, st5, fr5⟩ => ?_)
    have I5' := I5.pinned (stat fr5) (T.obj _ _ st5)
    refine wpAny_passesOwn hp (thn (hg _ s5 σ3 H5 x u _ I5' r5 (step x H5 y5)) fun _ s6 ⟨σ6, H6, I6, q6⟩ => ?_)
    refine wpAny_passesOwn hp (thn (hb _ s6 σ6 H6 _ I6 q6) fun f s7 q7 => ?_)
    have again : ∀ {σ7 : St} {H7 : Hp}, Inv X (pins ++ pinsAt fp s5.heap) σ7 H7 s7 → N σ7 H7 → ∃ m, m < n ∧ ∃ i σ' H', Inv X pins σ' H' s7 ∧ tn i s7.heap ∧ (∀ b ∈ fp, H' b = none) ∧ W i m σ' H' := fun {σ7 H7} I7 n7 => by
      obtain ⟨m', hm, w7⟩ := hN σ7 H7 n7
      refine ⟨m', hm, i + 1, σ7, H7, I7.unpinned, T.keep _ _ _ st5 fun b hb o e => (I7.pin (b, o) (List.mem_append_right _ (List.mem_append_right _ (mem_pinsAt hb e)))).1, fun b hb => ?_, w7⟩
      obtain ⟨o, e, d⟩ := T.obj _ _ st5 b hb
      exact (I7.pin (b, o) (List.mem_append_right _ (List.mem_append_right _ (mem_pinsAt hb e)))).2.1
    cases f with
    | next => obtain ⟨σ7, H7, I7, n7⟩ := q7; exact again I7 n7
    | cont => obtain ⟨σ7, H7, I7, n7⟩ := q7; exact again I7 n7
    | brk => obtain ⟨σ7, H7, I7, q7⟩ := q7; exact ⟨σ7, H7, I7.unpinned, q7⟩
    | ret v => obtain ⟨x7, σ7, H7, I7, r7, q7⟩ := q7; exact ⟨x7, σ7, H7, I7.unpinned, r7, q7⟩
end
end L2
namespace L2
open PySem PySem.Spec PyProof.Rows
noncomputable abbrev R2 := V → V → Hp → VK → Prop
noncomputable def OpR (X : Cx) (f : Value → Value → Sem Value) (r : R2) : Prop :=
  ∀ (pins : List (Addr × Obj)) (s : Shared) (σ : St) (H : Hp) (x y : V) (v u : Value) (Q : VK), Inv X pins σ H s → RelV x v → RelV y u → r x y H Q →
    wpAny (model X.prog X.w) X.A (f v u) (EP X pins σ Q) X.xe s
noncomputable def UnR (X : Cx) (f : Value → Sem Value) (r : V → Hp → VK → Prop) : Prop :=
  ∀ (pins : List (Addr × Obj)) (s : Shared) (σ : St) (H : Hp) (x : V) (v : Value) (Q : VK), Inv X pins σ H s → RelV x v → r x H Q →
    wpAny (model X.prog X.w) X.A (f v) (EP X pins σ Q) X.xe s
noncomputable def CallR (X : Cx) (f : Value) (r : List V → Hp → VK → Prop) : Prop :=
  ∀ (pins : List (Addr × Obj)) (s : Shared) (σ : St) (H : Hp) (xs : List V) (us : List Value) (Q : VK), Inv X pins σ H s → Vals xs us → r xs H Q →
    wpAny (model X.prog X.w) X.A (call f us) (EP X pins σ Q) X.xe s
noncomputable def TruR (X : Cx) (r : V → Hp → (Bool → Hp → Prop) → Prop) : Prop :=
  ∀ (pins : List (Addr × Obj)) (s : Shared) (σ : St) (H : Hp) (x : V) (v : Value) (Q : Bool → Hp → Prop), Inv X pins σ H s → RelV x v → r x H Q →
    wpAny (model X.prog X.w) X.A (truthy v) (TP X pins σ Q) X.xe s
noncomputable def tOp (r : R2) (ta tb : TE) : TE := fun σ H Q => ta σ H fun x H1 => tb σ H1 fun y H2 => r x y H2 Q
noncomputable def tUn (r : V → Hp → VK → Prop) (ta : TE) : TE := fun σ H Q => ta σ H fun x H1 => r x H1 Q
noncomputable def rI (C : Int → Int → Prop) (g : Int → Int → V) : R2 := fun x y H Q => ∃ i j, x = .int i ∧ y = .int j ∧ C i j ∧ Q (g i j) H
noncomputable def rI0 (g : Int → Int → V) : R2 := fun x y H Q => ∃ i j, x = .int i ∧ y = .int j ∧ Q (g i j) H
noncomputable def rU (g : Int → V) : V → Hp → VK → Prop := fun x H Q => ∃ i, x = .int i ∧ Q (g i) H
section
variable {X : Cx} {a b c : Expr} {ta tb tc : TE} {pos : Pos}
theorem binT (ha : PE X a ta) (hb : PE X b tb) {pins : List (Addr × Obj)} {s : Shared} {σ : St} {H : Hp} {R : V → V → Hp → Prop} (I : Inv X pins σ H s)
    (h : ta σ H fun x H1 => tb σ H1 fun y H2 => R x y H2) {Q : Value → Shared → Prop} {f : Value → Value → Sem Value}
    (hf : ∀ v u s2 x y H2, Inv X pins σ H2 s2 → RelV x v → RelV y u → R x y H2 → wpAny (model X.prog X.w) X.A (f v u) Q X.xe s2) :
    wpAny (model X.prog X.w) X.A (eval a X.env) (fun v s₁ => wpAny (model X.prog X.w) X.A (eval b X.env) (fun u s₂ => wpAny (model X.prog X.w) X.A (f v u) Q X.xe s₂) X.xe s₁) X.xe s := by
  refine thn (ha pins s σ H _ I h) fun v s1 ⟨x, H1, I1, r1, q1⟩ => ?_
  refine thn (hb pins s1 σ H1 _ I1 q1) fun u s2 ⟨y, H2, I2, r2, q2⟩ => ?_
  exact hf v u s2 x y H2 I2 r1 r2 q2
theorem pe_op {op : Operator} {r : R2} (ho : OpR X (binaryOp op) r) (ha : PE X a ta) (hb : PE X b tb) : PE X (.BinOp a op b pos) (tOp r ta tb) := by
  intro pins s σ H Q I h
  exact wpAny_BinOp (binT ha hb I h fun v u s2 x y H2 I2 rx ry q => ho pins s2 σ H2 x y v u Q I2 rx ry q)
theorem pe_un {op : UnaryOp} {r : V → Hp → VK → Prop} (ho : UnR X (unaryOp op) r) (ha : PE X a ta) : PE X (.UnaryOp op a pos) (tUn r ta) := by
  intro pins s σ H Q I h
  exact UnaryOp_ (thn (ha pins s σ H _ I h) fun v s1 ⟨x, H1, I1, r1, q1⟩ => ho pins s1 σ H1 x v Q I1 r1 q1)
theorem opI {f : Value → Value → Sem Value} {C : Int → Int → Prop} {g : Int → Int → Int}
    (rule : ∀ (i j : Int) (t u : Tok) (s : Shared) (Q : Value → Shared → Prop) (E : Value → Shared → Prop), C i j → Q (.int (g i j) s.toks) { s with toks := s.toks + 1 } → wpAny (model X.prog X.w) X.A (f (.int i t) (.int j u)) Q E s) :
    OpR X f (rI C fun i j => .int (g i j)) := by
  intro pins s σ H x y v u Q I rx ry h
  obtain ⟨i, j, rfl, rfl, hc, q⟩ := h
  obtain ⟨t, rfl⟩ := rx
  obtain ⟨t', rfl⟩ := ry
  exact rule i j t t' s _ _ hc ⟨.int (g i j), H, I.tok _, ⟨_, rfl⟩, q⟩
theorem opI0 {f : Value → Value → Sem Value} {g : Int → Int → Int}
    (rule : ∀ (i j : Int) (t u : Tok) (s : Shared) (Q : Value → Shared → Prop) (E : Value → Shared → Prop), Q (.int (g i j) s.toks) { s with toks := s.toks + 1 } → wpAny (model X.prog X.w) X.A (f (.int i t) (.int j u)) Q E s) :
    OpR X f (rI0 fun i j => .int (g i j)) := by
  intro pins s σ H x y v u Q I rx ry h
  obtain ⟨i, j, rfl, rfl, q⟩ := h
  obtain ⟨t, rfl⟩ := rx
  obtain ⟨t', rfl⟩ := ry
  exact rule i j t t' s _ _ ⟨.int (g i j), H, I.tok _, ⟨_, rfl⟩, q⟩
theorem opB0 {f : Value → Value → Sem Value} {g : Int → Int → Bool}
    (rule : ∀ (i j : Int) (t u : Tok) (s : Shared) (Q : Value → Shared → Prop) (E : Value → Shared → Prop), Q (.bool (g i j)) s → wpAny (model X.prog X.w) X.A (f (.int i t) (.int j u)) Q E s) :
    OpR X f (rI0 fun i j => .bl (g i j)) := by
  intro pins s σ H x y v u Q I rx ry h
  obtain ⟨i, j, rfl, rfl, q⟩ := h
  obtain ⟨t, rfl⟩ := rx
  obtain ⟨t', rfl⟩ := ry
  exact rule i j t t' s _ _ ⟨.bl (g i j), H, I, rfl, q⟩
noncomputable def CDiv (i j : Int) : Prop := 0 < j ∧ j < 1073741824
noncomputable def CPow (i j : Int) : Prop := 0 ≤ j ∧ j ≤ 1000000 ∧ i.natAbs < 2 ^ 64
noncomputable def CMul (i j : Int) : Prop := (-(2 ^ 64) < i ∧ i < 2 ^ 64) ∨ (-(2 ^ 64) < j ∧ j < 2 ^ 64)
theorem CMul.ok {i j : Int} (h : CMul i j) : IntMulOk i j := by
  rcases h with ⟨h1, h2⟩ | ⟨h1, h2⟩
  · exact .of_left (intBits_le_64 h1 h2)
  · exact .of_right (intBits_le_64 h1 h2)
theorem op_add : OpR X (binaryOp .Add) (rI0 fun i j => .int (i + j)) := opI0 fun _ _ _ _ _ _ _ q => add_int q
theorem op_mul : OpR X (binaryOp .Mult) (rI CMul fun i j => .int (i * j)) := opI fun _ _ _ _ _ _ _ hc q => mul_int q hc.ok
theorem op_fdiv : OpR X (binaryOp .FloorDiv) (rI CDiv fun i j => .int (i / j)) := opI fun i j _ _ _ _ _ hc q => by
  have h1 : (0 : Int) < j := hc.1
  have h2 : j < 1073741824 := hc.2
  exact floordiv_int (by omega) (by rw [Int.fdiv_eq_ediv_of_nonneg i (by omega)]; exact q) (.inl (PyProof.noPylong_small (by omega)))
theorem op_mod : OpR X (binaryOp .Mod) (rI (fun _ j => 0 < j) fun i j => .int (i % j)) := opI fun i j _ _ _ _ _ hc q => by
  have h1 : (0 : Int) < j := hc
  exact mod_int' (by omega) (by rw [Int.fmod_eq_emod_of_nonneg i (by omega)]; exact q)
theorem op_pow : OpR X (binaryOp .Pow) (rI CPow fun i j => .int (i ^ j.toNat)) := opI fun _ _ _ _ _ _ _ hc q => pow_int_small hc.1 hc.2.1 hc.2.2 q
theorem unI {f : Value → Sem Value} {g : Int → Int}
    (rule : ∀ (i : Int) (t : Tok) (s : Shared) (Q : Value → Shared → Prop) (E : Value → Shared → Prop), Q (.int (g i) s.toks) { s with toks := s.toks + 1 } → wpAny (model X.prog X.w) X.A (f (.int i t)) Q E s) :
    UnR X f (rU fun i => .int (g i)) := by
  intro pins s σ H x v Q I rx h
  obtain ⟨i, rfl, q⟩ := h
  obtain ⟨t, rfl⟩ := rx
  exact rule i t s _ _ ⟨.int (g i), H, I.tok _, ⟨_, rfl⟩, q⟩
theorem un_neg : UnR X (unaryOp .USub) (rU fun i => .int (-i)) := unI fun _ _ _ _ _ q => neg_int q
end
section
variable {X : Cx} {a b c : Expr} {ta tb tc : TE} {pos : Pos}
theorem fin_bl {pins : List (Addr × Obj)} {σ : St} {H : Hp} {s : Shared} {Q : VK} {k k' : Bool} (I : Inv X pins σ H s) (q : Q (.bl k) H) (e : k = k') : EP X pins σ Q (.bool k') s := by
  subst e
  exact ⟨.bl k, H, I, rfl, q⟩
theorem op_lt : OpR X (compareOp .Lt) (rI0 fun i j => .bl (decide (i < j))) := opB0 fun _ _ _ _ _ _ _ q => lt_int q
theorem op_le : OpR X (compareOp .LtE) (rI0 fun i j => .bl (decide (i ≤ j))) := opB0 fun _ _ _ _ _ _ _ q => le_int q
theorem op_gt : OpR X (compareOp .Gt) (rI0 fun i j => .bl (decide (j < i))) := opB0 fun _ _ _ _ _ _ _ q => gt_int q
theorem op_ge : OpR X (compareOp .GtE) (rI0 fun i j => .bl (decide (j ≤ i))) := opB0 fun _ _ _ _ _ _ _ q => ge_int q
theorem op_isN : OpR X (compareOp .Is) (fun x y H Q => y = .non ∧ Q (.bl (decide (x = .non))) H) := by
  intro pins s σ H x y v u Q I rx ry h
  obtain ⟨rfl, q⟩ := h
  cases ry
  refine is_none_gen (fin_bl I q ?_)
  cases x <;> first
    | (cases rx; rfl)
    | (obtain ⟨t, rfl⟩ := rx; rfl)
theorem OpR.or {f : Value → Value → Sem Value} {r r' : R2} (h : OpR X f r) (h' : OpR X f r') : OpR X f (fun x y H Q => r x y H Q ∨ r' x y H Q) := by
  intro pins s σ H x y v u Q I rx ry q
  rcases q with q | q
  · exact h pins s σ H x y v u Q I rx ry q
  · exact h' pins s σ H x y v u Q I rx ry q
theorem nomark (b : Expr) {op : CmpOp} (h : op ≠ .In := by decide) (h2 : op ≠ .NotIn := by decide) : behindInMarks op b = false := by
  have e1 : (op == CmpOp.In) = false := by cases op <;> first | rfl | exact absurd rfl h
  have e2 : (op == CmpOp.NotIn) = false := by cases op <;> first | rfl | exact absurd rfl h2
  cases b <;> simp [behindInMarks, e1, e2]
theorem pe_cmpR {op : CmpOp} {r : R2} (ho : OpR X (compareOp op) r) (ha : PE X a ta) (hb : PE X b tb) (hm : behindInMarks op b = false) : PE X (.Compare a [op] [b] pos) (tOp r ta tb) := by
  intro pins s σ H Q I h
  exact wpAny_Compare1 (binT ha hb I h fun v u s2 x y H2 I2 rx ry q => ho pins s2 σ H2 x y v u Q I2 rx ry q) hm
noncomputable def tTest (t : TE) : TT := fun σ H Q => t σ H fun x H' => ∃ k, x = .bl k ∧ Q k H'
theorem pt_cmpR {op : CmpOp} {r : R2} (ho : OpR X (compareOp op) r) (ha : PE X a ta) (hb : PE X b tb) (hm : behindInMarks op b = false) : PT X (.Compare a [op] [b] pos) (tTest (tOp r ta tb)) := by
  intro pins s σ H Q I h
  refine wpAny_isTrue_Compare1 (thn (ha pins s σ H _ I h) fun v s1 ⟨x, H1, I1, r1, q1⟩ => thn (hb pins s1 σ H1 _ I1 q1) fun u s2 ⟨y, H2, I2, r2, q2⟩ =>
    thn (ho pins s2 σ H2 x y v u _ I2 r1 r2 q2) fun c s3 ⟨z, H3, I3, r3, k, e, q3⟩ => ?_) hm
  subst e
  cases r3
  exact wpAny_truthy_bool ⟨H3, I3, q3⟩
noncomputable def tChain (r r' : R2) (ta tb tc : TE) : TE := fun σ H Q => ta σ H fun x H1 => tb σ H1 fun y H2 => r x y H2 fun z H3 => ∃ k, z = .bl k ∧
  (if k = true then tc σ H3 fun w' H4 => r' y w' H4 Q else Q (.bl false) H3)
theorem pt_chain {op op' : CmpOp} {r r' : R2} (ho : OpR X (compareOp op) r) (ho' : OpR X (compareOp op') r') (ha : PE X a ta) (hb : PE X b tb) (hc : PE X c tc)
    (hm : lastMarks [op, op'] [b, c] = false := by with_unfolding_all rfl) : PT X (.Compare a [op, op'] [b, c] pos) (tTest (tChain r r' ta tb tc)) := by
  intro pins s σ H Q I h
  refine isTrue_chain (thn (ha pins s σ H _ I h) fun v s1 ⟨x, H1, I1, r1, q1⟩ => test_link (thn (hb pins s1 σ H1 _ I1 q1) fun u s2 ⟨y, H2, I2, r2, q2⟩ =>
    thn (ho pins s2 σ H2 x y v u _ I2 r1 r2 q2) fun d s3 ⟨z, H3, I3, r3, k, e, q3⟩ => ?_)) hm
  subst e
  cases r3
  refine wpAny_truthy_bool ?_
  cases k with
  | false =>
    obtain ⟨k', e', q'⟩ := q3
    cases e'
    exact ite_ff ⟨H3, I3, q'⟩
  | true =>
    refine ite_tt (test_last (thn (hc pins s3 σ H3 _ I3 q3) fun w' s4 ⟨z', H4, I4, r4, q4⟩ => thn (ho' pins s4 σ H4 y z' u w' _ I4 r2 r4 q4) fun d' s5 ⟨z2, H5, I5, r5, k2, e2, q5⟩ => ?_))
    subst e2
    cases r5
    exact wpAny_truthy_bool ⟨H5, I5, q5⟩
noncomputable def TruV (K : PySem.W.Frag) (x : V) (H : Hp) (k : Bool) : Prop :=
  match x with
  | .non => k = false
  | .bl b => k = b
  | .int i => k = (i != 0)
  | .str y => y.length ≤ sizeLine ∧ k = ((y.length : Int) != 0)
  | .byt y => y.size ≤ sizeLine ∧ k = ((y.size : Int) != 0)
  | .ref p => (∃ xs, SqL K H p xs ∧ k = !xs.isEmpty) ∨ (∃ xs, SqT K H p xs ∧ k = !xs.isEmpty) ∨ ∃ kvs, H p = some (.dK kvs) ∧ k = !kvs.isEmpty
  | _ => False
theorem isEmpty_kv {κ : Type} {kvs : List (κ × V)} {vs : List (κ × Value)} (r : KV kvs vs) : (!vs.isEmpty) = !kvs.isEmpty := by
  cases r <;> rfl
theorem isEmpty_of {xs : List V} {its : List Value} (r : Vals xs its) : (!its.toArray.isEmpty) = !xs.isEmpty := by
  cases r <;> simp
theorem line63 : (sizeLine : Nat) < 2 ^ 63 := by rw [sizeLine_eq]; decide
theorem tru_ok : TruR X (fun x H Q => ∃ k, TruV X.K x H k ∧ Q k H) := by
  intro pins s σ H x v Q I rx h
  obtain ⟨k, e, q⟩ := h
  have hl := line63
  have hs : sizeLine = 16777216 := sizeLine_eq
  cases x with
  | non =>
    cases rx
    have e' : k = false := e
    subst e'
    exact truthy_none ⟨H, I, q⟩
  | bl b =>
    cases rx
    have e' : k = b := e
    subst e'
    exact wpAny_truthy_bool ⟨H, I, q⟩
  | int i =>
    obtain ⟨t, rfl⟩ := rx
    have e' : k = (i != 0) := e
    subst e'
    exact PySem.P.truthy_int ⟨H, I, q⟩
  | str y =>
    obtain ⟨t, rfl⟩ := rx
    obtain ⟨hy, e'⟩ : y.length ≤ sizeLine ∧ k = ((y.length : Int) != 0) := e
    subst e'
    exact PySem.P.truthy_str (by omega) ⟨H, I.tok _, q⟩
  | byt y =>
    obtain ⟨t, rfl⟩ := rx
    obtain ⟨hy, e'⟩ : y.size ≤ sizeLine ∧ k = ((y.size : Int) != 0) := e
    subst e'
    exact PySem.W.truthy_bytes (by omega) ⟨H, I.tok _, q⟩
  | ref p =>
    cases rx
    have e' : (∃ xs, SqL X.K H p xs ∧ k = !xs.isEmpty) ∨ (∃ xs, SqT X.K H p xs ∧ k = !xs.isEmpty) ∨ ∃ kvs, H p = some (.dK kvs) ∧ k = !kvs.isEmpty := e
    rcases e' with ⟨xs, hx, e'⟩ | ⟨xs, hx, e'⟩ | ⟨kvs, hx, e'⟩
    · subst e'
      obtain ⟨its, r, pl, hz⟩ := I.list hx
      have hlen := r.length
      exact wpAny_truthy_list pl.isList (by simp only [List.size_toArray]; omega) ⟨H, I.tok _, by rw [isEmpty_of r]; exact q⟩
    · subst e'
      obtain ⟨its, r, pl, hz⟩ := I.tuple hx
      have hlen := r.length
      exact truthy_tuple pl (by simp only [List.size_toArray]; omega) ⟨H, I.tok _, by rw [isEmpty_of r]; exact q⟩
    · subst e'
      obtain ⟨hz, hS, vs, r, m⟩ : kvs.length ≤ sizeLine ∧ (p == sysModules) = false ∧ ∃ vs, KV kvs vs ∧ s.heap.DictOf (mixKind X.prog X.w) p vs := I.hok p _ hx
      have hlen : kvs.length = vs.length := Paired.length r
      exact wpAny_truthy_dict hS m (by omega) ⟨H, I.tok _, by rw [isEmpty_kv r]; exact q⟩
  | _ => exact (show False from e).elim
theorem pt_truth (ha : PE X a ta) (he : ∀ whole, isTrue a X.env whole = (do let v ← whole; standAt a.pos; holding [v] (truthy v))) :
    PT X a (fun σ H Q => ta σ H fun x H' => ∃ k, TruV X.K x H' k ∧ Q k H') := by
  intro pins s σ H Q I h
  exact isTrue_plain (thn (ha pins s σ H _ I h) fun v s1 ⟨x, H1, I1, r1, q1⟩ => tru_ok pins s1 σ H1 x v Q I1 r1 q1) (he _)
theorem op_add_str : OpR X (binaryOp .Add) (fun x y H Q => ∃ i j, x = .str i ∧ y = .str j ∧ i.length + j.length ≤ sizeLine ∧ Q (.str (i ++ j)) H) := by
  intro pins s σ H x y v u Q I rx ry h
  obtain ⟨i, j, rfl, rfl, hz, q⟩ := h
  obtain ⟨t, rfl⟩ := rx
  obtain ⟨t', rfl⟩ := ry
  exact add_str (fun t' tk => ⟨.str (i ++ j), H, I.tok _, ⟨_, rfl⟩, q⟩) hz
theorem vals1 {x : V} {us : List Value} (r : Vals [x] us) : ∃ u, us = [u] ∧ RelV x u := by
  cases r with
  | cons r1 r2 => cases r2; exact ⟨_, rfl, r1⟩
end
end L2
namespace L2
open PySem PySem.Spec PyProof.Rows
section
variable {prog : Program} {w : World} {A : Around} {E : Value → Shared → Prop} {s : Shared} {K : PySem.W.Frag} {x dx C f : Addr} {mA : Str → Option Value} {name : Str} {v : Value}
end
section
variable {P : Program} {w : World} {H H' : Hp} {h h' : Heap} {a C dx : Addr} {fs fs' : List (Str × V)}
end
structure Cls (K : PySem.W.Frag) (C : Addr) : Prop where
  pg : PySem.W.plainGet K C Str.empty = true
  hd : PySem.W.hasDictIn K C = true
  po : PySem.W.plainOver K C = true
  sa : PySem.W.findIn K (.ref C) "__setattr__" = some (some (.builtin "object.__setattr__"))
theorem Cls.get {K : PySem.W.Frag} {C : Addr} (c : Cls K C) (f : Str) : PySem.W.plainGet K C f = true := c.pg
section
variable {X : Cx} {pins : List (Addr × Obj)} {σ : St} {H : Hp} {s : Shared} {a C dx : Addr} {fs : List (Str × V)} {f : Str} {v : V} {A : Around} {E : Value → Shared → Prop}
theorem Inv.made (I : Inv X pins σ H s) : Inv X pins σ (upd (upd H s.heap.objs.size (.own (s.heap.objs.size + 1))) (s.heap.objs.size + 1) (.ins C s.heap.objs.size []))
    { s with heap := (s.heap.push PySem.W.emptyDict).push (PySem.W.instObj C s.heap.objs.size) } := by
  have e1 : (s.heap.push PySem.W.emptyDict).get? s.heap.objs.size = some PySem.W.emptyDict := Heap.get?_push_size s.heap rfl
  have e2 : ((s.heap.push PySem.W.emptyDict).push (PySem.W.instObj C s.heap.objs.size)).get? (s.heap.objs.size + 1) = some (PySem.W.instObj C s.heap.objs.size) := by
    have := Heap.get?_push_size (s.heap.push PySem.W.emptyDict) (o := PySem.W.instObj C s.heap.objs.size) rfl
    rwa [Heap.size_push] at this
  have e3 : (s.heap.push PySem.W.emptyDict).Ns s.heap.objs.size (fun _ => none) := ⟨PySem.W.emptyDict, #[], _, e1, rfl, (fun e he => absurd he (by simp)), fun _ => rfl⟩
  have I1 := I.laid (a := s.heap.objs.size) (o := .own (s.heap.objs.size + 1)) (h' := s.heap.push PySem.W.emptyDict) (t' := s.toks) (fun b u q => Heap.get?_push_of_some _ q) (Nat.le_refl _) ⟨_, e1⟩
  refine I1.laid (a := s.heap.objs.size + 1) (o := .ins C s.heap.objs.size []) (t' := s.toks) (fun b u q => Heap.get?_push_of_some _ q) (Nat.le_of_eq (Heap.size_push _ _)) ?_
  have ne : s.heap.objs.size ≠ s.heap.objs.size + 1 := Nat.ne_of_lt (Nat.lt_succ_self _)
  refine ⟨by rw [upd_ne ne, upd_same], Nat.zero_le _, ne, e2, fun _ => none, (Heap.Ns1.of_empty e3).at fun o q => Heap.get?_push_of_some _ q, fun _ => True.intro, fun y hy => absurd rfl hy⟩
end
section
variable {X : Cx} {o e value : Expr} {f : Str} {pos pos' tpos : Pos} {ta tv : TE}
end
section
variable {X : Cx} {pins : List (Addr × Obj)} {σ : St} {H : Hp} {s : Shared} {A : Around} {E : Value → Shared → Prop} {Q : Value → Shared → Prop} {c : Value} {b : Bool}
end
end L2
namespace L2
open PySem PySem.Spec PyProof.Rows
structure Room (k : Nat) (A : Around) : Prop where
  hd : A.handled = none
  dp : A.depth + 3 * k + 5 < recursionLimit
  un : A.units + 16 * k + 200 < cLine
theorem Room.mono {j k : Nat} {A : Around} (r : Room k A) (h : j ≤ k) : Room j A := ⟨r.hd, by have := r.dp; omega, by have := r.un; omega⟩
theorem Room.deeper {k : Nat} {A : Around} (r : Room (k + 1) A) (env : Env) : Room k (A.deeper env) :=
  ⟨r.hd, by have := r.dp; show A.depth + 1 + 3 * k + 5 < _; omega, by have := r.un; show A.units + 3 + 16 * k + 200 < _; omega⟩
theorem Room.in1 {k : Nat} {A : Around} (r : Room (k + 1) A) : Room k A.in1 :=
  ⟨r.hd, by have := r.dp; show A.depth + 3 * k + 5 < _; omega, by have := r.un; show A.units + 1 + 16 * k + 200 < _; omega⟩
theorem Room.depth {k : Nat} {A : Around} (r : Room k A) : A.depth < recursionLimit := by have := r.dp; omega
theorem Room.units {k : Nat} {A : Around} (r : Room k A) : A.units + 64 < cLine := by have := r.un; omega
noncomputable def tNil : TA := fun _ H Q => Q [] H
noncomputable def tCons (ta : TE) (tr : TA) : TA := fun σ H Q => ta σ H fun x H1 => tr σ H1 fun xs H2 => Q (x :: xs) H2
section
variable {X : Cx} {e : Expr} {es : List Expr} {te : TE} {t : TA} {pos : Pos}
theorem pa_nil : PA X [] tNil := fun _ _ _ _ H Q I h => Calls.spliced_nil ⟨[], H, I, .nil, h⟩
theorem pa_cons (ha : PE X e te) (hr : PA X es t) (hs : starEach (e :: es) X.env = (false, eval e X.env) :: starEach es X.env := by rfl) : PA X (e :: es) (tCons te t) := by
  intro pos pins s σ H Q I h
  rw [hs]
  show wpAny _ _ (spliced ((false, eval e X.env) :: backTo pos (starEach es X.env))) _ _ s
  refine Calls.spliced_cons (thn (ha pins s σ H _ I h) fun u s1 ⟨x, H1, I1, r1, q1⟩ => ?_)
  exact thn (hr pos pins s1 σ H1 _ I1 q1) fun us s2 ⟨xs, H2, I2, r2, q2⟩ => ⟨x :: xs, H2, I2, .cons r1 r2, q2⟩
noncomputable def tLst (t : TA) : TE := fun σ H Q => t σ H fun xs H1 => xs.length ≤ sizeLine ∧ ∀ p, H1 p = none → Q (.ref p) (upd H1 p (.lst xs))
theorem pe_lst (h : PA X es t) : PE X (.List es pos) (tLst t) := by
  intro pins s σ H Q I hq
  refine wpAny_List_spliced (thn (h pos pins s σ H _ I hq) fun us s1 ⟨xs, H1, I1, r, z, q⟩ => ⟨by rw [← r.length]; exact z, ?_⟩)
  have hf : H1 s1.heap.objs.size = none := I1.hok.fresh (Nat.le_refl _)
  refine ⟨.ref s1.heap.objs.size, upd H1 s1.heap.objs.size (.lst xs), I1.laid (t' := s1.toks) (fun b u e => Heap.get?_push_of_some _ e) (Nat.le_refl _) ?_, rfl, q _ hf⟩
  exact ⟨z, us, 0, r, Heap.get?_push_size _ rfl⟩
end
noncomputable abbrev Sp := List V → Hp → VK → XK → Prop
noncomputable abbrev CXT := List Env → Hp → Shared → XK → Value → Shared → Prop
structure Env0 (P : Program) (w : World) (K : PySem.W.Frag) (mg : Str → Option Value) (base : Heap) (A : Around) (outer : List Env) (s : Shared) (H : Hp) : Prop where
  frames : A.frames = some outer
  mod : Mod K mg base
  bs : ∀ b o, base.get? b = some o → s.heap.get? b = some o ∧ H b = none
  bsz : base.objs.size ≤ s.heap.objs.size
  funs : s.heap.FunFrames base outer
  frf : ∀ b ∈ frs outer, H b = none
  hok : HOk P w H s.heap
  bare : AllBare s.gens
noncomputable def CE (outer : List Env) (P : Program) (w : World) (H : Hp) (s : Shared) (Q : VK) (u : Value) (s' : Shared) : Prop :=
  ∃ v H', s'.os = s.os ∧ AllBare s'.gens ∧ Un (frs outer) [] H H' s.heap s'.heap ∧ HOk P w H' s'.heap ∧ RelV v u ∧ Q v H'
noncomputable def CR (CX : CXT) (outer : List Env) (P : Program) (w : World) (H : Hp) (s : Shared) (Q : VK) (E : XK) (r : Result) (s' : Shared) : Prop :=
  match r with
  | .ok (.ret u) => CE outer P w H s Q u s'
  | .ok _ => False
  | .error e => CX outer H s E e s'
structure FnOk (P : Program) (w : World) (K : PySem.W.Frag) (mg : Str → Option Value) (base : Heap) (CX : CXT) (k : Nat) (f : Addr) (fd : FuncData) (ps : List Str) (sp : Sp) : Prop where
  len : ∀ vs H Q E, sp vs H Q E → vs.length = ps.length
  run : ∀ (A : Around) (outer : List Env) (s : Shared) (H : Hp) (args : Args) (us : List Value) (vs : List V) (Q : VK) (E : XK), Room k A → Env0 P w K mg base A outer s H → BindsTo s fd args (ps.zip us) → Vals vs us → sp vs H Q E →
    codeAny (model P w) A (.call (.ref f) args) (CR CX outer P w H s Q E) s
theorem FnOk.mono {P : Program} {w : World} {K : PySem.W.Frag} {mg : Str → Option Value} {base : Heap} {CX : CXT} {j k : Nat} {f : Addr} {fd : FuncData} {ps : List Str} {sp : Sp} (F : FnOk P w K mg base CX j f fd ps sp) (h : j ≤ k) :
    FnOk P w K mg base CX k f fd ps sp := ⟨F.len, fun A outer s H args us vs Q E hr => F.run A outer s H args us vs Q E (hr.mono h)⟩
theorem Env0.in1 {P : Program} {w : World} {K : PySem.W.Frag} {mg : Str → Option Value} {base : Heap} {A : Around} {outer : List Env} {s : Shared} {H : Hp} (e : Env0 P w K mg base A outer s H) :
    Env0 P w K mg base A.in1 outer s H := ⟨e.frames, e.mod, e.bs, e.bsz, e.funs, e.frf, e.hok, e.bare⟩
section
variable {X : Cx} {pins : List (Addr × Obj)} {σ : St} {H : Hp} {s s' : Shared}
theorem Inv.env0 (I : Inv X pins σ H s) : Env0 X.prog X.w X.K X.mg X.base X.A X.stack s H :=
  ⟨I.ok.frames, I.ok.mod, I.bs, Nat.le_trans I.ok.bsz I.sz, I.stack, I.stkFree, I.hok, I.bare⟩
theorem Inv.after {Q : VK} {u : Value} (I : Inv X pins σ H s) (h : CE X.stack X.prog X.w H s Q u s') : EP X pins σ Q u s' := by
  obtain ⟨v, H', os, bare, un, hok, r, q⟩ := h
  obtain ⟨hh, g, d, t, os'⟩ := s'
  obtain rfl : os' = s.os := os
  exact ⟨v, H', I.call (h' := hh) (g' := g) (d' := d) (t' := t) (ch := []) un hok bare (fun b z => absurd z (by simp)), r, q⟩
end
noncomputable def tCall (sp : Sp) (dvs : List V) (E : XK) (t : TA) : TE := fun σ H Q => t σ H fun vs H1 => sp (vs ++ dvs) H1 Q E
noncomputable def Binds (K : PySem.W.Frag) (fd : FuncData) (ps : List Str) (ds : List Value) : Prop :=
  ∀ (s : Shared) (us : List Value), K.In s.heap → (us ++ ds).length = ps.length → BindsTo s fd ⟨us, []⟩ (ps.zip (us ++ ds))
theorem Binds.all {K : PySem.W.Frag} {fd : FuncData} {ps : List Str} (h : ∀ us : List Value, us.length = ps.length → bindArgs fd ⟨us, []⟩ = pure (ps.zip us)) : Binds K fd ps [] := fun s us _ hl => by
  rw [List.append_nil] at hl ⊢
  exact .of_eq (h us hl)
noncomputable def Passes (CX : CXT) (X : Cx) (E : XK) : Prop := ∀ (pins : List (Addr × Obj)) (σ : St) (H : Hp) (s : Shared) (e : Value) (s' : Shared), Inv X pins σ H s → CX X.stack H s E e s' → X.xe e s'
section
variable {X : Cx} {CX : CXT} {k : Nat} {f C : Addr} {fd : FuncData} {ps : List Str} {sp : Sp} {dvs : List V} {ds : List Value} {E : XK} {x m : Str} {p pos apos : Pos} {e o : Expr} {es : List Expr} {ta : TE} {t : TA}
theorem run_fn {pins : List (Addr × Obj)} {σ : St} {H : Hp} {s : Shared} {Q : VK} {us : List Value} {vs : List V} (F : FnOk X.prog X.w X.K X.mg X.base CX k f fd ps sp) (hr : Room k X.A) (hb : Binds X.K fd ps ds) (hd : Vals dvs ds) (hx : Passes CX X E)
    (I : Inv X pins σ H s) (r : Vals vs us) (h : sp (vs ++ dvs) H Q E) : wpAny (model X.prog X.w) X.A (call (.ref f) us) (EP X pins σ Q) X.xe s := by
  have r2 : Vals (vs ++ dvs) (us ++ ds) := r.append hd
  have hl : (us ++ ds).length = ps.length := by rw [← r2.length]; exact F.len _ _ _ _ h
  refine wpAny_call (codeAny_mono (F.run X.A X.stack s H ⟨us, []⟩ (us ++ ds) (vs ++ dvs) Q E hr I.env0 (hb s us I.kIn hl) r2 h) fun r s' hq => ?_)
  cases r with
  | error e => exact hx pins σ H s e s' I hq
  | ok fl =>
    cases fl with
    | ret u => exact I.after hq
    | next => exact False.elim hq
    | brk => exact False.elim hq
    | cont => exact False.elim hq
theorem pe_call (F : FnOk X.prog X.w X.K X.mg X.base CX k f fd ps sp) (hr : Room k X.A) (hg : Gl X x) (hm : X.mg x = some (.ref f)) (hk : PySem.W.keepIn X.K (.ref f) = true) (hb : Binds X.K fd ps ds) (hd : Vals dvs ds) (hx : Passes CX X E)
    (ha : PA X (e :: es) t) (hdb : (x == ("__debug__" : Str)) = false := by decide) (he : starEach (e :: es) X.env = (false, eval e X.env) :: starEach es X.env := by rfl) (hpl : (backTo pos (starEach es X.env)).any (·.1) = false := by rfl) :
    PE X (.Call (.Name x p) (e :: es) [] pos) (tCall sp dvs E t) := by
  intro pins s σ H Q I h
  refine wpAny_Call_Name_kw (ld_glob I hg hm ?_ hdb)
  refine PySem.W.callWith_K (h₀ := X.base) I.ok.mod.kin hk (thn (ha pos pins s σ H _ I h) fun us s1 ⟨vs, H1, I1, r, q⟩ => ⟨I1.kIn, ?_⟩) he hpl
  exact run_fn F hr hb hd hx I1 r q
end
section
variable {X : Cx} {CX : CXT} {k : Nat} {f C : Addr} {fd : FuncData} {ps ks : List Str} {sp : Sp} {E : XK} {x m : Str} {p pos apos kpos : Pos} {e o : Expr} {es : List Expr} {kws : List Keyword} {te ta : TE} {t tk : TA} {nm : Option Str}
variable {g : List Value → List Value → List Value} {gV : List V → List V → List V}
end
structure FnScope (N P : List Str) (sc : Scope) : Prop where
  kind : sc.kind = .function
  co : sc.isCoroutine = false
  gen : sc.isGenerator = false
  nd : N.Nodup
  pre : N.take P.length = P
  par : ∀ x ∈ P, sc.names.lookup x = some .local ∨ sc.names.lookup x = some .cell
  nofree : ∀ y ∈ sc.names, y.2 ≠ .free
theorem bindL_out {kindOf : Str → Option NameKind} {x : Str} : ∀ {binds : List (Str × Value)} {m : Str → Option Value}, (∀ v, (x, v) ∉ binds) → bindL kindOf binds m x = m x
  | [], _, _ => rfl
  | (n, v) :: r, m, h => by
    unfold bindL
    rw [bindL_out fun w hw => h w (List.mem_cons_of_mem _ hw)]
    split
    · have : x ≠ n := by rintro rfl; exact h v List.mem_cons_self
      simp [this]
    · rfl
theorem bindC_out {kindOf : Str → Option NameKind} {x : Str} : ∀ {binds : List (Str × Value)} {m : Str → Option Value}, (∀ v, (x, v) ∉ binds) → bindC kindOf binds m x = m x
  | [], _, _ => rfl
  | (n, v) :: r, m, h => by
    unfold bindC
    rw [bindC_out fun w hw => h w (List.mem_cons_of_mem _ hw)]
    split
    · rfl
    · have : x ≠ n := by rintro rfl; exact h v List.mem_cons_self
      simp [this]
theorem bindL_get {kindOf : Str → Option NameKind} {x : Str} {v : Value} : ∀ {P : List Str} {vs : List Value} {i : Nat} {m : Str → Option Value}, P.Nodup → P[i]? = some x → vs[i]? = some v → kindOf x = some .local →
    bindL kindOf (P.zip vs) m x = some v
  | [], _, _, _, _, h, _, _ => by simp at h
  | _ :: _, [], _, _, _, _, h, _ => by simp at h
  | p :: P, w :: vs, 0, m, nd, h1, h2, hk => by
    simp at h1 h2; subst h1; subst h2
    show bindL kindOf ((p, w) :: P.zip vs) m p = _
    unfold bindL
    rw [bindL_out fun v hv => (List.nodup_cons.mp nd).1 (List.of_mem_zip hv).1, if_pos hk]
    simp
  | p :: P, w :: vs, i + 1, m, nd, h1, h2, hk => by
    show bindL kindOf ((p, w) :: P.zip vs) m x = _
    unfold bindL
    exact bindL_get (i := i) (List.nodup_cons.mp nd).2 (by simpa using h1) (by simpa using h2) hk
theorem bindC_get {kindOf : Str → Option NameKind} {x : Str} {v : Value} : ∀ {P : List Str} {vs : List Value} {i : Nat} {m : Str → Option Value}, P.Nodup → P[i]? = some x → vs[i]? = some v → kindOf x ≠ some .local →
    bindC kindOf (P.zip vs) m x = some v
  | [], _, _, _, _, h, _, _ => by simp at h
  | _ :: _, [], _, _, _, _, h, _ => by simp at h
  | p :: P, w :: vs, 0, m, nd, h1, h2, hk => by
    simp at h1 h2; subst h1; subst h2
    show bindC kindOf ((p, w) :: P.zip vs) m p = _
    unfold bindC
    rw [bindC_out fun v hv => (List.nodup_cons.mp nd).1 (List.of_mem_zip hv).1, if_neg hk]
    simp
  | p :: P, w :: vs, i + 1, m, nd, h1, h2, hk => by
    show bindC kindOf ((p, w) :: P.zip vs) m x = _
    unfold bindC
    exact bindC_get (i := i) (List.nodup_cons.mp nd).2 (by simpa using h1) (by simpa using h2) hk
noncomputable def start (N : List Str) (vs : List V) : St := vs.map some ++ List.replicate (N.length - vs.length) none
noncomputable def cxOf (CX : CXT) (P : Program) (w : World) (K : PySem.W.Frag) (mg : Str → Option Value) (base : Heap) (N : List Str) (qual : Str) (scope : Scope) (f : Addr) (cd : Value) (A : Around) (outer : List Env) (s : Shared) (H : Hp) (E : XK) : Cx where
  prog := P
  w := w
  K := K
  mg := mg
  base := base
  A := A.deeper (envOfC qual scope s.heap.objs.size f cd)
  N := N
  s₀ := s
  H₀ := H
  env := envOfC qual scope s.heap.objs.size f cd
  outer := outer
  stack := envOfC qual scope s.heap.objs.size f cd :: outer
  ex := []
  calm := true
  fn := fun _ => true
  pn := []
  xe := fun e s' => wpAny (model P w) (A.deeper (envOfC qual scope s.heap.objs.size f cd)) (leaving (envOfC qual scope s.heap.objs.size f cd) e) (fun _ s'' => CX outer H s E e s'') (fun e' s'' => CX outer H s E e' s'') s'
theorem cell_has {sc : Scope} {n : Nat} {x : Str} (h : sc.names.lookup x = some .cell) : ∃ c, (cellsFrom n sc.names []).lookup x = some c := by
  have q := PySem.W.cellsFrom_some sc.names n [] (.inl h)
  exact Option.isSome_iff_exists.mp q
theorem inv_start {CX : CXT} {P : Program} {w : World} {K : PySem.W.Frag} {mg : Str → Option Value} {base : Heap} {N ps : List Str} {qual : Str} {scope : Scope} {f : Addr} {cd : Value} {A : Around} {outer : List Env} {s s1 : Shared} {H : Hp} {E : XK} {us : List Value} {vs : List V}
    (S : FnScope N ps scope) (hd : A.handled = none) (e0 : Env0 P w K mg base A outer s H) (hl : vs.length = ps.length) (r : Vals vs us)
    (x : InCallC s s.heap.objs.size (bindL (envOfC qual scope s.heap.objs.size f cd).kindOf (ps.zip us) fun _ => none) (cellsFrom (s.heap.objs.size + 1) scope.names []) (bindC (envOfC qual scope s.heap.objs.size f cd).kindOf (ps.zip us) fun _ => none) s1) :
    Inv (cxOf CX P w K mg base N qual scope f cd A outer s H E) [] (start N vs) H s1 := by
  have hpl : ps.length ≤ N.length := by have := congrArg List.length S.pre; rw [List.length_take] at this; omega
  obtain ⟨h1, tk, rfl, hk⟩ := x.done
  have noA : ∀ b : Addr, b ∉ (cxOf CX P w K mg base N qual scope f cd A outer s H E).ex := fun b z => absurd (show b ∈ ([] : List Addr) from z) (by simp)
  refine ⟨⟨e0.mod, S.kind, rfl, rfl, Nat.le_refl _, fun y z c h1 h2 => ?_, fun y hy => ?_, fun y c _ h => ?_, fun _ => hd, Around.frames_deeper e0.frames, .inr ⟨rfl, rfl⟩, fun b z => absurd z (noA b), e0.bs, e0.bsz, fun b _ _ => noA b, fun b z => absurd z (noA b), e0.funs, e0.frf⟩,
    rfl, e0.bare, Un.kept hk, ⟨_, x.toInCall.ns, fun i y v h1 h2 h3 => ?_⟩, fun y c h => ⟨_, x.cell y c h⟩, e0.hok.fresh (Nat.le_refl _), fun y c h => ?_, fun p hp => absurd (show p ∈ ([] : List (Addr × Obj)) from hp) (by simp), e0.hok.kept hk, ?_⟩
  · exact name_of_addr x.apart (PySem.mem_of_lookup h1) (PySem.mem_of_lookup h2)
  · have hy : scope.names.lookup y = some .cell ∨ scope.names.lookup y = some .free := hy
    rcases hy with hy | hy
    · exact cell_has hy
    · exact absurd rfl (S.nofree _ (PySem.mem_of_lookup hy))
  · exact Nat.le_of_lt (x.above y c (PySem.mem_of_lookup h))
  · have hi : i < vs.length := by
      unfold start at h2
      by_cases hi : i < vs.length
      · exact hi
      · rw [List.getElem?_append_right (by simpa using hi)] at h2
        rw [List.getElem?_replicate] at h2
        split at h2 <;> cases h2
    have ha : vs[i]? = some v := by
      unfold start at h2
      rw [List.getElem?_append_left (by simpa using hi), List.getElem?_map] at h2
      cases e : vs[i]? with
      | none => rw [e] at h2; cases h2
      | some a => rw [e] at h2; cases h2; rfl
    obtain ⟨u, hu, rv⟩ := r.get ha
    have hp : ps[i]? = some y := by
      rw [← S.pre, List.getElem?_take_of_lt (by omega)]; exact h1
    have ndP : ps.Nodup := by rw [← S.pre]; exact S.nd.sublist (List.take_sublist _ _)
    refine ⟨u, rv, ?_⟩
    rcases S.par y (List.mem_of_getElem? hp) with k | k
    · exact .inl ⟨k, bindL_get ndP hp hu k⟩
    · obtain ⟨c, e⟩ := cell_has (n := s.heap.objs.size + 1) k
      refine .inr ⟨.inl k, c, e, ?_⟩
      have q := x.cell y c e
      rw [bindC_get ndP hp hu (by show scope.names.lookup y ≠ _; rw [k]; decide)] at q
      exact q
  · exact e0.hok.fresh (Nat.le_of_lt (x.above y c (PySem.mem_of_lookup h)))
  · unfold start
    show _ = N.length
    rw [List.length_append, List.length_map, List.length_replicate]
    omega
theorem fn_of {CX : CXT} {P : Program} {w : World} {K : PySem.W.Frag} {mg : Str → Option Value} {base : Heap} {k : Nat} {f : Addr} {name qual : Str} {params : Arguments} {body : List Stmt} {scope : Scope} {dV kV doc pm cdv ct oc : Value} {an od : Option Addr}
    {osl : Array (Option Value)} {N ps : List Str} {sp : Sp} (lk : K.lookup f = some ⟨oc, od, .func (PySem.W.fnOf name qual params body scope dV kV doc pm an cdv ct), osl⟩) (hcd : PySem.W.codeIn K cdv qual = true) (S : FnScope N ps scope)
    (len : ∀ vs H Q E, sp vs H Q E → vs.length = ps.length)
    (hbody : ∀ (A : Around) (outer : List Env) (s : Shared) (H : Hp) (vs : List V) (Q : VK) (E : XK), Room k (A.deeper (envOfC qual scope s.heap.objs.size f cdv)) → sp vs H Q E →
      ∃ t, PSs (cxOf CX P w K mg base N qual scope f cdv A outer s H E) body t ∧ t { nx := fun _ H' => Q .non H', rt := Q } (start N vs) H) :
    FnOk P w K mg base CX (k + 1) f (PySem.W.fnOf name qual params body scope dV kV doc pm an cdv ct) ps sp := by
  refine ⟨len, fun A outer s H args us vs Q E hr e0 hb r hsp => ?_⟩
  have hl := len _ _ _ _ hsp
  have KX : K.In s.heap := e0.mod.kin.keeps fun b o e => (e0.bs b o e).1
  have lim : s.heap.NoLimit := e0.mod.nolimit.keeps fun b o e => (e0.bs b o e).1
  have hkind : ∀ y ∈ ps.zip us, scope.names.lookup y.1 = some .local ∨ (scope.names.lookup y.1 = some .cell ∧ ((cellsFrom (s.heap.objs.size + 1) scope.names []).lookup y.1).isSome = true) := fun ⟨n, v⟩ hy => by
    rcases S.par n (List.of_mem_zip hy).1 with q | q
    · exact .inl q
    · exact .inr ⟨q, PySem.W.cellsFrom_some _ _ _ (.inl q)⟩
  refine codeAny_call_function hr.depth (KX _ _ lk) rfl S.co S.gen rfl (PySem.W.codeRec_of KX hcd) (hb _ _ _ _ ?_)
  refine wpAny_newFunctionEnv_cells S.kind hkind fun env he s1 x => ?_
  subst he
  refine ⟨lim.keeps x.toInCall.keep, codeAny_func ?_⟩
  obtain ⟨t, ht, hq⟩ := hbody A outer s H vs Q E (hr.deeper _) hsp
  have I : Inv (cxOf CX P w K mg base N qual scope f cdv A outer s H E) [] (start N vs) H s1 := inv_start S hr.hd e0 hl r x
  refine wpAny_mono (ht [] s1 (start N vs) H _ I hq) (fun fl s' hs => ?_) fun e s' hs => hs
  have fin : ∀ {σ' : St} {H' : Hp} {v : V} {u : Value}, Inv (cxOf CX P w K mg base N qual scope f cdv A outer s H E) [] σ' H' s' → RelV v u → Q v H' → CE outer P w H s Q u s' :=
    fun {σ' H' v u} J rv q => ⟨v, H', J.os, J.bare, J.base, J.hok, rv, q⟩
  cases fl with
  | ret u =>
    obtain ⟨v, σ', H', J, rv, q⟩ := hs
    exact fin J rv q
  | next =>
    obtain ⟨σ', H', J, q⟩ := hs
    exact fin (v := V.non) (u := Value.none) J rfl q
  | brk =>
    obtain ⟨_, _, _, q⟩ := hs
    exact False.elim q
  | cont =>
    obtain ⟨_, _, _, q⟩ := hs
    exact False.elim q
end L2
namespace L2
open PySem PySem.Spec PyProof.Rows
section
variable {X : Cx} {x : Str} {p pos : Pos} {e : Expr} {es : List Expr} {t : TA} {id T : String} {r : List V → Hp → VK → Prop}
noncomputable def tCB (r : List V → Hp → VK → Prop) (t : TA) : TE := fun σ H Q => t σ H fun vs H1 => r vs H1 Q
theorem pe_callB (hc : CallR X (.builtin id) r) (hg : Gl X x) (hm : X.mg x = none) (hv : bootBuiltins x = some (.builtin id)) (ha : PA X (e :: es) t) (hn : x ≠ "__name__" := by decide) (hdb : (x == ("__debug__" : Str)) = false := by decide)
    (he : starEach (e :: es) X.env = (false, eval e X.env) :: starEach es X.env := by rfl) (hpl : (backTo pos (starEach es X.env)).any (·.1) = false := by rfl) : PE X (.Call (.Name x p) (e :: es) [] pos) (tCB r t) := by
  intro pins s σ H Q I h
  refine wpAny_Call_Name_kw (ld_blt I hg hm hv ?_ hn hdb)
  exact PyProof.Rows.callWith_builtin1 (thn (ha pos pins s σ H _ I h) fun us s1 ⟨vs, H1, I1, r1, q1⟩ => hc pins s1 σ H1 vs us Q I1 r1 q1) he hpl
theorem pe_callTy (hc : CallR X (.type T) r) (hg : Gl X x) (hm : X.mg x = none) (hv : bootBuiltins x = some (.type T)) (ha : PA X (e :: es) t) (hn : x ≠ "__name__" := by decide) (hdb : (x == ("__debug__" : Str)) = false := by decide)
    (he : starEach (e :: es) X.env = (false, eval e X.env) :: starEach es X.env := by rfl) (hpl : (backTo pos (starEach es X.env)).any (·.1) = false := by rfl) : PE X (.Call (.Name x p) (e :: es) [] pos) (tCB r t) := by
  intro pins s σ H Q I h
  refine wpAny_Call_Name_kw (ld_blt I hg hm hv ?_ hn hdb)
  exact PyProof.Rows.callWith_type1 (thn (ha pos pins s σ H _ I h) fun us s1 ⟨vs, H1, I1, r1, q1⟩ => hc pins s1 σ H1 vs us Q I1 r1 q1) he hpl
end
end L2
namespace HT
open PySem PyProof.Rows
section
open PySem.SeqAt
open PySem.AutoSeq1 (wpAny_loadPart')
open PySem.MeetsSeq PySem.MeetsSeq2 PySem.MeetsSeq3
end
section
variable {prog : Program} {w : World} {A : Around} {E : Value → Shared → Prop} {s : Shared}
theorem cat_tup {t b : Addr} {vs ws : List Value} {Q : Value → Shared → Prop} (ht : IsTup s.heap t vs.toArray) (hb : IsTup s.heap b ws.toArray) (hv : vs ≠ [])
    (h1 : ws = [] → Q (.ref t) s) (h2 : ws ≠ [] → Q (.ref s.heap.objs.size) { s with heap := s.heap.push { cls := .type "tuple", data := .seq (vs ++ ws).toArray } })
    (hsz : vs.length + ws.length ≤ sizeLine) : wpAny (model prog w) A (binaryOp .Add (.ref t) (.ref b)) Q E s := by
  obtain ⟨⟨cls, dd, data, sl⟩, ho, hc, n, hd⟩ := id ht
  obtain ⟨⟨cls2, dd2, data2, sl2⟩, ho2, hc2, n2, hd2⟩ := id hb
  simp only at hc hd hc2 hd2
  subst hc hd hc2 hd2
  have e : vs.toArray ++ ws.toArray = (vs ++ ws).toArray := by simp
  by_cases hw : ws = []
  · exact concat_meets ⟨_, ho, rfl⟩ ⟨_, ho2, rfl⟩ noFill_tuple_add seq_tuple_add PySem.F.slot_tuple_add PySem.F.entry_tuple_add (PySem.F.args_tuple_add_2 _ _)
      (tuple_addW1 t b vs.toArray ws.toArray n n2 dd dd2 sl sl2 (by simpa using hv) (by simp [hw])) ⟨ho, ho2, h1 hw⟩
  · refine concat_meets ⟨_, ho, rfl⟩ ⟨_, ho2, rfl⟩ noFill_tuple_add seq_tuple_add PySem.F.slot_tuple_add PySem.F.entry_tuple_add (PySem.F.args_tuple_add_2 _ _)
      (tuple_addW2 t b vs.toArray ws.toArray n n2 dd dd2 sl sl2 (by simpa using hv) (by simpa using hw) (by rw [List.size_toArray, List.size_toArray]; exact hsz)) ⟨ho, ho2, ?_⟩
    rw [e]
    exact h2 hw
noncomputable def sIx (n d : Nat) : Option Int → Nat
  | none => d
  | some v => if v < 0 then (v + (n : Int)).toNat else min v.toNat n
theorem sIx_le (n d : Nat) (hd : d ≤ n) (o : Option Int) : sIx n d o ≤ n := by
  cases o with
  | none => exact hd
  | some v =>
    show (if v < 0 then (v + (n : Int)).toNat else min v.toNat n) ≤ n
    by_cases hv : v < 0
    · rw [if_pos hv]; omega
    · rw [if_neg hv]; exact Nat.min_le_right _ _
theorem clip_eq (v : Int) (n d : Nat) : (if v < 0 then max (v + (n : Int)) 0 else min v (n : Int)) = ((sIx n d (some v) : Nat) : Int) := by
  show (if v < 0 then max (v + (n : Int)) 0 else min v (n : Int)) = (((if v < 0 then (v + (n : Int)).toNat else min v.toNat n) : Nat) : Int)
  by_cases hv : v < 0
  · simp only [if_pos hv]; omega
  · simp only [if_neg hv]; omega
theorem adjust_gen (lo hi : Option Int) (n : Nat) : Builtin.Slice.sliceAdjust lo hi 1 (n : Int) = (((sIx n 0 lo : Nat) : Int), ((sIx n n hi : Nat) : Int)) := by
  have h1 : ¬ ((1 : Int) < 0) := by omega
  unfold Builtin.Slice.sliceAdjust
  simp only [h1, if_false]
  refine Prod.ext ?_ ?_
  · cases lo with
    | none => rfl
    | some v => exact clip_eq v n 0
  · cases hi with
    | none => rfl
    | some v => exact clip_eq v n n
theorem places_gen (i j : Nat) : Builtin.Slice.slicePlaces (i : Int) (j : Int) 1 = j - i := by
  unfold Builtin.Slice.slicePlaces
  have h1 : (1 : Int) > 0 := by omega
  simp only [h1, if_true, Int.ediv_one]
  split <;> omega
theorem slicePart_ {v : Value} {o : Option Int} {Q : Option Int → Shared → Prop} (p : IsPart v o) (h : Q o s) : wpAny (model prog w) A (Builtin.Slice.slicePartIndex v) Q E s := by
  cases p with
  | none => exact slicePart_none h
  | int i t => exact slicePart_int h
theorem sliceApplied_gen {sl : Addr} {vl vu : Value} {lo hi : Option Int} {n : Nat} {Q : Int × Int × Nat → Shared → Prop} (hs : s.heap.IsSliceOf sl vl vu .none) (pl : IsPart vl lo) (pu : IsPart vu hi)
    (h : Q (((sIx n 0 lo : Nat) : Int), 1, sIx n n hi - sIx n 0 lo) s) : wpAny (model prog w) A (Builtin.Slice.sliceApplied (.ref sl) (pure (n : Int))) Q E s := by
  obtain ⟨os, hos, hcs, hds⟩ := id hs
  unfold Builtin.Slice.sliceApplied Builtin.Slice.sliceFields
  refine wpAny_bind (wpAny_bind (wpAny_field hos hds (x := vl) rfl (wpAny_bind (wpAny_field hos hds (x := vu) rfl (wpAny_bind (wpAny_field hos hds (x := .none) rfl (wpAny_pure ?_)))))))
  refine wpAny_bind (slicePart_none ?_)
  show wpAny _ _ (if ((1 : Int) == 0) = true then _ else _) _ _ s
  rw [if_neg (by decide)]
  refine wpAny_bind (slicePart_ pl (wpAny_bind (slicePart_ pu (wpAny_bind (wpAny_pure ?_)))))
  show wpAny _ _ (match Builtin.Slice.sliceAdjust lo hi 1 (n : Int) with | (lo, hi) => pure (lo, (1 : Int), Builtin.Slice.slicePlaces lo hi 1)) _ _ s
  rw [adjust_gen lo hi n]
  show wpAny _ _ (pure (((sIx n 0 lo : Nat) : Int), (1 : Int), Builtin.Slice.slicePlaces ((sIx n 0 lo : Nat) : Int) ((sIx n n hi : Nat) : Int) 1)) _ _ s
  rw [places_gen]
  exact wpAny_pure h
theorem pick_gen (xs : Array Value) (i k : Nat) : ((List.range k).filterMap fun (m : Nat) => xs[((i : Int) + (m : Int) * 1).toNat]?).toArray = ((xs.toList.drop i).take k).toArray := by
  have e : (fun (m : Nat) => xs[((i : Int) + (m : Int) * 1).toNat]?) = fun m => xs[i + m]? := by
    funext m
    have : ((i : Int) + (m : Int) * 1).toNat = i + m := by omega
    rw [this]
  rw [e]
  have := pick_run xs i k
  rw [List.filterMap_map] at this
  have e2 : ((fun x => xs[x]?) ∘ fun x => i + x) = fun m => xs[i + m]? := rfl
  rw [e2] at this
  rw [this]
theorem getItem_tuple_cut {t sl : Addr} {items : Array Value} {vl vu : Value} {lo hi : Option Int} {Q : Value → Shared → Prop} (ht : IsTup s.heap t items) (hs : s.heap.IsSliceOf sl vl vu .none) (pl : IsPart vl lo) (pu : IsPart vu hi)
    (hw : ¬ (sIx items.size 0 lo = 0 ∧ sIx items.size items.size hi = items.size))
    (h : Q (.ref s.heap.objs.size) { s with heap := s.heap.push { cls := .type "tuple", data := .seq ((items.toList.drop (sIx items.size 0 lo)).take (sIx items.size items.size hi - sIx items.size 0 lo)).toArray } })
    (hsz : items.size ≤ sizeLine) : wpAny (model prog w) A (getItem (.ref t) (.ref sl)) Q E s := by
  have htake : sizeOk (.seq ((items.toList.drop (sIx items.size 0 lo)).take (sIx items.size items.size hi - sIx items.size 0 lo)).toArray) := by
    show ((items.toList.drop (sIx items.size 0 lo)).take (sIx items.size items.size hi - sIx items.size 0 lo)).toArray.size ≤ sizeLine
    rw [List.size_toArray, List.length_take, List.length_drop, Array.length_toList]
    omega
  have hj : sIx items.size items.size hi ≤ items.size := sIx_le _ _ (Nat.le_refl _) hi
  obtain ⟨os, hos, hcs, hds⟩ := id hs
  have hTs : s.TypeIs (.ref sl) "slice" := ⟨os, hos, hcs⟩
  unfold getItem
  try with_reducible refine wpAny_holding ?_
  first | refine wpAny_bind (wpAny_pure ?_) | skip
  refine wpAny_bind (wpAny_sequenceKey ht.typeIs (by decide) ?_)
  refine wpAny_bind (wpAny_callSpecial?_slot (name := Str.ofString "__getitem__") ht.typeIs PyProof.Rows.slot_tuple_getitem
    (wpAny_call_entry PyProof.Rows.slot_tuple_getitem ht.typeIs entry_tuple_getitem ?_ (args_tuple_getitem _ _)))
  show wpAny _ _ (Builtin.Tuple.tupleItemsOf (.ref t) >>= _) _ _ s
  refine wpAny_bind (tupleItemsOf_ ht ?_)
  refine wpAny_bind (wpAny_typeOf hTs ?_)
  rw [if_pos (by decide)]
  refine wpAny_bind (sliceApplied_gen hs pl pu ?_)
  have hno : ¬ ((((sIx items.size 0 lo : Nat) : Int) == 0 && (1 : Int) == 1 && (sIx items.size items.size hi - sIx items.size 0 lo) == items.size) = true) := by
    intro q
    rw [Bool.and_eq_true, Bool.and_eq_true] at q
    have q1 : ((sIx items.size 0 lo : Nat) : Int) = 0 := eq_of_beq q.1.1
    have q2 : sIx items.size items.size hi - sIx items.size 0 lo = items.size := eq_of_beq q.2
    exact hw ⟨by omega, by omega⟩
  show wpAny _ _ (if (((sIx items.size 0 lo : Nat) : Int) == 0 && (1 : Int) == 1 && (sIx items.size items.size hi - sIx items.size 0 lo) == items.size) = true then _ else _) _ _ s
  rw [if_neg hno, pick_gen]
  first
    | exact wpAny_bind (m := Builtin.Tuple.tupleExact _) (wpAny_newObj_type (wpAny_pure ⟨_, rfl, wpAny_pure h⟩) htake)
    | exact wpAny_bind (m := Builtin.Tuple.tupleExact _) (wpAny_newObj_type (wpAny_bind (wpAny_pure (wpAny_pure ⟨_, rfl, wpAny_pure h⟩))) htake)
    | exact wpAny_bind (wpAny_bind (m := Builtin.Tuple.tupleExact _) (wpAny_newObj_type (wpAny_pure (wpAny_pure ⟨_, rfl, wpAny_pure h⟩)) htake))
    | exact wpAny_bind (wpAny_bind (m := Builtin.Tuple.tupleExact _) (wpAny_newObj_type (wpAny_pure ⟨_, rfl, wpAny_pure h⟩) htake))
end
end HT
namespace L2
open PySem PySem.Spec PyProof.Rows
noncomputable abbrev TO := St → Hp → (Option Int → Hp → Prop) → Prop
noncomputable def PO (X : Cx) (e : Option Expr) (t : TO) : Prop :=
  ∀ (pins : List (Addr × Obj)) (s : Shared) (σ : St) (H : Hp) (Q : Option Int → Hp → Prop), Inv X pins σ H s → t σ H Q →
    wpAny (model X.prog X.w) X.A (evalPart e X.env) (fun u s' => ∃ o H', Inv X pins σ H' s' ∧ IsPart u o ∧ Q o H') X.xe s
noncomputable def tNoPart : TO := fun _ H Q => Q none H
noncomputable def tPart (t : TE) : TO := fun σ H Q => t σ H fun x H1 => ∃ i, x = .int i ∧ Q (some i) H1
section
variable {X : Cx} {e : Expr} {te : TE} {lo hi : Option Expr} {tl th : TO} {pos p2 : Pos}
theorem po_none : PO X none tNoPart := by
  intro pins s σ H Q I h
  rw [evalPart_none]
  exact wpAny_pure ⟨none, H, I, .none, h⟩
theorem po_some (h : PE X e te) : PO X (some e) (tPart te) := by
  intro pins s σ H Q I hw
  rw [evalPart_some]
  refine thn (h pins s σ H _ I hw) fun u s1 ⟨x, H1, I1, r1, q1⟩ => ?_
  obtain ⟨i, rfl, q⟩ := q1
  obtain ⟨t, rfl⟩ := r1
  exact ⟨some i, H1, I1, .int i t, q⟩
noncomputable def SlR (X : Cx) (r : V → Option Int → Option Int → Hp → VK → Prop) : Prop :=
  ∀ (pins : List (Addr × Obj)) (s : Shared) (σ : St) (H : Hp) (x : V) (v vl vu : Value) (lo hi : Option Int) (sl : Addr) (Q : VK), Inv X pins σ H s → RelV x v → s.heap.IsSliceOf sl vl vu .none → IsPart vl lo → IsPart vu hi → r x lo hi H Q →
    ∃ T id, typeLookup (.type T) "__getitem__" = pure (some (.builtin id)) ∧ s.TypeIs v T ∧ wpAny (model X.prog X.w) X.A (getItem v (.ref sl)) (EP X pins σ Q) X.xe s
theorem SlR.or {r r' : V → Option Int → Option Int → Hp → VK → Prop} (h : SlR X r) (h' : SlR X r') : SlR X (fun x lo hi H Q => r x lo hi H Q ∨ r' x lo hi H Q) := by
  intro pins s σ H x v vl vu lo hi sl Q I rx hs pl pu q
  rcases q with q | q
  · exact h pins s σ H x v vl vu lo hi sl Q I rx hs pl pu q
  · exact h' pins s σ H x v vl vu lo hi sl Q I rx hs pl pu q
noncomputable def tSl (r : V → Option Int → Option Int → Hp → VK → Prop) (te : TE) (tl th : TO) : TE := fun σ H Q => te σ H fun x H1 => tl σ H1 fun l H2 => th σ H2 fun u H3 => r x l u H3 Q
theorem pe_slice {r : V → Option Int → Option Int → Hp → VK → Prop} (hr : SlR X r) (he : PE X e te) (hl : PO X lo tl) (hu : PO X hi th) : PE X (.Subscript e (.Slice lo hi none p2) pos) (tSl r te tl th) := by
  intro pins s σ H Q I h
  refine Subscript_ (thn (he pins s σ H _ I h) fun v s1 ⟨x, H1, I1, r1, q1⟩ => ?_)
  refine wpAny_Slice (thn (hl pins s1 σ H1 _ I1 q1) fun vl s2 ⟨l, H2, I2, pl, q2⟩ => thn (hu pins s2 σ H2 _ I2 q2) fun vu s3 ⟨u, H3, I3, pu, q3⟩ => ?_)
  rw [evalPart_none]
  refine wpAny_pure ?_
  have I4 : Inv X pins σ H3 { s3 with heap := s3.heap.push { cls := .type "slice", data := .fields #[vl, vu, .none] } } := I3.kept (t' := s3.toks) fun b ob q => Heap.get?_push_of_some _ q
  obtain ⟨T, id, hT, ht, hg⟩ := hr pins { s3 with heap := s3.heap.push { cls := .type "slice", data := .fields #[vl, vu, .none] } } σ H3 x v vl vu l u s3.heap.objs.size Q I4 r1 (Heap.IsSliceOf.new ..) pl pu q3
  show wpAny (model X.prog X.w) X.A (subscriptTail e (.Slice lo hi none p2) v (.ref s3.heap.objs.size)) (EP X pins σ Q) X.xe { s3 with heap := s3.heap.push { cls := .type "slice", data := .fields #[vl, vu, .none] } }
  exact tail_any (ops := [.ref s3.heap.objs.size, v]) ht hT hg (by with_unfolding_all rfl)
noncomputable def cutV (xs : List V) (lo hi : Option Int) : List V := (xs.drop (HT.sIx xs.length 0 lo)).take (HT.sIx xs.length xs.length hi - HT.sIx xs.length 0 lo)
theorem cutV_length (xs : List V) (lo hi : Option Int) : (cutV xs lo hi).length ≤ xs.length := by
  unfold cutV
  rw [List.length_take, List.length_drop]
  omega
noncomputable def rSlT (K : PySem.W.Frag) : V → Option Int → Option Int → Hp → VK → Prop := fun x lo hi H Q => ∃ a xs, x = .ref a ∧ SqT K H a xs ∧
  ¬ (HT.sIx xs.length 0 lo = 0 ∧ HT.sIx xs.length xs.length hi = xs.length) ∧ ∀ p, H p = none → Q (.ref p) (upd H p (.tup (cutV xs lo hi)))
theorem sl_tup : SlR X (rSlT X.K) := by
  intro pins s σ H x v vl vu lo hi sl Q I rx hs pl pu h
  obtain ⟨a, xs, rfl, hx, hw, q⟩ := h
  cases rx
  obtain ⟨its, r, ht, hz⟩ := I.tuple hx
  have hlen : its.toArray.size = xs.length := by rw [List.size_toArray]; exact r.length.symm
  refine ⟨"tuple", _, PyProof.Rows.slot_tuple_getitem.lookup, ht.typeIs, ?_⟩
  refine HT.getItem_tuple_cut ht hs pl pu (by rw [hlen]; exact hw) ?_ (by rw [hlen]; exact hz)
  rw [hlen]
  refine ⟨.ref s.heap.objs.size, _, I.laid (t' := s.toks) (o := .tup (cutV xs lo hi)) (fun b ob q => Heap.get?_push_of_some _ q) (Nat.le_refl _) ?_, rfl, q _ (I.hok.fresh (Nat.le_refl _))⟩
  exact ⟨Nat.le_trans (cutV_length xs lo hi) hz, _, (r.drop (HT.sIx xs.length 0 lo)).take (HT.sIx xs.length xs.length hi - HT.sIx xs.length 0 lo), IsTup.new _ _⟩
noncomputable def rCatT (K : PySem.W.Frag) : R2 := fun x y H Q => ∃ a b xs ys, x = .ref a ∧ y = .ref b ∧ SqT K H a xs ∧ SqT K H b ys ∧ xs ≠ [] ∧ xs.length + ys.length ≤ sizeLine ∧
  (ys = [] → Q (.ref a) H) ∧ (ys ≠ [] → ∀ p, H p = none → Q (.ref p) (upd H p (.tup (xs ++ ys))))
theorem Vals.nil_iff {xs : List V} {us : List Value} (r : Vals xs us) : us = [] ↔ xs = [] := by
  cases r with
  | nil => simp
  | cons _ _ => simp
theorem op_catT : OpR X (binaryOp .Add) (rCatT X.K) := by
  intro pins s σ H x y v u Q I rx ry h
  obtain ⟨a, b, xs, ys, rfl, rfl, ha, hb, hx, hz, q1, q2⟩ := h
  cases rx
  cases ry
  obtain ⟨its, r1, p1, _⟩ := I.tuple ha
  obtain ⟨its2, r2, p2, _⟩ := I.tuple hb
  refine HT.cat_tup p1 p2 (fun z => hx (r1.nil_iff.mp z)) (fun z => ⟨.ref a, H, I, rfl, q1 (r2.nil_iff.mp z)⟩) (fun z => ?_) (by rw [← r1.length, ← r2.length]; exact hz)
  refine ⟨.ref s.heap.objs.size, _, I.laid (t' := s.toks) (o := .tup (xs ++ ys)) (fun b ob q => Heap.get?_push_of_some _ q) (Nat.le_refl _) ?_, rfl, q2 (fun w => z (r2.nil_iff.mpr w)) _ (I.hok.fresh (Nat.le_refl _))⟩
  exact ⟨by rw [List.length_append]; exact hz, _, r1.append r2, IsTup.new _ _⟩
end
end L2
namespace L2
open PySem PySem.Spec PyProof.Rows
noncomputable def ixN (n : Nat) (i : Int) : Option Nat := if 0 ≤ i then (if i < n then some i.toNat else none) else if -(n : Int) ≤ i then some (i + n).toNat else none
noncomputable def atI {α : Type} (xs : List α) (i : Int) : Option α := (ixN xs.length i).bind fun j => xs[j]?
theorem ixN_seq {n : Nat} {i : Int} {j : Nat} (h : ixN n i = some j) : seqIndex? i n = some j ∧ j < n ∧ -(n : Int) ≤ i ∧ i < n := by
  unfold ixN at h
  by_cases h0 : 0 ≤ i
  · rw [if_pos h0] at h
    by_cases h1 : i < n
    · rw [if_pos h1] at h
      have e : i.toNat = j := Option.some.inj h
      exact ⟨by rw [seqIndex_of h0 h1, e], by omega, by omega, h1⟩
    · rw [if_neg h1] at h; cases h
  · rw [if_neg h0] at h
    by_cases h1 : -(n : Int) ≤ i
    · rw [if_pos h1] at h
      have e : (i + n).toNat = j := Option.some.inj h
      exact ⟨by rw [seqIndex_neg (by omega) h1, e], by omega, h1, by omega⟩
    · rw [if_neg h1] at h; cases h
theorem atI_get {α : Type} {xs : List α} {i : Int} {v : α} (h : atI xs i = some v) : ∃ j, seqIndex? i xs.length = some j ∧ xs[j]? = some v ∧ j < xs.length ∧ -(xs.length : Int) ≤ i ∧ i < xs.length := by
  unfold atI at h
  cases e : ixN xs.length i with
  | none => rw [e] at h; cases h
  | some j =>
    rw [e] at h
    obtain ⟨h1, h2, h3, h4⟩ := ixN_seq e
    exact ⟨j, h1, h, h2, h3, h4⟩
theorem atI_nat {α : Type} {xs : List α} {j : Nat} {v : α} (h : xs[j]? = some v) : atI xs (j : Int) = some v := by
  have hj : j < xs.length := (List.getElem?_eq_some_iff.mp h).1
  have e : ixN xs.length (j : Int) = some j := by
    unfold ixN
    rw [if_pos (by omega), if_pos (by omega)]; simp
  unfold atI; rw [e]; exact h
theorem atI_last {α : Type} (xs : List α) (v : α) : atI (xs ++ [v]) (-1) = some v := by
  have hl : (xs ++ [v]).length = xs.length + 1 := by simp
  have e : ixN (xs ++ [v]).length (-1) = some xs.length := by
    unfold ixN
    rw [hl, if_neg (by decide), if_pos (by omega)]
    congr 1
    omega
  unfold atI
  rw [e]
  show (xs ++ [v])[xs.length]? = some v
  simp
noncomputable def PlainIx (b : Expr) : Prop := ∀ o i, subscripted b false o i = operate [o, i] (getItem o i)
noncomputable def IxR (X : Cx) (r : R2) : Prop :=
  ∀ (value slice : Expr) (pins : List (Addr × Obj)) (s : Shared) (σ : St) (H : Hp) (x y : V) (v u : Value) (Q : VK), Inv X pins σ H s → RelV x v → RelV y u → r x y H Q →
    subscripted slice false v u = operate [v, u] (getItem v u) → wpAny (model X.prog X.w) X.A (subscriptTail value slice v u) (EP X pins σ Q) X.xe s
noncomputable def MtR (X : Cx) (id : String) (r : V → List V → Hp → VK → Prop) : Prop :=
  ∀ (pins : List (Addr × Obj)) (s : Shared) (σ : St) (H : Hp) (x : V) (xs : List V) (v : Value) (us : List Value) (Q : VK), Inv X pins σ H s → RelV x v → Vals xs us → r x xs H Q →
    wpAny (model X.prog X.w) X.A (call (.builtin id) (v :: us)) (EP X pins σ Q) X.xe s
section
variable {X : Cx} {a b : Expr} {ta tb : TE} {pos : Pos}
theorem IxR.or {r r' : R2} (h : IxR X r) (h' : IxR X r') : IxR X (fun x y H Q => r x y H Q ∨ r' x y H Q) := by
  intro value slice pins s σ H x y v u Q I rx ry q hs
  rcases q with q | q
  · exact h value slice pins s σ H x y v u Q I rx ry q hs
  · exact h' value slice pins s σ H x y v u Q I rx ry q hs
theorem MtR.or {id : String} {r r' : V → List V → Hp → VK → Prop} (h : MtR X id r) (h' : MtR X id r') : MtR X id (fun x xs H Q => r x xs H Q ∨ r' x xs H Q) := by
  intro pins s σ H x xs v us Q I rx rs q
  rcases q with q | q
  · exact h pins s σ H x xs v us Q I rx rs q
  · exact h' pins s σ H x xs v us Q I rx rs q
theorem pe_ix {r : R2} (hr : IxR X r) (ha : PE X a ta) (hb : PE X b tb) (hs : PlainIx b) : PE X (.Subscript a b pos) (tOp r ta tb) := by
  intro pins s σ H Q I h
  exact Subscript_ (binT ha hb I h fun v u s2 x y H2 I2 rx ry q => hr a b pins s2 σ H2 x y v u Q I2 rx ry q (hs _ _))
noncomputable def rIxL (K : PySem.W.Frag) : R2 := fun x y H Q => ∃ p xs i v, x = .ref p ∧ y = .int i ∧ SqL K H p xs ∧ atI xs i = some v ∧ Q v H
noncomputable def rIxT (K : PySem.W.Frag) : R2 := fun x y H Q => ∃ p xs i v, x = .ref p ∧ y = .int i ∧ SqT K H p xs ∧ atI xs i = some v ∧ Q v H
noncomputable def rIxS : R2 := fun x y H Q => ∃ z i c, x = .str z ∧ y = .int i ∧ z.length ≤ sizeLine ∧ atI z.cps.toList i = some c ∧ Q (.str ⟨#[c]⟩) H
theorem ix_list : IxR X (rIxL X.K) := by
  intro value slice pins s σ H x y v u Q I rx ry h hs
  obtain ⟨p, xs, i, z, rfl, rfl, hq, he, q⟩ := h
  cases rx
  obtain ⟨t, rfl⟩ := ry
  obtain ⟨its, r, pl, hz⟩ := I.list hq
  obtain ⟨j, h1, h2, h3, h4, h5⟩ := atI_get he
  obtain ⟨w, ew, rw'⟩ := r.get h2
  have hl := r.length
  have hn := line63
  have fin : EP X pins σ Q w s := ⟨z, H, I, rw', q⟩
  by_cases h0 : 0 ≤ i
  · have hj : i.toNat = j := by
      rw [seqIndex_of h0 h5] at h1
      exact Option.some.inj h1
    exact item_listR pl.isList h0 (by omega) (by rw [hj]; simpa using ew) fin hs
  · have hj : (i + (its.toArray.size : Int)).toNat = j := by
      rw [seqIndex_neg (by omega) h4] at h1
      rw [List.size_toArray, ← hl]
      exact Option.some.inj h1
    exact subscriptTail_builtinR (x := w) pl.isList.typeIs slot_list_getitem.lookup
      (wpAny_getItem_list_neg (Q := fun r s' => r = w ∧ EP X pins σ Q r s') pl.isList (by omega) (by rw [List.size_toArray] <;> omega) (by omega) (by rw [hj]; simpa using ew) ⟨rfl, fin⟩) hs
theorem ix_tup : IxR X (rIxT X.K) := by
  intro value slice pins s σ H x y v u Q I rx ry h hs
  obtain ⟨p, xs, i, z, rfl, rfl, hq, he, q⟩ := h
  cases rx
  obtain ⟨t, rfl⟩ := ry
  obtain ⟨its, r, pl, hz⟩ := I.tuple hq
  obtain ⟨j, h1, h2, h3, h4, h5⟩ := atI_get he
  obtain ⟨w, ew, rw'⟩ := r.get h2
  have hl := r.length
  have hn := line63
  have fin : EP X pins σ Q w s := ⟨z, H, I, rw', q⟩
  exact subscriptTail_builtinR (x := w) pl.typeIs slot_tuple_getitem.lookup
    (getItem_tuple (j := j) (Q := fun r s' => r = w ∧ EP X pins σ Q r s') pl (by omega) (by omega) (by rw [List.size_toArray, ← hl]; exact h1) (by simpa using ew) ⟨rfl, fin⟩) hs
theorem ix_str : IxR X rIxS := by
  intro value slice pins s σ H x y v u Q I rx ry h hs
  obtain ⟨z, i, c, rfl, rfl, hz, he, q⟩ := h
  obtain ⟨t, rfl⟩ := rx
  obtain ⟨t', rfl⟩ := ry
  obtain ⟨j, h1, h2, h3, h4, h5⟩ := atI_get he
  have hl : z.cps.toList.length = z.length := by simp [Str.length]
  rw [hl] at h1 h4 h5
  have hn := line63
  exact tail_any (typeIs_str s z t) slot_str_getitem.lookup (getItem_str (c := c) (by
    have e1 : decide (i < -(2 ^ 63 : Int)) = false := decide_eq_false (by omega)
    have e2 : decide (i ≥ 2 ^ 63) = false := decide_eq_false (by omega)
    rw [e1, e2, Bool.or_false]) (by rw [h1]; simpa using h2) ⟨.str ⟨#[c]⟩, H, I.tok _, ⟨_, rfl⟩, q⟩) hs
noncomputable def rIx (K : PySem.W.Frag) : R2 := fun x y H Q => rIxL K x y H Q ∨ rIxT K x y H Q ∨ rIxS x y H Q
theorem ix_seq : IxR X (rIx X.K) := ix_list.or (ix_tup.or ix_str)
theorem Inv.lst {pins : List (Addr × Obj)} {σ : St} {H : Hp} {s : Shared} {p : Addr} {xs : List V} (I : Inv X pins σ H s) (h : H p = some (.lst xs)) :
    ∃ (its : List Value) (n : Nat), Vals xs its ∧ s.heap.get? p = some { cls := .type "list", data := .seq its.toArray n } ∧ xs.length ≤ sizeLine := by
  obtain ⟨z, its, n, r, e⟩ := I.hok p _ h
  exact ⟨its, n, r, e, z⟩
theorem slice_bounds (lo hi : Option Int) (n : Nat) : (sliceBounds lo hi none n).1 = ((HT.sIx n 0 lo : Nat) : Int) ∧ (sliceBounds lo hi none n).2.1 = ((HT.sIx n n hi : Nat) : Int) ∧ (sliceBounds lo hi none n).2.2 = 1 := by
  refine ⟨?_, ?_, rfl⟩
  · cases lo with
    | none => simp [sliceBounds, HT.sIx]
    | some i =>
      simp only [sliceBounds, HT.sIx, Option.getD_none, show (1 : Int) > 0 by decide, if_true]
      by_cases h : i < 0
      · simp only [h, if_true] <;> omega
      · simp only [h, if_false] <;> omega
  · cases hi with
    | none => simp [sliceBounds, HT.sIx]
    | some i =>
      simp only [sliceBounds, HT.sIx, Option.getD_none, show (1 : Int) > 0 by decide, if_true]
      by_cases h : i < 0
      · simp only [h, if_true] <;> omega
      · simp only [h, if_false] <;> omega
theorem slicePick_cut (its : List Value) (lo hi : Option Int) : slicePick its.toArray lo hi none = ((its.drop (HT.sIx its.length 0 lo)).take (HT.sIx its.length its.length hi - HT.sIx its.length 0 lo)).toArray := by
  obtain ⟨h1, h2, h3⟩ := slice_bounds lo hi its.toArray.size
  unfold slicePick
  rw [h1, h2, h3]
  simp only [sliceRange_one, pick_run, List.size_toArray] <;> rfl
noncomputable def rSlL (K : PySem.W.Frag) : V → Option Int → Option Int → Hp → VK → Prop := fun x lo hi H Q => ∃ a xs, x = .ref a ∧ SqL K H a xs ∧ ∀ p, H p = none → Q (.ref p) (upd H p (.lst (cutV xs lo hi)))
theorem sl_list : SlR X (rSlL X.K) := by
  intro pins s σ H x v vl vu lo hi sl Q I rx hs pl pu h
  obtain ⟨a, xs, rfl, hx, q⟩ := h
  cases rx
  obtain ⟨its, r, ht, hz⟩ := I.list hx
  have hlen := r.length
  refine ⟨"list", _, slot_list_getitem.lookup, ht.isList.typeIs, ?_⟩
  refine wpAny_getItem_list_slice ht.isList hs pl pu .none (by simp) ?_ (by rw [List.size_toArray] <;> omega)
  rw [slicePick_cut, ← hlen]
  refine ⟨.ref s.heap.objs.size, _, I.laid (t' := s.toks) (o := .lst (cutV xs lo hi)) (fun b ob q => Heap.get?_push_of_some _ q) (Nat.le_refl _) ?_, rfl, q _ (I.hok.fresh (Nat.le_refl _))⟩
  exact ⟨Nat.le_trans (cutV_length xs lo hi) hz, _, 0, (r.drop (HT.sIx xs.length 0 lo)).take (HT.sIx xs.length xs.length hi - HT.sIx xs.length 0 lo), Heap.get?_push_size _ rfl⟩
theorem call_len_seq : CallR X (.builtin "len") (fun xs H Q => ∃ p ys, xs = [.ref p] ∧ (SqL X.K H p ys ∨ SqT X.K H p ys) ∧ Q (.int ys.length) H) := by
  intro pins s σ H xs us Q I r h
  obtain ⟨p, ys, rfl, hq, q⟩ := h
  obtain ⟨u, rfl, rx⟩ := vals1 r
  cases rx
  have hn := line63
  rcases hq with hq | hq
  · obtain ⟨its, r', pl, hz⟩ := I.list hq
    have hlen := r'.length
    exact Calls.call_len_list pl.isList (by simp only [List.size_toArray] <;> omega) ⟨.int ys.length, H, I.tok _, ⟨s.toks + 1, by rw [List.size_toArray, hlen]⟩, q⟩
  · obtain ⟨its, r', pl, hz⟩ := I.tuple hq
    have hlen := r'.length
    exact len_tuple pl (by simp only [List.size_toArray] <;> omega) ⟨.int ys.length, H, I.tok _, ⟨s.toks + 1, by rw [List.size_toArray, hlen]⟩, q⟩
theorem call_len_str : CallR X (.builtin "len") (fun xs H Q => ∃ z, xs = [.str z] ∧ z.length ≤ sizeLine ∧ Q (.int z.length) H) := by
  intro pins s σ H xs us Q I r h
  obtain ⟨z, rfl, hz, q⟩ := h
  obtain ⟨u, rfl, t, rfl⟩ := vals1 r
  have hn := line63
  exact len_str (by omega) ⟨.int z.length, H, I.tok _, ⟨_, rfl⟩, q⟩
theorem CallR.or {f : Value} {r r' : List V → Hp → VK → Prop} (h : CallR X f r) (h' : CallR X f r') : CallR X f (fun xs H Q => r xs H Q ∨ r' xs H Q) := by
  intro pins s σ H xs us Q I rs q
  rcases q with q | q
  · exact h pins s σ H xs us Q I rs q
  · exact h' pins s σ H xs us Q I rs q
noncomputable def tyV (K : PySem.W.Frag) (T : String) (x : V) (H : Hp) : Prop := match x with
  | .str _ => T = "str"
  | .int _ => T = "int"
  | .ref p => (T = "list" ∧ ∃ xs, SqL K H p xs) ∨ (T = "tuple" ∧ ∃ o, K.lookup p = some o ∧ o.cls = .type "tuple" ∧ o.dict = none) ∨
      (T = "dict" ∧ ((∃ kvs, H p = some (.dK kvs)) ∨ ∃ kvs, H p = some (.dT kvs))) ∨ (T = "set" ∧ ∃ S n, H p = some (.set S n))
  | _ => False
theorem tyV_is {pins : List (Addr × Obj)} {σ : St} {H : Hp} {s : Shared} {T : String} {x : V} {v : Value} (I : Inv X pins σ H s) (r : RelV x v) (ty : tyV X.K T x H) :
    s.TypeIs v T ∧ ∀ a, v = .ref a → ∃ ob, s.heap.get? a = some ob ∧ ob.dict = none := by
  cases x with
  | str z =>
    obtain ⟨t, rfl⟩ := r
    cases (show T = "str" from ty)
    exact ⟨typeIs_str s z t, fun _ e => nomatch e⟩
  | int i =>
    obtain ⟨t, rfl⟩ := r
    cases (show T = "int" from ty)
    exact ⟨typeIs_int s i t, fun _ e => nomatch e⟩
  | ref p =>
    cases r
    rcases ty with ⟨rfl, xs, hq⟩ | ⟨rfl, o, hk, hc, hd⟩ | ⟨rfl, hk⟩ | ⟨rfl, S, n, hk⟩
    · obtain ⟨its, _, pl, _⟩ := I.list hq
      refine ⟨pl.isList.typeIs, fun a e => ?_⟩
      cases e
      obtain ⟨o, n, e, c, hd, _⟩ := pl
      exact ⟨o, e, hd⟩
    · refine ⟨⟨o, I.kIn p o hk, hc⟩, fun a e => ?_⟩
      cases e
      exact ⟨o, I.kIn _ o hk, hd⟩
    · have z : ∃ o, s.heap.get? p = some o ∧ o.ExactDict := by
        rcases hk with ⟨kvs, hk⟩ | ⟨kvs, hk⟩
        · obtain ⟨_, _, _, _, o, _, _, e, ex, _⟩ := I.hok p _ hk
          exact ⟨o, e, ex⟩
        · obtain ⟨_, _, _, _, o, _, _, e, ex, _⟩ := I.hok p _ hk
          exact ⟨o, e, ex⟩
      obtain ⟨o, e, ex⟩ := z
      refine ⟨⟨o, e, ex.1⟩, fun a e2 => ?_⟩
      cases e2
      exact ⟨o, e, ex.2.1⟩
    · obtain ⟨o, _, _, _, e, ex, _⟩ := I.hok p _ hk
      refine ⟨⟨o, e, ex.1⟩, fun a e2 => ?_⟩
      cases e2
      exact ⟨o, e, ex.2.1⟩
  | _ => exact False.elim ty
noncomputable def tBM (K : PySem.W.Frag) (T : String) (r : V → List V → Hp → VK → Prop) (to : TE) (t : TA) : TE := fun σ H Q => to σ H fun x H1 => tyV K T x H1 ∧ t σ H1 fun xs H2 => r x xs H2 Q
variable {o e : Expr} {es : List Expr} {to : TE} {t : TA} {name : Str} {apos cpos : Pos} {T id : String} {r : V → List V → Hp → VK → Prop}
theorem pe_bm (pa : PlainAttrs T) (slot : Slot T name id) (hty : typeOf (.builtin id) = pure (.type "method_descriptor")) (hm : MtR X id r) (ho : PE X o to) (ha : PA X (e :: es) t)
    (hbase : attributeBase o name X.env (eval o X.env) = eval o X.env := by rfl)
    (hfew : ((backTo cpos (starEach (e :: es) X.env)).all (fun x => !x.1) && (backToKw cpos (keywordEach [] X.env)).all (fun x => x.1.isSome)
      && decide ((e :: es).length + ([] : List Keyword).length + (if ([] : List Keyword).isEmpty then 0 else 1) < 30)) = true := by rfl)
    (hline : (apos.endLine == cpos.line) = true := by rfl) (hs : starEach (e :: es) X.env = (false, eval e X.env) :: starEach es X.env := by rfl) (hplain : (backTo cpos (starEach es X.env)).any (·.1) = false := by rfl) :
    PE X (.Call (.Attribute o name apos) (e :: es) [] cpos) (tBM X.K T r to t) := by
  intro pins s σ H Q I h
  refine wpAny_Call_method_late hbase hfew hline rfl (thn (ho pins s σ H _ I h) fun v s1 ⟨x, H1, I1, r1, ty, q1⟩ => ?_)
  obtain ⟨h1, h2⟩ := tyV_is I1 r1 ty
  refine ⟨T, id, pa, slot, hty, h1, h2, ?_⟩
  have hA := ha cpos pins s1 σ H1 _ I1 q1
  rw [hs] at hA ⊢
  refine Calls.callWith_builtin (by show (false || (backTo cpos (starEach es X.env)).any (·.1)) = false; rw [hplain] <;> rfl) (Calls.evalArgs_plain ?_)
  exact thn hA fun us s2 ⟨vs, H2, I2, r2, q2⟩ => hm pins s2 σ H2 x vs v us Q I2 r1 r2 q2
end
end L2
namespace L2
open PySem PySem.Spec PyProof.Rows
noncomputable def MtM (X : Cx) (id : String) (r : V → List V → Hp → VK → Prop) : Prop :=
  ∀ (pins : List (Addr × Obj)) (s : Shared) (σ : St) (H : Hp) (x : V) (xs : List V) (v : Value) (us : List Value) (Q : VK), Inv X pins σ H s → RelV x v → Vals xs us → r x xs H Q →
    wpAny (model X.prog X.w) X.A (call (.builtin id) (v :: us)) (EP X pins σ Q) X.xe s
theorem Vals.one : ∀ {x : V} {us : List Value}, Vals [x] us → ∃ u, us = [u] ∧ RelV x u
  | _, _, .cons r .nil => ⟨_, rfl, r⟩
theorem Vals.two : ∀ {x y : V} {us : List Value}, Vals [x, y] us → ∃ u v, us = [u, v] ∧ RelV x u ∧ RelV y v
  | _, _, _, .cons r (.cons q .nil) => ⟨_, _, rfl, r, q⟩
theorem Vals.zero : ∀ {us : List Value}, Vals [] us → us = []
  | _, .nil => rfl
theorem Vals.dropLast {xs : List V} {us : List Value} (h : Vals xs us) : Vals xs.dropLast us.dropLast := by
  induction h with
  | nil => exact .nil
  | cons r t ih =>
    cases t with
    | nil => exact .nil
    | cons q t' => exact .cons r ih
theorem Vals.reverse {xs : List V} {us : List Value} (h : Vals xs us) : Vals xs.reverse us.reverse := by
  induction h with
  | nil => exact .nil
  | cons r t ih => rw [List.reverse_cons, List.reverse_cons]; exact Vals.append ih (.cons r .nil)
section
variable {X : Cx} {pins : List (Addr × Obj)} {σ : St} {H : Hp} {s : Shared} {l b : Addr} {xs ys zs : List V}
theorem Inv.lset {its its' : List Value} {n : Nat} {f : Array Value → Array Value} {t' : Nat} (I : Inv X pins σ H s) (hH : H l = some (.lst xs))
    (e : s.heap.get? l = some { cls := .type "list", data := .seq its.toArray n }) (hf : f its.toArray = its'.toArray) (hv : Vals ys its') (hz : ys.length ≤ sizeLine) :
    Inv X pins σ (upd H l (.lst ys)) { s with heap := s.heap.update l (Obj.mapSeq f), toks := t' } := by
  have q := PySem.IsL.update e f
  rw [hf] at q
  refine I.write (x := l) (e := l) (by rw [hH]; exact trivial) (.inl rfl) (fun b' u hb hu => (Heap.get?_update_other s.heap (Obj.mapSeq f) (Ne.symm hb)).trans hu) ⟨_, q⟩ ?_
  exact ⟨hz, its', _, hv, q⟩
theorem Inv.lnew {its : List Value} {t' : Nat} (I : Inv X pins σ H s) (hv : Vals ys its) (hz : ys.length ≤ sizeLine) :
    Inv X pins σ (upd H s.heap.objs.size (.lst ys)) { s with heap := s.heap.push { cls := .type "list", data := .seq its.toArray }, toks := t' } :=
  I.laid (fun _ _ q => Heap.get?_push_of_some _ q) (Nat.le_refl _) ⟨hz, its, 0, hv, Heap.get?_push_size _ rfl⟩
theorem Inv.fresh (I : Inv X pins σ H s) : H s.heap.objs.size = none := I.hok.fresh (Nat.le_refl _)
theorem Inv.lstM (I : Inv X pins σ H s) (hH : H l = some (.lst xs)) : xs.length ≤ sizeLine ∧ ∃ (its : List Value) (n : Nat), Vals xs its ∧ xs.length = its.length ∧ s.heap.get? l = some { cls := .type "list", data := .seq its.toArray n } := by
  obtain ⟨z, its, n, r, e⟩ := I.hok l _ hH
  exact ⟨z, its, n, r, r.length, e⟩
end
section
variable {X : Cx}
noncomputable def rAppend : V → List V → Hp → VK → Prop := fun x vs H Q => ∃ l xs y, x = .ref l ∧ vs = [y] ∧ H l = some (.lst xs) ∧ xs.length < sizeLine ∧ Q .non (upd H l (.lst (xs ++ [y])))
theorem mt_append : MtM X "list.append" rAppend := by
  intro pins s σ H x vs v us Q I rx rv h
  obtain ⟨l, xs, y, rfl, rfl, hH, hz, q⟩ := h
  cases rx
  obtain ⟨u, rfl, ru⟩ := rv.one
  obtain ⟨z, its, n, r, hl, e⟩ := I.lstM hH
  refine call_meets F.slot_list_append ⟨_, e, rfl⟩ F.entry_list_append (F.args_list_append_2 _ _) (PySem.list_append l its.toArray n u (by rw [List.size_toArray]; omega)) ⟨e, ?_⟩
  refine ⟨.non, _, I.lset (its' := its ++ [u]) hH e (by simp) (r.append (.cons ru .nil)) ?_, rfl, q⟩
  rw [List.length_append, List.length_singleton]
  omega
end
section
variable {prog : Program} {w : World} {A : Around} {E : Value → Shared → Prop} {s : Shared}
end
section
variable {X : Cx}
end
end L2
namespace Att
open PySem PySem.W PySem.Calls PyProof.Rows
theorem ints_of_wellAll {P : Params} {h : Heap} : ∀ (ns : List Int) (vs : List Value), WellAll P h vs (ns.map WData.int) → IntsAre vs ns := by
  intro ns
  induction ns with
  | nil =>
    intro vs w
    rw [List.map_nil] at w
    cases w
    exact .nil
  | cons n ns ih =>
    intro vs w
    rw [List.map_cons] at w
    cases w with
    | cons a b =>
      cases a
      exact .cons _ _ (ih _ b)
theorem script_of {l : OpenLaw} {n : Nat} (hn : l.most = some n) {P : Params} {h : Heap} {args : List WData} {vals : List Value}
    (hpre : l.row.toRowW.claim.pre args = true) (hwl : WellAll P h vals args) :
    ∃ a vs ns, vals = [Value.ref a] ∧ args = [WData.list (ns.map WData.int)] ∧ h.get? a = some { cls := .type "list", data := .seq vs.toArray } ∧ IntsAre vs ns ∧ ns.length ≤ n := by
  have hsh : WShape.hasAll [] args [.list .int] = true := (pre_splitW hpre).1
  have hc : l.pre.holds [] { args := args } = true := (pre_splitW hpre).2
  obtain ⟨d, r, rfl, h1, h2⟩ := hasAllW_cons hsh
  obtain rfl := hasAllW_nil h2
  obtain ⟨xs, rfl, h3⟩ := hasW_list h1
  obtain ⟨ns, rfl⟩ := items_int h3
  have hlen : ns.length ≤ n := by
    unfold OpenLaw.pre at hc
    have h4 : (WTm.not (.lt (.lit (.int (n : Int))) (.len (.arg 0)))).holds [] { args := [.list (ns.map .int)] } = true := by
      have h4 := (holds_andW hc).1
      rw [hn] at h4
      exact h4
    have h5 := condW_of h4 (w_not (w_lt w_lit (w_len_list (w_arg rfl))))
    rw [List.length_map] at h5
    refine Nat.le_of_not_lt fun q => ?_
    have q' : (n : Int) < ((ns.length : Nat) : Int) := by omega
    first
      | (rw [decide_eq_true q'] at h5; exact absurd h5 (by decide))
      | (simp at h5; omega)
  cases hwl with
  | cons w1 w2 =>
    cases w2
    cases w1 with
    | list ho hall => exact ⟨_, _, ns, rfl, rfl, ho, ints_of_wellAll ns _ hall, hlen⟩
theorem post_true (l : OpenLaw) (args : List WData) : l.row.toRowW.claim.post args (.bool true) args = true :=
  postW_of (r := l.row.toRowW) (X := (true == true))
    (show WShape.has [] (.bool true) .bool = true by first | rfl | decide | simp [WShape.has, WShape.arms, WShape.armsAll])
    (show (WTm.eq .res (.lit (.bool true))).value [] { args := args, res := some (.bool true), after := args } = some (.bool (true == true)) from w_eq_bool (w_res rfl) w_lit) rfl
theorem attach_call {l : OpenLaw} {n : Nat} {q : Program} {loose : List Str} {XP : (Str → Option Value) → Heap → Prop} {YP : World → Heap → Prop} {d : DefRec}
    (hn : l.most = some n) (hdf : d.params.defaults = [])
    (call : ∀ (w : World) (s₀ s₁ : Shared) (mg mb : Str → Option Value) (fa : Addr) (o : Obj) (pm cd doc : Value) (a : Addr) (vs : List Value) (ns : List Int),
      Ground q loose [] XP w s₀ mg mb s₁.heap → YP w s₁.heap →
      s₁.heap.get? fa = some o → o.data = .func (docDef d.name d.params d.body d.scope pm cd doc) → s₁.heap.CodeRec cd d.name → mg d.name = some (.ref fa) →
      s₁.heap.get? a = some { cls := .type "list", data := .seq vs.toArray } → IntsAre vs ns → ns.length ≤ n → s₁.gens = #[] →
      codeAny (model l.prog w) callerA (.call (.ref fa) ⟨[.ref a], []⟩) (fun r s' => r = .ok (.ret (.bool true)) ∧ OldK s₁.heap s'.heap ∧ s'.os = s₁.os ∧ AllBare s'.gens) s₁) :
    WalkO q loose XP YP l.row.toRowW d [] (fun f vs => PySem.call f vs) := by
  intro w s₀ s₁ mg mb G Y fa o pm cd doc dV kV ho hd hcd hD hmg hg args vals as hpre hlay hrd hwl hlo
  obtain rfl : dV = .none := Dflts.none hD hdf
  obtain rfl : kV = .none := Dflts.noKw hD
  obtain ⟨a, vs, ns, rfl, rfl, hobj, hints, hlen⟩ := script_of hn hpre hwl
  refine enter_call (codeAny_mono (call w s₀ s₁ mg mb fa o pm cd doc a vs ns G Y ho (fd_plain hd) hcd hmg hobj hints hlen hg) fun r s' hq => ?_)
  obtain ⟨rfl, h2, h3, h4⟩ := hq
  exact ⟨.inl ⟨.bool true, .bool true, [], rfl, fun _ => rfl, .bool true, post_true l _, fun _ => ⟨List.Pairwise.nil, fun _ hm => (nomatch hm)⟩⟩, h2, h3, h4⟩
section
variable {prog : Program} {w : World} {A : Around} {E : Value → Shared → Prop} {s : Shared} {K : Frag}
end
end Att
namespace L2
open PySem PySem.Spec PyProof.Rows
theorem vals_ints : ∀ {vs : List Value} {ns : List Int}, IntsAre vs ns → Vals (ns.map V.int) vs
  | _, _, .nil => .nil
  | _, _, .cons n t h => .cons ⟨t, rfl⟩ (vals_ints h)
noncomputable def Only (H : Hp) : Prop := ∀ b, H b = none ∨ ∃ o xs, H b = some (.frz o (.lst xs))
theorem law_call {P : Program} {w : World} {K : PySem.W.Frag} {mg mb : Str → Option Value} {CX : CXT} {k : Nat} {fa a : Addr} {fd : FuncData} {x : Str} {sp : Sp} {s₁ : Shared} {vs : List Value} {ns : List Int}
    (KX : K.In s₁.heap) (hns : s₁.heap.Ns mainGlobals mg) (hb : s₁.heap.Ns builtinsNs mb) (hbb : ∀ x : Str, x ≠ "__name__" → mb x = bootBuiltins x) (hlim : s₁.heap.NoLimit) (hg : s₁.gens = #[])
    (ha : s₁.heap.get? a = some { cls := .type "list", data := .seq vs.toArray }) (hi : IntsAre vs ns) (hl : ns.length ≤ sizeLine) (hr : Room k callerA)
    (F : ∀ base : Heap, K.In base → base.Ns mainGlobals mg → FnOk P w K mg base CX k fa fd [x] sp) (hbind : ∀ (s : Shared) (u : Value), BindsTo s fd ⟨[u], []⟩ [(x, u)])
    (hsp : ∀ H : Hp, Only H → SqL K H a (ns.map V.int) → sp [.ref a] H (fun v _ => v = .bl true) fun _ _ _ => False)
    (hCX : ∀ H e s', CX [] H s₁ (fun _ _ _ => False) e s' → False) :
    codeAny (model P w) callerA (.call (.ref fa) ⟨[.ref a], []⟩) (fun r s' => r = .ok (.ret (.bool true)) ∧ OldK s₁.heap s'.heap ∧ s'.os = s₁.os ∧ AllBare s'.gens) s₁ := by
  have rv := vals_ints hi
  have lenV := hi.length
  have core : ∀ H : Hp, Only H → SqL K H a (ns.map V.int) → HOk P w H s₁.heap → (∀ b, H b ≠ none → b = a) → (H a ≠ none → K.lookup a = none) →
      codeAny (model P w) callerA (.call (.ref fa) ⟨[.ref a], []⟩) (fun r s' => r = .ok (.ret (.bool true)) ∧ OldK s₁.heap s'.heap ∧ s'.os = s₁.os ∧ AllBare s'.gens) s₁ := by
    intro H hO hS hok hA hK
    have base_of : ∀ {b : Addr} {o : Obj}, s₁.heap.get? b = some o → H b = none → (hidT s₁.heap H).get? b = some o := fun e n => hidT_get e n
    have noA : ∀ {b : Addr} {o : Obj} {es : Array DictEntry} {ep : Nat}, s₁.heap.get? b = some o → o.data = .dict es ep → H b = none := fun {b o es ep} e d => by
      cases q : H b with
      | none => rfl
      | some u =>
        have e' : b = a := hA b (by rw [q]; simp)
        subst e'
        rw [ha] at e; cases e
        have d' : Data.seq vs.toArray _ = Data.dict es ep := d
        cases d'
    have nsK : ∀ {b : Addr} {m : Str → Option Value}, s₁.heap.Ns b m → (hidT s₁.heap H).Ns b m := fun {b m} ⟨o, es, ep, e, d, r⟩ => ⟨o, es, ep, base_of e (noA e d), d, r⟩
    have hKb : K.In (hidT s₁.heap H) := fun b o e => base_of (KX b o e) (by
      cases q : H b with
      | none => rfl
      | some u =>
        have e' : b = a := hA b (by rw [q]; simp)
        subst e'
        rw [hK (by rw [q]; simp)] at e; cases e)
    have hM : Mod K mg (hidT s₁.heap H) := ⟨hKb, nsK hns, ⟨mb, nsK hb, hbb⟩, let ⟨mc, h1, h2⟩ := hlim; ⟨mc, nsK h1, h2⟩⟩
    have e0 : Env0 P w K mg (hidT s₁.heap H) callerA [] s₁ H := ⟨rfl, hM, fun b o e => of_hidT e, Nat.le_of_eq (hidT_size _ _), trivial, fun b hb => absurd (show b ∈ ([] : List Addr) from hb) (by simp), hok, .of_eq hg⟩
    refine codeAny_mono ((F _ hKb (nsK hns)).run callerA [] s₁ H ⟨[.ref a], []⟩ [.ref a] [.ref a] _ _ hr e0 (hbind s₁ (.ref a)) (.cons rfl .nil) (hsp H hO hS)) fun r s' h => ?_
    cases r with
    | error e => exact (hCX H e s' h).elim
    | ok fl =>
      cases fl with
      | next => exact False.elim h
      | brk => exact False.elim h
      | cont => exact False.elim h
      | ret u =>
        obtain ⟨v, H', os, bare, un, hok', r', q⟩ := h
        have q' : v = .bl true := q
        subst q'
        obtain rfl : u = Value.bool true := r'
        refine ⟨rfl, OldK.of_keep fun b o e => ?_, os, bare⟩
        cases q : H b with
        | none => exact un.keep b o e q (by intro z; exact absurd (show b ∈ ([] : List Addr) from z) (by simp)) (by simp)
        | some u =>
          rcases hO b with z | ⟨ob, xs, z⟩
          · rw [q] at z; cases z
          · have z2 := un.frzs b ob _ z
            obtain ⟨e1, _⟩ := hok b _ z
            obtain ⟨e2, _⟩ := hok' b _ z2
            rw [e] at e1; cases e1
            exact e2
  cases hk : K.lookup a with
  | some o =>
    have e := KX a o hk
    rw [ha] at e
    cases e
    refine core (fun _ => none) (fun _ => .inl rfl) (.inr ⟨_, vs.toArray, _, hk, rfl, rfl, rfl, by rw [List.size_toArray, lenV]; exact hl, by simpa using rv⟩) (fun b u z => by have z' : (none : Option HO) = some u := z; cases z') (fun b z => absurd rfl z) fun z => absurd rfl z
  | none =>
    refine core (fun b => if b = a then some (.frz { cls := .type "list", data := .seq vs.toArray } (.lst (ns.map V.int))) else none) (fun b => ?_) (.inl (.inr ⟨{ cls := .type "list", data := .seq vs.toArray }, if_pos rfl⟩)) (fun b u z => ?_) (fun b z => ?_) fun _ => hk
    · by_cases hb : b = a
      · exact .inr ⟨_, _, if_pos hb⟩
      · exact .inl (if_neg hb)
    · by_cases hb : b = a
      · have z' := (if_pos hb).symm.trans z
        cases z'
        subst hb
        exact ⟨ha, by rw [List.length_map]; exact hl, vs, _, rv, ha⟩
      · have z' := (if_neg hb).symm.trans z
        cases z'
    · by_cases hb : b = a
      · exact hb
      · exact absurd (if_neg hb) z
end L2
namespace L2
open PySem PySem.Spec PyProof.Rows
theorem walk_of {l : PySem.W.OpenLaw} {n k : Nat} {q : Program} {loose : List Str} {XP : (Str → Option Value) → Heap → Prop} {YP : World → Heap → Prop} {d : DefRec} {K : Params → PySem.W.Frag} {CX : World → CXT} {sp : World → Sp} {x : Str}
    (hn : l.most = some n) (hn2 : n ≤ sizeLine) (hdf : d.params.defaults = []) (hr : Room k callerA)
    (hY : ∀ (w : World) (h : Heap), YP w h → (K w.params).In h)
    (F : ∀ (w : World) (mg : Str → Option Value) (fa : Addr) (h : Heap), (K w.params).In h → h.Ns mainGlobals mg → mg d.name = some (.ref fa) →
      ∃ fd : FuncData, (∀ (s : Shared) (u : Value), BindsTo s fd ⟨[u], []⟩ [(x, u)]) ∧
        ∀ base : Heap, (K w.params).In base → base.Ns mainGlobals mg → FnOk l.prog w (K w.params) mg base (CX w) k fa fd [x] (sp w))
    (hsp : ∀ (w : World) (H : Hp) (a : Addr) (ns : List Int), ns.length ≤ n → Only H → SqL (K w.params) H a (ns.map V.int) → sp w [.ref a] H (fun v _ => v = .bl true) fun _ _ _ => False)
    (hCX : ∀ (w : World) (H : Hp) (s : Shared) (e : Value) (s' : Shared), CX w [] H s (fun _ _ _ => False) e s' → False) :
    PySem.W.WalkO q loose XP YP l.row.toRowW d [] (fun f vs => PySem.call f vs) := by
  refine Att.attach_call hn hdf fun w s₀ s₁ mg mb fa o pm cd doc a vs ns G Y ho hd hcd hmg hobj hints hlen hg => ?_
  have KX := hY w _ Y
  obtain ⟨fd, hb, hF⟩ := F w mg fa _ KX G.T.g hmg
  exact law_call KX G.T.g G.T.b G.T.builtins G.T.nolimit hg hobj hints (Nat.le_trans hlen hn2) hr hF hb (fun H hO hS => hsp w H a ns hlen hO hS) fun H e s' => hCX w H s₁ e s'
end L2
namespace L2
open PySem PySem.Spec PyProof.Rows
noncomputable def defArgs (s : Stmt) : Arguments := match s with
  | .FunctionDef _ a _ _ _ _ _ _ _ _ => a
  | _ => { posonlyargs := [], args := [], vararg := none, kwonlyargs := [], kw_defaults := [], kwarg := none, defaults := [] }
noncomputable def defBody (s : Stmt) : List Stmt := match s with
  | .FunctionDef _ _ b _ _ _ _ _ _ _ => b
  | _ => []
noncomputable def defScope (s : Stmt) : Scope := match s with
  | .FunctionDef _ _ _ _ _ _ sc _ _ _ => sc
  | _ => { kind := .function, names := [], isGenerator := false, isCoroutine := false }
noncomputable abbrev CX0 : CXT := fun _ _ _ _ _ _ => False
noncomputable abbrev E0 : XK := fun _ _ _ => False
theorem pass0 {X : Cx} : Passes CX0 X E0 := fun _ _ _ _ _ _ _ h => h.elim
structure Fun (K : PySem.W.Frag) (x qual : Str) (st : Stmt) (f : Addr) (fd : FuncData) : Prop where
  ex : ∃ (oc : Value) (od : Option Addr) (kV doc pm : Value) (an : Option Addr) (cdv ct : Value) (osl : Array (Option Value)),
    fd = PySem.W.fnOf x qual (defArgs st) (defBody st) (defScope st) .none kV doc pm an cdv ct ∧ K.lookup f = some ⟨oc, od, .func fd, osl⟩ ∧ PySem.W.codeIn K cdv qual = true
  kp : PySem.W.keepIn K (.ref f) = true
section
variable {P : Program} {w : World} {K : PySem.W.Frag} {mg : Str → Option Value} {base : Heap}
theorem Fun.ok {x qual : Str} {st : Stmt} {f : Addr} {fd : FuncData} {N ps : List Str} {k : Nat} {sp : Sp} (F : Fun K x qual st f fd) (S : FnScope N ps (defScope st)) (len : ∀ vs H Q E, sp vs H Q E → vs.length = ps.length)
    (hbody : ∀ (cdv : Value) (A : Around) (outer : List Env) (s : Shared) (H : Hp) (vs : List V) (Q : VK) (E : XK), Room k (A.deeper (envOfC qual (defScope st) s.heap.objs.size f cdv)) → sp vs H Q E →
      ∃ t, PSs (cxOf CX0 P w K mg base N qual (defScope st) f cdv A outer s H E).nox (defBody st) t ∧ t { nx := fun _ H' => Q .non H', rt := Q } (start N vs) H) : FnOk P w K mg base CX0 (k + 1) f fd ps sp := by
  obtain ⟨oc, od, kV, doc, pm, an, cdv, ct, osl, rfl, lk, hcd⟩ := F.ex
  refine fn_of lk hcd S len fun A outer s H vs Q E hr hsp => ?_
  obtain ⟨t, h, q⟩ := hbody cdv A outer s H vs Q E hr hsp
  exact ⟨t, h.nox, q⟩
theorem Fun.binds {x qual : Str} {st : Stmt} {f : Addr} {fd : FuncData} {ps : List Str} (F : Fun K x qual st f fd)
    (h : ∀ (kV doc pm : Value) (an : Option Addr) (cdv ct : Value) (us : List Value), us.length = ps.length → bindArgs (PySem.W.fnOf x qual (defArgs st) (defBody st) (defScope st) .none kV doc pm an cdv ct) ⟨us, []⟩ = pure (ps.zip us)) : Binds K fd ps [] := by
  obtain ⟨oc, od, kV, doc, pm, an, cdv, ct, osl, rfl, lk, hcd⟩ := F.ex
  exact .all (h kV doc pm an cdv ct)
theorem fun_mk {x qual : Str} {st : Stmt} {f : Addr} {oc : Value} {od an : Option Addr} {osl : Array (Option Value)} {kV doc pm cdv ct : Value} (l : K.lookup f = some ⟨oc, od, .func (PySem.W.fnOf x qual (defArgs st) (defBody st) (defScope st) .none kV doc pm an cdv ct), osl⟩)
    (c : PySem.W.codeIn K cdv qual = true) (k : PySem.W.keepIn K (.ref f) = true) : Fun K x qual st f (PySem.W.fnOf x qual (defArgs st) (defBody st) (defScope st) .none kV doc pm an cdv ct) := ⟨⟨oc, od, kV, doc, pm, an, cdv, ct, osl, rfl, l, c⟩, k⟩
end
section
variable {X : Cx}
end
theorem iteF {A B : Prop} (h : B) : if false = true then A else B := by
  rw [if_neg Bool.false_ne_true]
  exact h
theorem iteT {A B : Prop} (h : A) : if true = true then A else B := by
  rw [if_pos rfl]
  exact h
theorem ite2 {c A B : Prop} [Decidable c] (h1 : c → A) (h2 : ¬ c → B) : if c then A else B := by
  by_cases h : c
  · rw [if_pos h]
    exact h1 h
  · rw [if_neg h]
    exact h2 h
noncomputable def Same (H H' : Hp) : Prop := ∀ b o, H b = some o → H' b = some o
theorem Same.refl (H : Hp) : Same H H := fun _ _ h => h
theorem Same.trans {H H1 H2 : Hp} (a : Same H H1) (b : Same H1 H2) : Same H H2 := fun c o h => b c o (a c o h)
theorem Same.free {H H' : Hp} (e : Same H H') {l : Addr} (h : H' l = Option.none) : H l = Option.none := by
  cases q : H l with
  | none => rfl
  | some o =>
    rw [e l o q] at h
    cases h
theorem Same.seq {K : PySem.W.Frag} {H H' : Hp} {a : Addr} {xs : List V} (e : Same H H') (h : SqL K H a xs) : SqL K H' a xs := by
  rcases h with (h | ⟨o, h⟩) | h
  · exact .inl (.inl (e _ _ h))
  · exact .inl (.inr ⟨o, e _ _ h⟩)
  · exact .inr h
end L2
namespace Dl
open PySem PySem.Spec PyProof.Rows L2
inductive D where
  | non | bl (b : Bool) | int (i : Int) | str (x : Str) | tup (l : List D) | lst (l : List D)
  deriving Inhabited
mutual
inductive Den (K : PySem.W.Frag) (G : Hp) : V → D → Prop
  | non : Den K G .non .non
  | bl (b : Bool) : Den K G (.bl b) (.bl b)
  | int (i : Int) : Den K G (.int i) (.int i)
  | str (x : Str) : Den K G (.str x) (.str x)
  | tup {a : Addr} {vs : List V} {ds : List D} : SqT K G a vs → DenL K G vs ds → Den K G (.ref a) (.tup ds)
  | lst {a : Addr} {vs : List V} {ds : List D} : SqL K G a vs → DenL K G vs ds → Den K G (.ref a) (.lst ds)
inductive DenL (K : PySem.W.Frag) (G : Hp) : List V → List D → Prop
  | nil : DenL K G [] []
  | cons {v : V} {d : D} {vs : List V} {ds : List D} : Den K G v d → DenL K G vs ds → DenL K G (v :: vs) (d :: ds)
end
theorem Same.tupS {K : PySem.W.Frag} {H H' : Hp} {a : Addr} {xs : List V} (e : Same H H') (h : SqT K H a xs) : SqT K H' a xs := by
  rcases h with (h | ⟨o, h⟩) | h
  · exact .inl (.inl (e _ _ h))
  · exact .inl (.inr ⟨o, e _ _ h⟩)
  · exact .inr h
section
variable {K : PySem.W.Frag} {G G' : Hp}
mutual
theorem Den.up (e : Same G G') : ∀ {v : V} {d : D}, Den K G v d → Den K G' v d
  | _, _, .non => .non
  | _, _, .bl b => .bl b
  | _, _, .int i => .int i
  | _, _, .str x => .str x
  | _, _, .tup h l => .tup (Same.tupS e h) (DenL.up e l)
  | _, _, .lst h l => .lst (e.seq h) (DenL.up e l)
theorem DenL.up (e : Same G G') : ∀ {vs : List V} {ds : List D}, DenL K G vs ds → DenL K G' vs ds
  | _, _, .nil => .nil
  | _, _, .cons h t => .cons (Den.up e h) (DenL.up e t)
end
theorem DenL.length : ∀ {vs : List V} {ds : List D}, DenL K G vs ds → vs.length = ds.length
  | _, _, .nil => rfl
  | _, _, .cons _ t => by simp [DenL.length t]
theorem DenL.get : ∀ {vs : List V} {ds : List D} {i : Nat} {d : D}, DenL K G vs ds → ds[i]? = some d → ∃ v, vs[i]? = some v ∧ Den K G v d
  | _, _, _, _, .nil, e => by simp at e
  | _, _, 0, _, .cons h _, e => by simp at e; subst e; exact ⟨_, rfl, h⟩
  | _, _, i + 1, _, .cons _ t, e => by
    obtain ⟨v, h1, h2⟩ := DenL.get (i := i) t (by simpa using e)
    exact ⟨v, by simpa using h1, h2⟩
theorem DenL.getV : ∀ {vs : List V} {ds : List D} {i : Nat} {v : V}, DenL K G vs ds → vs[i]? = some v → ∃ d, ds[i]? = some d ∧ Den K G v d
  | _, _, _, _, .nil, e => by simp at e
  | _, _, 0, _, .cons h _, e => by simp at e; subst e; exact ⟨_, rfl, h⟩
  | _, _, i + 1, _, .cons _ t, e => by
    obtain ⟨v, h1, h2⟩ := DenL.getV (i := i) t (by simpa using e)
    exact ⟨v, by simpa using h1, h2⟩
theorem DenL.append : ∀ {vs ws : List V} {ds es : List D}, DenL K G vs ds → DenL K G ws es → DenL K G (vs ++ ws) (ds ++ es)
  | _, _, _, _, .nil, h => h
  | _, _, _, _, .cons a t, h => .cons a (DenL.append t h)
theorem DenL.take : ∀ {vs : List V} {ds : List D} (n : Nat), DenL K G vs ds → DenL K G (vs.take n) (ds.take n)
  | _, _, 0, _ => .nil
  | _, _, _ + 1, .nil => .nil
  | _, _, n + 1, .cons a t => .cons a (DenL.take n t)
theorem DenL.drop : ∀ {vs : List V} {ds : List D} (n : Nat), DenL K G vs ds → DenL K G (vs.drop n) (ds.drop n)
  | _, _, 0, h => h
  | _, _, _ + 1, .nil => .nil
  | _, _, n + 1, .cons _ t => DenL.drop n t
theorem DenL.ints : ∀ (ns : List Int), DenL K G (ns.map V.int) (ns.map D.int)
  | [] => .nil
  | _ :: r => .cons (.int _) (DenL.ints r)
theorem Den.int_inv {v : V} {i : Int} (h : Den K G v (.int i)) : v = .int i := by cases h; rfl
theorem Den.bl_inv {v : V} {i : Bool} (h : Den K G v (.bl i)) : v = .bl i := by cases h; rfl
theorem Den.str_inv {v : V} {i : Str} (h : Den K G v (.str i)) : v = .str i := by cases h; rfl
theorem Den.non_inv {v : V} (h : Den K G v .non) : v = .non := by cases h; rfl
theorem Den.tup_inv {v : V} {l : List D} (h : Den K G v (.tup l)) : ∃ a vs, v = .ref a ∧ SqT K G a vs ∧ DenL K G vs l := by
  cases h with | tup h t => exact ⟨_, _, rfl, h, t⟩
theorem Den.lst_inv {v : V} {l : List D} (h : Den K G v (.lst l)) : ∃ a vs, v = .ref a ∧ SqL K G a vs ∧ DenL K G vs l := by
  cases h with | lst h t => exact ⟨_, _, rfl, h, t⟩
end
inductive Fl where
  | sh (d : D) | ow (l : List D) | dc (kvs : List (Key × D)) | fz (q : Nat) (kvs : List (Key × D))
  deriving Inhabited
inductive Sl where
  | no | sh (d : D) | ow (l : List D) | mu (a : Nat) (l : List D) | ob (h : Option Nat) (C : Nat) (fs : List (Str × Fl)) | pt (a : Nat) | rc (h : Option Nat) (fs : List (Str × Fl))
noncomputable abbrev Ev := List Sl
structure En where
  G : Hp
  H : Hp
  M : Addr → Prop
noncomputable abbrev Ow := Addr → Option (Nat × Str)
inductive DenK (K : PySem.W.Frag) (G : Hp) : List (Key × V) → List (Key × D) → Prop
  | nil : DenK K G [] []
  | cons {k : Key} {v : V} {d : D} {r : List (Key × V)} {s : List (Key × D)} : Den K G v d → DenK K G r s → DenK K G ((k, v) :: r) ((k, d) :: s)
theorem DenK.up {K : PySem.W.Frag} {G G' : Hp} {vs : List (Key × V)} {ds : List (Key × D)} (hG : Same G G') (h : DenK K G vs ds) : DenK K G' vs ds := by
  induction h with
  | nil => exact .nil
  | cons a _ ih => exact .cons (Den.up hG a) ih
noncomputable def FlW (K : PySem.W.Frag) (G H : Hp) (ow : Ow) (i : Nat) (f : Str) (v : V) : Fl → Prop
  | .sh d => Den K G v d
  | .ow l => ∃ q vs, v = .ref q ∧ H q = some (.lst vs) ∧ ow q = some (i, f) ∧ DenL K G vs l
  | .dc kvs => ∃ q vs, v = .ref q ∧ H q = some (.dK vs) ∧ ow q = some (i, f) ∧ DenK K G vs kvs
  | .fz q kvs => ∃ ob vs, v = .ref q ∧ G q = some (.frz ob (.dK vs)) ∧ DenK K G vs kvs
noncomputable def kx (p : Str × V) : Key × V := (Sum.inr p.1, p.2)
structure FsW (K : PySem.W.Frag) (G H : Hp) (ow : Ow) (i : Nat) (vfs : List (Str × V)) (fs : List (Str × Fl)) : Prop where
  keys : vfs.map (·.1) = fs.map (·.1)
  at_ : ∀ f s, fs.lookup f = some s → ∃ v, vfs.lookup f = some v ∧ FlW K G H ow i f v s
noncomputable def SlW (K : PySem.W.Frag) (n : En) (G H : Hp) (ow : Ow) (i : Nat) (o : Option (Option V)) : Sl → Prop
  | .no => True
  | .sh d => ∃ v, o = some (some v) ∧ Den K G v d
  | .ow l => ∃ p vs, o = some (some (.ref p)) ∧ H p = some (.lst vs) ∧ n.H p = none ∧ ow p = some (i, ("" : Str)) ∧ DenL K G vs l
  | .mu a l => ∃ vs, o = some (some (.ref a)) ∧ H a = some (.lst vs) ∧ ow a = some (i, ("" : Str)) ∧ DenL K G vs l
  | .ob h C fs => ∃ a dx vfs, o = some (some (.ref a)) ∧ (∀ a0, h = some a0 → a = a0) ∧ H a = some (.ins C dx vfs) ∧ H dx = some (.own a) ∧ ow a = some (i, ("" : Str)) ∧ ow dx = some (i, ("" : Str)) ∧ FsW K G H ow i vfs fs
  | .pt a => o = some (some (.ref a))
  | .rc h fs => ∃ a vfs, o = some (some (.ref a)) ∧ (∀ a0, h = some a0 → a = a0) ∧ H a = some (.dK (vfs.map kx)) ∧ ow a = some (i, ("" : Str)) ∧ FsW K G H ow i vfs fs
noncomputable def SlOk (K : PySem.W.Frag) (n : En) (G H : Hp) (o : Option (Option V)) : Sl → Prop
  | .no => True
  | .sh d => ∃ v, o = some (some v) ∧ Den K G v d
  | .ow l => ∃ p vs, o = some (some (.ref p)) ∧ H p = some (.lst vs) ∧ G p = none ∧ n.H p = none ∧ DenL K G vs l
  | .mu a l => ∃ vs, o = some (some (.ref a)) ∧ H a = some (.lst vs) ∧ G a = none ∧ DenL K G vs l
  | .ob h C fs => ∃ a dx vfs, o = some (some (.ref a)) ∧ (∀ a0, h = some a0 → a = a0) ∧ H a = some (.ins C dx vfs) ∧ H dx = some (.own a) ∧ ∃ ow i, FsW K G H ow i vfs fs
  | .pt a => o = some (some (.ref a))
  | .rc h fs => ∃ a vfs, o = some (some (.ref a)) ∧ (∀ a0, h = some a0 → a = a0) ∧ H a = some (.dK (vfs.map kx)) ∧ ∃ ow i, FsW K G H ow i vfs fs
structure OwOk (n : En) (G H : Hp) (ow : Ow) : Prop where
  is : ∀ p k, ow p = some k → G p = none ∧ H p ≠ none ∧ (n.H p = none ∨ n.M p)
structure Rel (K : PySem.W.Frag) (n : En) (δ : Ev) (σ : L2.St) (G H : Hp) : Prop where
  sub : Same G H
  eg : Same n.G G
  eh : ∀ b o, n.H b = some o → ¬ n.M b → H b = some o
  al : ∀ b, H b = none → n.H b = none
  fr : ∀ b o, G b = some o → n.G b = none → n.H b = none
  gh : ∃ ow : Ow, OwOk n G H ow ∧ ∀ (i : Nat) (s : Sl), δ[i]? = some s → SlW K n G H ow i σ[i]? s
  len : δ.length = σ.length
section
variable {K : PySem.W.Frag} {n : En} {δ δ' : Ev} {σ σ' : L2.St} {G H G' H' : Hp} {p : Addr} {o : HO} {ow ow' : Ow} {i i' : Nat}
theorem FlW.keep {f : Str} {v : V} {s : Fl} (hG : Same G G') (hO : ∀ p f, ow p = some (i, f) → ow' p = some (i', f)) (hH : ∀ p f o, ow p = some (i, f) → H p = some o → H' p = some o) (h : FlW K G H ow i f v s) : FlW K G' H' ow' i' f v s := by
  cases s with
  | sh d => exact Den.up hG h
  | ow l => obtain ⟨q, vs, h1, h2, h3, h4⟩ := h; exact ⟨q, vs, h1, hH _ _ _ h3 h2, hO _ _ h3, h4.up hG⟩
  | dc l => obtain ⟨q, vs, h1, h2, h3, h4⟩ := h; exact ⟨q, vs, h1, hH _ _ _ h3 h2, hO _ _ h3, h4.up hG⟩
  | fz q l => obtain ⟨ob, vs, h1, h2, h3⟩ := h; exact ⟨ob, vs, h1, hG _ _ h2, h3.up hG⟩
theorem FsW.keep {vfs : List (Str × V)} {fs : List (Str × Fl)} (hG : Same G G') (hO : ∀ p f, ow p = some (i, f) → ow' p = some (i', f)) (hH : ∀ p f o, ow p = some (i, f) → H p = some o → H' p = some o) (h : FsW K G H ow i vfs fs) : FsW K G' H' ow' i' vfs fs :=
  ⟨h.keys, fun f s e => let ⟨v, h1, h2⟩ := h.at_ f s e; ⟨v, h1, h2.keep hG hO hH⟩⟩
theorem SlW.keep {s : Sl} {x : Option (Option V)} (hG : Same G G') (hO : ∀ p f, ow p = some (i, f) → ow' p = some (i', f)) (hH : ∀ p f o, ow p = some (i, f) → H p = some o → H' p = some o) (h : SlW K n G H ow i x s) : SlW K n G' H' ow' i' x s := by
  cases s with
  | no => trivial
  | sh d => obtain ⟨v, h1, h2⟩ := h; exact ⟨v, h1, h2.up hG⟩
  | ow l => obtain ⟨p, vs, h1, h2, h3, h4, h5⟩ := h; exact ⟨p, vs, h1, hH _ _ _ h4 h2, h3, hO _ _ h4, h5.up hG⟩
  | mu a l => obtain ⟨vs, h1, h2, h4, h5⟩ := h; exact ⟨vs, h1, hH _ _ _ h4 h2, hO _ _ h4, h5.up hG⟩
  | ob q C fs => obtain ⟨a, dx, vfs, h1, h2, h3, h4, h5, h6, h7⟩ := h; exact ⟨a, dx, vfs, h1, h2, hH _ _ _ h5 h3, hH _ _ _ h6 h4, hO _ _ h5, hO _ _ h6, h7.keep hG hO hH⟩
  | pt a => exact h
  | rc q fs => obtain ⟨a, vfs, h1, h2, h3, h5, h7⟩ := h; exact ⟨a, vfs, h1, h2, hH _ _ _ h5 h3, hO _ _ h5, h7.keep hG hO hH⟩
theorem Rel.sl (R : Rel K n δ σ G H) (i : Nat) (s : Sl) (hs : δ[i]? = some s) : SlOk K n G H σ[i]? s := by
  obtain ⟨ow, ok, gh⟩ := R.gh
  have h := gh i s hs
  cases s with
  | no => trivial
  | sh d => exact h
  | ow l => obtain ⟨p, vs, h1, h2, h3, h4, h5⟩ := h; exact ⟨p, vs, h1, h2, (ok.is _ _ h4).1, h3, h5⟩
  | mu a l => obtain ⟨vs, h1, h2, h4, h5⟩ := h; exact ⟨vs, h1, h2, (ok.is _ _ h4).1, h5⟩
  | ob q C fs => obtain ⟨a, dx, vfs, h1, h2, h3, h4, h5, h6, h7⟩ := h; exact ⟨a, dx, vfs, h1, h2, h3, h4, ow, i, h7⟩
  | pt a => exact h
  | rc q fs => obtain ⟨a, vfs, h1, h2, h3, h5, h7⟩ := h; exact ⟨a, vfs, h1, h2, h3, ow, i, h7⟩
end
structure Ext (G H G' H' : Hp) : Prop where
  gg : Same G G'
  gh : Same G' H'
  hh : Same H H'
  fr : ∀ b o, G' b = some o → G b = none → H b = none
theorem same_upd {H : Hp} {p : Addr} (h : H p = none) (o : HO) : Same H (upd H p o) := fun b u q => by rw [upd_ne (ne_of_none q h)]; exact q
theorem Ext.refl {G H : Hp} (s : Same G H) : Ext G H G H := ⟨Same.refl _, s, Same.refl _, fun b o e e0 => (by rw [e0] at e; cases e)⟩
theorem Ext.laid {G H : Hp} {p : Addr} (s : Same G H) (h : H p = none) (o : HO) : Ext G H (upd G p o) (upd H p o) := by
  have hG : G p = none := s.free h
  refine ⟨same_upd hG o, fun b u e => ?_, same_upd h o, fun b u e e0 => ?_⟩
  · by_cases hb : b = p
    · subst hb; rw [upd_same] at e ⊢; exact e
    · rw [upd_ne hb] at e ⊢; exact s b u e
  · by_cases hb : b = p
    · subst hb; exact h
    · rw [upd_ne hb, e0] at e; cases e
theorem Ext.trans {G H G1 H1 G2 H2 : Hp} (a : Ext G H G1 H1) (b : Ext G1 H1 G2 H2) : Ext G H G2 H2 := by
  refine ⟨a.gg.trans b.gg, b.gh, a.hh.trans b.hh, fun c o e e0 => ?_⟩
  cases q : G1 c with
  | none => exact a.hh.free (b.fr c o e q)
  | some u => exact a.fr c u q e0
theorem upd_some {H : Hp} {p b : Addr} {o : HO} (h : H b ≠ none) : upd H p o b ≠ none := by
  by_cases hb : b = p
  · subst hb; rw [upd_same]; exact fun z => by cases z
  · rw [upd_ne hb]; exact h
theorem same_some {H H' : Hp} (s : Same H H') {b : Addr} (h : H b ≠ none) : H' b ≠ none := fun z => h (s.free z)
noncomputable def owSet (ow : Ow) (p : Addr) (k : Option (Nat × Str)) : Ow := fun b => if b = p then k else ow b
theorem owSet_same {ow : Ow} {p : Addr} {k : Option (Nat × Str)} : owSet ow p k p = k := if_pos rfl
theorem owSet_ne {ow : Ow} {p b : Addr} {k : Option (Nat × Str)} (h : b ≠ p) : owSet ow p k b = ow b := if_neg h
section
variable {K : PySem.W.Frag} {n : En} {δ δ' : Ev} {σ σ' : L2.St} {G H G' H' : Hp} {p : Addr} {o : HO}
theorem Rel.ext (R : Rel K n δ σ G H) (e : Ext G H G' H') : Rel K n δ σ G' H' := by
  obtain ⟨ow, ok, gh⟩ := R.gh
  refine ⟨e.gh, R.eg.trans e.gg, fun b u q m => e.hh b u (R.eh b u q m), fun b q => R.al b (e.hh.free q), fun b u q q0 => ?_, ⟨ow, ⟨fun p k hk => ?_⟩, fun i s hs => (gh i s hs).keep e.gg (fun _ _ z => z) fun p f u _ z => e.hh p u z⟩, R.len⟩
  · cases h : G b with
    | none => exact R.al b (e.fr b u q h)
    | some w => exact R.fr b w h q0
  · obtain ⟨h1, h2, h3⟩ := ok.is p k hk
    refine ⟨?_, same_some e.hh h2, h3⟩
    cases q : G' p with
    | none => rfl
    | some w => exact absurd (e.fr p w q h1) h2
theorem Rel.laid (R : Rel K n δ σ G H) (h : H p = none) (o : HO) : Rel K n δ σ (upd G p o) (upd H p o) := R.ext (.laid R.sub h o)
theorem set_get {α : Type} {l : List α} {i j : Nat} {a b : α} (h : (l.set i a)[j]? = some b) : (i = j ∧ b = a ∧ i < l.length) ∨ (i ≠ j ∧ l[j]? = some b) := by
  by_cases e : i = j
  · subst e
    rw [List.getElem?_set_self'] at h
    cases q : l[i]? with
    | none => rw [q] at h; cases h
    | some w =>
      rw [q] at h
      have hb : a = b := by simpa using h
      have := List.getElem?_eq_some_iff.mp q
      exact .inl ⟨rfl, hb.symm, this.1⟩
  · rw [List.getElem?_set_ne e] at h
    exact .inr ⟨e, h⟩
theorem Rel.set (R : Rel K n δ σ G H) {v : V} {d : D} (i : Nat) (hv : Den K G v d) : Rel K n (δ.set i (.sh d)) (σ.set i (some v)) G H := by
  obtain ⟨ow, ok, gh⟩ := R.gh
  refine ⟨R.sub, R.eg, R.eh, R.al, R.fr, ⟨ow, ok, fun j s hs => ?_⟩, by rw [List.length_set, List.length_set]; exact R.len⟩
  rcases set_get hs with ⟨e, rfl, hl⟩ | ⟨e, hs⟩
  · subst e
    refine ⟨v, ?_, hv⟩
    rw [List.getElem?_set_self (Nat.lt_of_lt_of_le hl (Nat.le_of_eq R.len))]
  · rw [List.getElem?_set_ne e]
    exact gh j s hs
theorem Rel.own (R : Rel K n δ σ G H) {vs : List V} {ds : List D} (i : Nat) (hp : H p = none) (hv : DenL K G vs ds) : Rel K n (δ.set i (.ow ds)) (σ.set i (some (.ref p))) G (upd H p (.lst vs)) := by
  obtain ⟨ow, ok, gh⟩ := R.gh
  have hG : G p = none := R.sub.free hp
  have hne : ∀ b k, ow b = some k → b ≠ p := fun b k hk z => by subst z; exact (ok.is _ _ hk).2.1 hp
  refine ⟨R.sub.trans (same_upd hp _), R.eg, fun b u q m => same_upd hp _ b u (R.eh b u q m), fun b q => R.al b ((same_upd hp _).free q), R.fr, ⟨owSet ow p (some (i, ("" : Str))), ⟨fun b k hk => ?_⟩, fun j s hs => ?_⟩, by rw [List.length_set, List.length_set]; exact R.len⟩
  · by_cases hb : b = p
    · subst hb; exact ⟨hG, by rw [upd_same]; exact (fun z => by cases z), .inl (R.al _ hp)⟩
    · rw [owSet_ne hb] at hk
      obtain ⟨h1, h2, h3⟩ := ok.is b k hk
      exact ⟨h1, upd_some h2, h3⟩
  · rcases set_get hs with ⟨e, rfl, hl⟩ | ⟨e, hs⟩
    · subst e
      exact ⟨p, vs, List.getElem?_set_self (Nat.lt_of_lt_of_le hl (Nat.le_of_eq R.len)), upd_same, R.al p hp, owSet_same, hv⟩
    · rw [List.getElem?_set_ne e]
      exact (gh j s hs).keep (Same.refl _) (fun b f z => by rw [owSet_ne (hne _ _ z)]; exact z) fun b f u z q => by rw [upd_ne (hne _ _ z)]; exact q
theorem Rel.freeze (R : Rel K n δ σ G H) {l : List D} {i : Nat} (hi : δ[i]? = some (.ow l)) : ∃ G', Rel K n (δ.set i (.sh (.lst l))) σ G' H ∧ Same G G' := by
  obtain ⟨ow, ok, gh⟩ := R.gh
  obtain ⟨p, vs, g1, g2, g4, g6, g5⟩ := gh i _ hi
  have g3 := (ok.is _ _ g6).1
  have s1 : Same G (upd G p (.lst vs)) := same_upd g3 _
  refine ⟨upd G p (.lst vs), ⟨fun b u e => ?_, R.eg.trans s1, R.eh, R.al, fun b u e e0 => ?_, ⟨owSet ow p none, ⟨fun b k hk => ?_⟩, fun j s hs => ?_⟩, by rw [List.length_set]; exact R.len⟩, s1⟩
  · by_cases hb : b = p
    · subst hb; rw [upd_same] at e; rw [g2]; exact e
    · rw [upd_ne hb] at e; exact R.sub b u e
  · by_cases hb : b = p
    · subst hb; exact g4
    · rw [upd_ne hb] at e; exact R.fr b u e e0
  · by_cases hb : b = p
    · subst hb; rw [owSet_same] at hk; cases hk
    · rw [owSet_ne hb] at hk; rw [upd_ne hb]; exact ok.is b k hk
  · rcases set_get hs with ⟨e, rfl, hl⟩ | ⟨e, hs⟩
    · subst e
      exact ⟨.ref p, g1, .lst (SqL.of upd_same) (g5.up s1)⟩
    · refine (gh j s hs).keep s1 (fun b f z => ?_) fun _ _ _ _ q => q
      have : b ≠ p := fun w => by subst w; rw [g6] at z; cases z; exact e rfl
      rw [owSet_ne this]; exact z
theorem Rel.change (R : Rel K n δ σ G H) {l : List D} {i : Nat} (hi : δ[i]? = some (.ow l)) (hp : σ[i]? = some (some (.ref p))) {vs : List V} {ds : List D} (hv : DenL K G vs ds) :
    Rel K n (δ.set i (.ow ds)) σ G (upd H p (.lst vs)) := by
  obtain ⟨ow, ok, gh⟩ := R.gh
  obtain ⟨q, ws, g1, g2, g4, g6, g5⟩ := gh i _ hi
  have g3 := (ok.is _ _ g6).1
  rw [hp] at g1; cases g1
  have ne : ∀ b u, G b = some u → b ≠ p := fun b u e z => by subst z; rw [g3] at e; cases e
  refine ⟨fun b u e => by rw [upd_ne (ne b u e)]; exact R.sub b u e, R.eg, fun b u q m => ?_, fun b q => ?_, R.fr, ⟨ow, ⟨fun b k hk => ?_⟩, fun j s hs => ?_⟩, by rw [List.length_set]; exact R.len⟩
  · have : b ≠ p := fun z => by subst z; rw [g4] at q; cases q
    rw [upd_ne this]; exact R.eh b u q m
  · by_cases hb : b = p
    · subst hb; exact g4
    · rw [upd_ne hb] at q; exact R.al b q
  · obtain ⟨h1, h2, h3⟩ := ok.is b k hk; exact ⟨h1, upd_some h2, h3⟩
  · rcases set_get hs with ⟨e, rfl, hl⟩ | ⟨e, hs⟩
    · subst e
      exact ⟨p, vs, hp, upd_same, g4, g6, hv⟩
    · refine (gh j s hs).keep (Same.refl _) (fun _ _ z => z) fun b f u z q => ?_
      have : b ≠ p := fun w => by subst w; rw [g6] at z; cases z; exact e rfl
      rw [upd_ne this]; exact q
theorem Rel.rebase (R : Rel K n δ σ G H) : Rel K ⟨G, n.H, n.M⟩ δ σ G H := by
  obtain ⟨ow, ok, gh⟩ := R.gh
  refine ⟨R.sub, Same.refl _, R.eh, R.al, fun b o e (e0 : G b = none) => (by rw [e0] at e; cases e), ⟨ow, ⟨ok.is⟩, fun i s hs => ?_⟩, R.len⟩
  have h := gh i s hs
  cases s <;> exact h
theorem Rel.unbase (R : Rel K n δ σ G H) (S : Rel K ⟨G, n.H, n.M⟩ δ' σ' G' H') : Rel K n δ' σ' G' H' := by
  obtain ⟨ow, ok, gh⟩ := S.gh
  refine ⟨S.sub, R.eg.trans S.eg, S.eh, S.al, fun b o e e0 => (by
    cases q : G b with
    | none => exact S.fr b o e q
    | some w => exact R.fr b w q e0), ⟨ow, ⟨ok.is⟩, fun i s hs => ?_⟩, S.len⟩
  have h := gh i s hs
  cases s <;> exact h
end
section
variable {K : PySem.W.Frag} {n : En} {δ : Ev} {σ : L2.St} {G H : Hp} {D₀ : Addr} {o u : HO}
theorem Rel.notOwn (R : Rel K n δ σ G H) (h : H D₀ = none) : H D₀ = none := h
theorem Rel.other (R : Rel K n δ σ G H) (hG : G D₀ = none) (hn : n.H D₀ = none) (ho : H D₀ = none) (o : HO) : Rel K n δ σ G (upd H D₀ o) :=
  R.ext ⟨Same.refl _, R.sub.trans (same_upd ho o), same_upd ho o, fun b v e e0 => (by rw [e0] at e; cases e)⟩
noncomputable def del (H : Hp) (D₀ : Addr) : Hp := fun b => if b = D₀ then none else H b
theorem del_same : del H D₀ D₀ = none := if_pos rfl
theorem del_ne {b : Addr} (h : b ≠ D₀) : del H D₀ b = H b := if_neg h
theorem del_none (h : H D₀ = none) : del H D₀ = H := by
  funext b
  by_cases hb : b = D₀
  · subst hb; rw [del_same, h]
  · exact del_ne hb
theorem del_upd : del (upd H D₀ o) D₀ = del H D₀ := by
  funext b
  by_cases hb : b = D₀
  · subst hb; rw [del_same, del_same]
  · rw [del_ne hb, del_ne hb, upd_ne hb]
theorem upd_del (h : H D₀ = some o) : upd (del H D₀) D₀ o = H := by
  funext b
  by_cases hb : b = D₀
  · subst hb; rw [upd_same, h]
  · rw [upd_ne hb, del_ne hb]
theorem Ext.del {G' H' : Hp} (e : Ext G H G' H') (h : G' D₀ = none) : Ext G (del H D₀) G' (Dl.del H' D₀) := by
  refine ⟨e.gg, fun b v q => ?_, fun b v q => ?_, fun b v q q0 => ?_⟩
  · rw [del_ne (ne_of_none q h)]; exact e.gh b v q
  · by_cases hb : b = D₀
    · subst hb; rw [del_same] at q; cases q
    · rw [del_ne hb] at q ⊢; exact e.hh b v q
  · rw [del_ne (ne_of_none q h)]; exact e.fr b v q q0
theorem Rel.know (R : Rel K n δ σ G (del H D₀)) (hH : H D₀ = some o) : Rel K n δ σ (upd G D₀ o) H := by
  have z := R.laid (p := D₀) del_same o
  rwa [upd_del hH] at z
theorem Rel.undel (R : Rel K n δ σ G (del H D₀)) (hH : H D₀ = some o) : Rel K n δ σ G H := by
  have z := R.other (R.sub.free del_same) (R.al _ del_same) del_same o
  rwa [upd_del hH] at z
noncomputable def dropOw (δ : Ev) : Ev := δ.map fun s => match s with
  | .sh d => .sh d
  | _ => .no
theorem Rel.inner (R : Rel K n δ σ G H) (k : Nat) : Rel K ⟨G, H, fun _ => False⟩ (dropOw δ ++ List.replicate k .no) (σ ++ List.replicate k none) G H := by
  refine ⟨R.sub, Same.refl _, fun b o e _ => e, fun b e => e, fun b o e (e0 : G b = none) => (by rw [e0] at e; cases e), ⟨fun _ => none, ⟨fun _ _ z => by cases z⟩, fun i s hs => ?_⟩, ?_⟩
  · by_cases hi : i < (dropOw δ).length
    · have hi' : i < σ.length := by rw [← R.len]; simpa [dropOw] using hi
      rw [List.getElem?_append_left hi, dropOw, List.getElem?_map] at hs
      rw [List.getElem?_append_left hi']
      cases q : δ[i]? with
      | none => rw [q] at hs; cases hs
      | some s' =>
        rw [q] at hs
        have h := R.sl i s' q
        cases s' with
        | sh d => cases hs; exact h
        | no => cases hs; trivial
        | ow l => cases hs; trivial
        | mu a l => cases hs; trivial
        | ob h C fs => cases hs; trivial
        | pt a => cases hs; trivial
        | rc h fs => cases hs; trivial
    · rw [List.getElem?_append_right (by omega), List.getElem?_replicate] at hs
      split at hs
      · cases hs; trivial
      · cases hs
  · rw [List.length_append, List.length_append, List.length_replicate, List.length_replicate, dropOw, List.length_map, R.len]
theorem Rel.toExt {G' H' : Hp} (R : Rel K ⟨G, H, fun _ => False⟩ δ σ G' H') : Ext G H G' H' := ⟨R.eg, R.sub, fun b o e => R.eh b o e (fun z => z), fun b o e e0 => R.fr b o e e0⟩
end
end Dl
namespace Dl
open PySem PySem.Spec PyProof.Rows L2
noncomputable abbrev QE := D → Ev → Prop
noncomputable abbrev TEd := Ev → QE → Prop
noncomputable abbrev TAd := Ev → (List D → Ev → Prop) → Prop
noncomputable abbrev TTd := Ev → (Bool → Ev → Prop) → Prop
noncomputable def lE (K : PySem.W.Frag) (t : TEd) : TE := fun σ H Q2 => ∃ (n : En) (δ : Ev) (G : Hp) (Q : QE), Rel K n δ σ G H ∧ t δ Q ∧
  ∀ (v : V) (G' H' : Hp) (d : D) (δ' : Ev), Rel K n δ' σ G' H' → Same G G' → Den K G' v d → Q d δ' → Q2 v H'
theorem lE.el {K : PySem.W.Frag} {t : TEd} {σ H Q2} {P : Prop} (x : lE K t σ H Q2) (k : ∀ (n : En) (δ : Ev) (G : Hp) (Q : QE), (Rel K n δ σ G H) → (t δ Q) → (∀ (v : V) (G' H' : Hp) (d : D) (δ' : Ev), Rel K n δ' σ G' H' → Same G G' → Den K G' v d → Q d δ' → Q2 v H') → P) : P := by
  obtain ⟨n, δ, G, Q, h0, h1, h2⟩ := x
  exact k n δ G Q h0 h1 h2
noncomputable def lA (K : PySem.W.Frag) (t : TAd) : TA := fun σ H Q2 => ∃ (n : En) (δ : Ev) (G : Hp) (Q : List D → Ev → Prop), Rel K n δ σ G H ∧ t δ Q ∧
  ∀ (v : List V) (G' H' : Hp) (d : List D) (δ' : Ev), Rel K n δ' σ G' H' → Same G G' → DenL K G' v d → Q d δ' → Q2 v H'
theorem lA.el {K : PySem.W.Frag} {t : TAd} {σ H Q2} {P : Prop} (x : lA K t σ H Q2) (k : ∀ (n : En) (δ : Ev) (G : Hp) (Q : List D → Ev → Prop), (Rel K n δ σ G H) → (t δ Q) → (∀ (v : List V) (G' H' : Hp) (d : List D) (δ' : Ev), Rel K n δ' σ G' H' → Same G G' → DenL K G' v d → Q d δ' → Q2 v H') → P) : P := by
  obtain ⟨n, δ, G, Q, h0, h1, h2⟩ := x
  exact k n δ G Q h0 h1 h2
noncomputable def lT (K : PySem.W.Frag) (t : TTd) : TT := fun σ H Q2 => ∃ (n : En) (δ : Ev) (G : Hp) (Q : Bool → Ev → Prop), Rel K n δ σ G H ∧ t δ Q ∧
  ∀ (b : Bool) (G' H' : Hp) (δ' : Ev), Rel K n δ' σ G' H' → Same G G' → Q b δ' → Q2 b H'
theorem lT.el {K : PySem.W.Frag} {t : TTd} {σ H Q2} {P : Prop} (x : lT K t σ H Q2) (k : ∀ (n : En) (δ : Ev) (G : Hp) (Q : Bool → Ev → Prop), (Rel K n δ σ G H) → (t δ Q) → (∀ (b : Bool) (G' H' : Hp) (δ' : Ev), Rel K n δ' σ G' H' → Same G G' → Q b δ' → Q2 b H') → P) : P := by
  obtain ⟨n, δ, G, Q, h0, h1, h2⟩ := x
  exact k n δ G Q h0 h1 h2
noncomputable abbrev DE (X : Cx) (e : Expr) (t : TEd) : Prop := PE X e (lE X.K t)
noncomputable abbrev DA (X : Cx) (es : List Expr) (t : TAd) : Prop := PA X es (lA X.K t)
noncomputable abbrev DT (X : Cx) (e : Expr) (t : TTd) : Prop := PT X e (lT X.K t)
noncomputable abbrev DW (X : Cx) (e : Expr) (t : TTd) : Prop := PW X e (lT X.K t)
theorem pe_imp {X : Cx} {e : Expr} {t t' : TE} (h : PE X e t) (hi : ∀ σ H Q, t' σ H Q → t σ H Q) : PE X e t' := fun pins s σ H Q I q => h pins s σ H Q I (hi σ H Q q)
theorem pt_imp {X : Cx} {e : Expr} {t t' : TT} (h : PT X e t) (hi : ∀ σ H Q, t' σ H Q → t σ H Q) : PT X e t' := fun pins s σ H Q I q => h pins s σ H Q I (hi σ H Q q)
theorem pw_imp {X : Cx} {e : Expr} {t t' : TT} (h : PW X e t) (hi : ∀ σ H Q, t' σ H Q → t σ H Q) : PW X e t' := fun wh pins s σ H Q I q => h wh pins s σ H Q I (hi σ H Q q)
theorem pa_imp {X : Cx} {es : List Expr} {t t' : TA} (h : PA X es t) (hi : ∀ σ H Q, t' σ H Q → t σ H Q) : PA X es t' := fun pos pins s σ H Q I q => h pos pins s σ H Q I (hi σ H Q q)
theorem ps_imp {X : Cx} {st : Stmt} {t t' : TS} (h : PS X st t) (hi : ∀ D σ H, t' D σ H → t D σ H) : PS X st t' := fun pins s σ H D I q => h pins s σ H D I (hi D σ H q)
theorem pss_imp {X : Cx} {st : List Stmt} {t t' : TS} (h : PSs X st t) (hi : ∀ D σ H, t' D σ H → t D σ H) : PSs X st t' := fun pins s σ H D I q => h pins s σ H D I (hi D σ H q)
noncomputable def dVar (i : Nat) : TEd := fun δ Q => match δ[i]? with
  | some (.sh d) => Q d δ
  | _ => False
noncomputable def dC (d : D) : TEd := fun δ Q => Q d δ
section
variable {X : Cx} {a b c : Expr} {ta tb tc : TEd} {pos : Pos}
theorem dv (i : Nat) {x : Str} {pos : Pos} (hN : X.N[i]? = some x := by rfl) (hv : Vis X.env.scope x := by first | exact Or.inl rfl | exact Or.inr (Or.inl rfl) | exact Or.inr (Or.inr rfl)) (hd : (x == ("__debug__" : Str)) = false := by decide)
    (hcd : (x == ("__classdict__" : Str)) = false := by decide) : DE X (.Name x pos) (dVar i) :=
  pe_imp (pe_var hN hv hd hcd) fun σ H Q2 hx => hx.el fun n δ G Q R h k => by
    unfold dVar at h
    split at h
    · rename_i d e
      obtain ⟨v, h1, h2⟩ := R.sl i _ e
      exact ⟨v, h1, k v G H d δ R (Same.refl _) h2 h⟩
    · exact h.elim
theorem dc_of {d : D} {v : V} {e : Expr} (h : PE X e (tC v)) (hd : ∀ G, Den X.K G v d) : DE X e (dC d) :=
  pe_imp h fun σ H Q2 hx => hx.el fun n δ G Q R h k => k v G H d δ R (Same.refl _) (hd G) h
theorem de_int {i j pos} : DE X (.Constant (.int i) j pos) (dC (.int i)) := dc_of pe_int fun _ => .int i
theorem de_bl {i j pos} : DE X (.Constant (.bool i) j pos) (dC (.bl i)) := dc_of pe_bl fun _ => .bl i
theorem de_non {j pos} : DE X (.Constant .none j pos) (dC .non) := dc_of pe_non fun _ => .non
theorem de_str {x j pos} : DE X (.Constant (.str x) j pos) (dC (.str x)) := dc_of pe_str fun _ => .str x
theorem de_gint {x : Str} {i : Int} {t : Tok} {pos : Pos} (hm : X.mg x = some (.int i t)) (hg : Gl X x := by rfl) (hd : (x == ("__debug__" : Str)) = false := by decide) : DE X (.Name x pos) (dC (.int i)) :=
  dc_of (v := .int i) (pe_glob hg hm ⟨t, rfl⟩ hd) fun _ => .int i
noncomputable abbrev RD := D → D → (D → Prop) → Prop
noncomputable def dOp (r : RD) (ta tb : TEd) : TEd := fun δ Q => ta δ fun x δ1 => tb δ1 fun y δ2 => r x y fun d => Q d δ2
noncomputable def OpS (K : PySem.W.Frag) (r2 : R2) (r : RD) : Prop := ∀ (G H : Hp) (x y : V) (dx dy : D) (Q : D → Prop) (Q2 : VK), Same G H → Den K G x dx → Den K G y dy → r dx dy Q →
  (∀ (v : V) (G' H' : Hp) (d : D), Ext G H G' H' → Den K G' v d → Q d → Q2 v H') → r2 x y H Q2
theorem OpR.or {f : Value → Value → Sem Value} {r r' : R2} (h : OpR X f r) (h' : OpR X f r') : OpR X f (fun x y H Q => r x y H Q ∨ r' x y H Q) :=
  fun pins s σ H x y v u Q I rx ry q => q.elim (h pins s σ H x y v u Q I rx ry) (h' pins s σ H x y v u Q I rx ry)
theorem op_lift {r2 : R2} {r : RD} (hs : OpS X.K r2 r) : ∀ σ H Q, lE X.K (dOp r ta tb) σ H Q → tOp r2 (lE X.K ta) (lE X.K tb) σ H Q := fun σ H Q2 hx => hx.el fun n δ G Q R h k =>
  ⟨n, δ, G, _, R, h, fun v G1 H1 x δ1 R1 s1 d1 h1 => ⟨n, δ1, G1, _, R1, h1, fun w G2 H2 y δ2 R2 s2 d2 h2 =>
    hs G2 H2 v w x y _ Q2 R2.sub (d1.up s2) d2 h2 fun u G3 H3 d e3 d3 q3 => k u G3 H3 d δ2 (R2.ext e3) (s1.trans (s2.trans e3.gg)) d3 q3⟩⟩
theorem de_bin {op : Operator} {r2 : R2} {r : RD} (ho : OpR X (binaryOp op) r2) (hs : OpS X.K r2 r) (ha : DE X a ta) (hb : DE X b tb) : DE X (.BinOp a op b pos) (dOp r ta tb) :=
  pe_imp (pe_op ho ha hb) (op_lift hs)
theorem de_cmp {op : CmpOp} {r2 : R2} {r : RD} (ho : OpR X (compareOp op) r2) (hs : OpS X.K r2 r) (ha : DE X a ta) (hb : DE X b tb) (hm : behindInMarks op b = false) : DE X (.Compare a [op] [b] pos) (dOp r ta tb) :=
  pe_imp (pe_cmpR ho ha hb hm) (op_lift hs)
theorem de_ixG {r2 : R2} {r : RD} (ho : IxR X r2) (hs : OpS X.K r2 r) (ha : DE X a ta) (hb : DE X b tb) (hp : PlainIx b) : DE X (.Subscript a b pos) (dOp r ta tb) :=
  pe_imp (pe_ix ho ha hb hp) (op_lift hs)
noncomputable def dB (t : TEd) : TTd := fun δ Q => t δ fun x δ1 => match x with
  | .bl c => Q c δ1
  | _ => False
theorem dt_cmp {op : CmpOp} {r2 : R2} {r : RD} (ho : OpR X (compareOp op) r2) (hs : OpS X.K r2 r) (ha : DE X a ta) (hb : DE X b tb) (hm : behindInMarks op b = false) : DT X (.Compare a [op] [b] pos) (dB (dOp r ta tb)) :=
  pt_imp (pt_cmpR ho ha hb hm) fun σ H Q2 hx => hx.el fun n δ G Q R h k => op_lift hs σ H _ ⟨n, δ, G, _, R, h, fun v G1 H1 d δ1 R1 s1 d1 h1 => by
    cases d with
    | bl c => exact ⟨c, d1.bl_inv, k c G1 H1 δ1 R1 s1 h1⟩
    | _ => exact h1.elim⟩
noncomputable def truD : D → (Bool → Prop) → Prop
  | .non, Q => Q false
  | .bl b, Q => Q b
  | .int i, Q => Q (i != 0)
  | .str y, Q => y.length ≤ sizeLine ∧ Q ((y.length : Int) != 0)
  | .tup l, Q => Q (!l.isEmpty)
  | .lst l, Q => Q (!l.isEmpty)
theorem truV_of {K : PySem.W.Frag} {G H : Hp} {x : V} {d : D} (s : Same G H) (h : Den K G x d) {Q : Bool → Prop} (q : truD d Q) : ∃ k, TruV K x H k ∧ Q k := by
  cases h with
  | non => exact ⟨_, rfl, q⟩
  | bl b => exact ⟨_, rfl, q⟩
  | int i => exact ⟨_, rfl, q⟩
  | str y => exact ⟨_, ⟨q.1, rfl⟩, q.2⟩
  | tup h l => refine ⟨_, .inr (.inl ⟨_, Same.tupS s h, rfl⟩), ?_⟩; cases l <;> exact q
  | lst h l => refine ⟨_, .inl ⟨_, s.seq h, rfl⟩, ?_⟩; cases l <;> exact q
noncomputable def dAnd (t u : TTd) : TTd := fun δ Q => t δ fun c δ1 => if c = true then u δ1 Q else Q false δ1
noncomputable def dOr (t u : TTd) : TTd := fun δ Q => t δ fun c δ1 => if c = true then Q true δ1 else u δ1 Q
noncomputable def dNot (t : TTd) : TTd := fun δ Q => t δ fun c δ1 => Q (!c) δ1
variable {tA tB' : TTd} {rest : List Expr}
theorem dw_and1 (ha : DT X a tA) : DW X (.BoolOp .And [a] pos) tA := pw_and1 ha
theorem dw_or1 (ha : DT X a tA) : DW X (.BoolOp .Or [a] pos) tA := pw_or1 ha
theorem dw_and (ha : DT X a tA) (hb : DW X (.BoolOp .And (b :: rest) pos) tB') : DW X (.BoolOp .And (a :: b :: rest) pos) (dAnd tA tB') :=
  pw_imp (pw_and ha hb) fun σ H Q2 hx => hx.el fun n δ G Q R h k => ⟨n, δ, G, _, R, h, fun c G1 H1 δ1 R1 s1 h1 => by
    cases c with
    | true => exact iteT ⟨n, δ1, G1, Q, R1, h1, fun b G2 H2 δ2 R2 s2 h2 => k b G2 H2 δ2 R2 (s1.trans s2) h2⟩
    | false => exact iteF (k false G1 H1 δ1 R1 s1 h1)⟩
theorem dw_or (ha : DT X a tA) (hb : DW X (.BoolOp .Or (b :: rest) pos) tB') : DW X (.BoolOp .Or (a :: b :: rest) pos) (dOr tA tB') :=
  pw_imp (pw_or ha hb) fun σ H Q2 hx => hx.el fun n δ G Q R h k => ⟨n, δ, G, _, R, h, fun c G1 H1 δ1 R1 s1 h1 => by
    cases c with
    | false => exact iteF ⟨n, δ1, G1, Q, R1, h1, fun b G2 H2 δ2 R2 s2 h2 => k b G2 H2 δ2 R2 (s1.trans s2) h2⟩
    | true => exact iteT (k true G1 H1 δ1 R1 s1 h1)⟩
theorem dt_w {e : Expr} (h : DW X e tA) : DT X e tA := h.pt
theorem dt_not (ha : DT X a tA) : DT X (.UnaryOp .Not a pos) (dNot tA) :=
  pt_imp (pt_not ha) fun σ H Q2 hx => hx.el fun n δ G Q R h k => ⟨n, δ, G, _, R, h, fun c G1 H1 δ1 R1 s1 h1 => k (!c) G1 H1 δ1 R1 s1 h1⟩
noncomputable def dAndV (ta tb : TEd) : TEd := fun δ Q => ta δ fun x δ1 => match x with
  | .bl c => if c = true then tb δ1 Q else Q (.bl false) δ1
  | _ => False
theorem de_one {op} (h : DE X a ta) : DE X (.BoolOp op [a] pos) ta := pe_one h
theorem de_and (ha : DE X a ta) (hb : DE X (.BoolOp .And (b :: rest) pos) tb) : DE X (.BoolOp .And (a :: b :: rest) pos) (dAndV ta tb) :=
  pe_imp (L2.pe_and ha hb) fun σ H Q2 hx => hx.el fun n δ G Q R h k => ⟨n, δ, G, _, R, h, fun v G1 H1 d δ1 R1 s1 d1 h1 => by
    cases d with
    | bl c =>
      refine ⟨c, d1.bl_inv, ?_⟩
      cases c with
      | true => exact iteT ⟨n, δ1, G1, Q, R1, h1, fun b G2 H2 d δ2 R2 s2 d2 h2 => k b G2 H2 d δ2 R2 (s1.trans s2) d2 h2⟩
      | false => exact iteF (k _ G1 H1 _ δ1 R1 s1 (.bl false) h1)
    | _ => exact h1.elim⟩
noncomputable def dIf (t : TTd) (ta tb : TEd) : TEd := fun δ Q => t δ fun c δ1 => if c = true then ta δ1 Q else tb δ1 Q
theorem de_if (hc : DT X c tA) (ha : DE X a ta) (hb : DE X b tb) : DE X (.IfExp c a b pos) (dIf tA ta tb) :=
  pe_imp (pe_ifExp hc ha hb) fun σ H Q2 hx => hx.el fun n δ G Q R h k => ⟨n, δ, G, _, R, h, fun c G1 H1 δ1 R1 s1 h1 => by
    cases c with
    | true => exact iteT ⟨n, δ1, G1, Q, R1, h1, fun v G2 H2 d δ2 R2 s2 d2 h2 => k v G2 H2 d δ2 R2 (s1.trans s2) d2 h2⟩
    | false => exact iteF ⟨n, δ1, G1, Q, R1, h1, fun v G2 H2 d δ2 R2 s2 d2 h2 => k v G2 H2 d δ2 R2 (s1.trans s2) d2 h2⟩⟩
variable {e : Expr} {es : List Expr} {te : TEd} {t : TAd}
noncomputable def dNil : TAd := fun δ Q => Q [] δ
noncomputable def dCons (ta : TEd) (tr : TAd) : TAd := fun δ Q => ta δ fun x δ1 => tr δ1 fun xs δ2 => Q (x :: xs) δ2
theorem da_nil : DA X [] dNil := pa_imp pa_nil fun σ H Q2 hx => hx.el fun n δ G Q R h k => k [] G H [] δ R (Same.refl _) .nil h
theorem da_cons (ha : DE X e te) (hr : DA X es t) (hs : starEach (e :: es) X.env = (false, eval e X.env) :: starEach es X.env := by rfl) : DA X (e :: es) (dCons te t) :=
  pa_imp (pa_cons ha hr hs) fun σ H Q2 hx => hx.el fun n δ G Q R h k => ⟨n, δ, G, _, R, h, fun v G1 H1 d δ1 R1 s1 d1 h1 => ⟨n, δ1, G1, _, R1, h1, fun vs G2 H2 ds δ2 R2 s2 d2 h2 =>
    k (v :: vs) G2 H2 (d :: ds) δ2 R2 (s1.trans s2) (.cons (d1.up s2) d2) h2⟩⟩
noncomputable def dLst (t : TAd) : TEd := fun δ Q => t δ fun xs δ1 => xs.length ≤ sizeLine ∧ Q (.lst xs) δ1
theorem de_lst (h : DA X es t) : DE X (.List es pos) (dLst t) :=
  pe_imp (L2.pe_lst h) fun σ H Q2 hx => hx.el fun n δ G Q R h k => ⟨n, δ, G, _, R, h, fun vs G1 H1 ds δ1 R1 s1 d1 h1 => ⟨by rw [d1.length]; exact h1.1, fun p hp =>
    k _ _ _ _ δ1 (R1.laid hp _) (s1.trans (same_upd (R1.sub.free hp) _)) (.lst (SqL.of upd_same) (d1.up (same_upd (R1.sub.free hp) _))) h1.2⟩⟩
noncomputable abbrev RC := List D → (D → Prop) → Prop
noncomputable def CallS (K : PySem.W.Frag) (r2 : List V → Hp → VK → Prop) (r : RC) : Prop := ∀ (G H : Hp) (xs : List V) (ds : List D) (Q : D → Prop) (Q2 : VK), Same G H → DenL K G xs ds → r ds Q →
  (∀ (v : V) (G' H' : Hp) (d : D), Ext G H G' H' → Den K G' v d → Q d → Q2 v H') → r2 xs H Q2
noncomputable def dCall (r : RC) (t : TAd) : TEd := fun δ Q => t δ fun ds δ1 => r ds fun d => Q d δ1
theorem CallR.or {f : Value} {r r' : List V → Hp → VK → Prop} (h : CallR X f r) (h' : CallR X f r') : CallR X f (fun xs H Q => r xs H Q ∨ r' xs H Q) :=
  fun pins s σ H xs us Q I rx q => q.elim (h pins s σ H xs us Q I rx) (h' pins s σ H xs us Q I rx)
theorem call_lift {r2 : List V → Hp → VK → Prop} {r : RC} (hs : CallS X.K r2 r) : ∀ σ H Q, lE X.K (dCall r t) σ H Q → tCB r2 (lA X.K t) σ H Q := fun σ H Q2 hx => hx.el fun n δ G Q R h k =>
  ⟨n, δ, G, _, R, h, fun vs G1 H1 ds δ1 R1 s1 d1 h1 => hs G1 H1 vs ds _ Q2 R1.sub d1 h1 fun u G3 H3 d e3 d3 q3 => k u G3 H3 d δ1 (R1.ext e3) (s1.trans e3.gg) d3 q3⟩
variable {x : Str} {p : Pos} {id T : String}
theorem de_callB {r2 : List V → Hp → VK → Prop} {r : RC} (hc : CallR X (.builtin id) r2) (hs : CallS X.K r2 r) (hm : X.mg x = none) (hv : bootBuiltins x = some (.builtin id)) (ha : DA X (e :: es) t) (hg : Gl X x := by rfl) (hn : x ≠ "__name__" := by decide) (hdb : (x == ("__debug__" : Str)) = false := by decide)
    (he : starEach (e :: es) X.env = (false, eval e X.env) :: starEach es X.env := by rfl) (hpl : (backTo pos (starEach es X.env)).any (·.1) = false := by rfl) : DE X (.Call (.Name x p) (e :: es) [] pos) (dCall r t) :=
  pe_imp (pe_callB hc hg hm hv ha hn hdb he hpl) (call_lift hs)
theorem de_callTy {r2 : List V → Hp → VK → Prop} {r : RC} (hc : CallR X (.type T) r2) (hs : CallS X.K r2 r) (hm : X.mg x = none) (hv : bootBuiltins x = some (.type T)) (ha : DA X (e :: es) t) (hg : Gl X x := by rfl) (hn : x ≠ "__name__" := by decide) (hdb : (x == ("__debug__" : Str)) = false := by decide)
    (he : starEach (e :: es) X.env = (false, eval e X.env) :: starEach es X.env := by rfl) (hpl : (backTo pos (starEach es X.env)).any (·.1) = false := by rfl) : DE X (.Call (.Name x p) (e :: es) [] pos) (dCall r t) :=
  pe_imp (pe_callTy hc hg hm hv ha hn hdb he hpl) (call_lift hs)
end
noncomputable abbrev SpD := List D → (D → Prop) → Prop
noncomputable def spOf (K : PySem.W.Frag) (S : SpD) : Sp := fun vs H Q _ => ∃ (G : Hp) (ds : List D) (Qd : D → Prop), Same G H ∧ DenL K G vs ds ∧ S ds Qd ∧
  ∀ (v : V) (G' H' : Hp) (d : D), Ext G H G' H' → Den K G' v d → Qd d → Q v H'
section
variable {X : Cx} {k : Nat} {f : Addr} {fd : FuncData} {ps : List Str} {S : SpD} {x : Str} {p pos : Pos} {e : Expr} {es : List Expr} {t : TAd}
theorem de_call (F : FnOk X.prog X.w X.K X.mg X.base CX0 k f fd ps (spOf X.K S)) (hr : Room k X.A) (hm : X.mg x = some (.ref f)) (hk : PySem.W.keepIn X.K (.ref f) = true) (hb : Binds X.K fd ps [])
    (ha : DA X (e :: es) t) (hg : Gl X x := by rfl) (hdb : (x == ("__debug__" : Str)) = false := by decide) (he : starEach (e :: es) X.env = (false, eval e X.env) :: starEach es X.env := by rfl) (hpl : (backTo pos (starEach es X.env)).any (·.1) = false := by rfl) :
    DE X (.Call (.Name x p) (e :: es) [] pos) (dCall S t) :=
  pe_imp (pe_call F hr hg hm hk hb .nil pass0 ha hdb he hpl) fun σ H Q2 hx => hx.el fun n δ G Q R h kk => ⟨n, δ, G, _, R, h, fun vs G1 H1 ds δ1 R1 s1 d1 h1 => by
    show spOf X.K S (vs ++ []) H1 Q2 E0
    rw [List.append_nil]
    exact ⟨G1, ds, _, R1.sub, d1, h1, fun v G2 H2 d e2 d2 q2 => kk v G2 H2 d δ1 (R1.ext e2) (s1.trans e2.gg) d2 q2⟩⟩
end
end Dl
namespace Dl
open PySem PySem.Spec PyProof.Rows L2
structure EndsD where
  nx : Ev → Prop
  rt : D → Ev → Prop
  bk : Ev → Prop := fun _ => False
  ct : Ev → Prop := fun _ => False
noncomputable abbrev TSd := EndsD → Ev → Prop
structure EndsOk (K : PySem.W.Frag) (n : En) (E : EndsD) (F : Ends) : Prop where
  nx : ∀ δ σ G H, Rel K n δ σ G H → E.nx δ → F.nx σ H
  rt : ∀ v d δ σ G H, Rel K n δ σ G H → Den K G v d → E.rt d δ → F.rt v H
  bk : ∀ δ σ G H, Rel K n δ σ G H → E.bk δ → F.bk σ H
  ct : ∀ δ σ G H, Rel K n δ σ G H → E.ct δ → F.ct σ H
noncomputable def lS (K : PySem.W.Frag) (t : TSd) : TS := fun F σ H => ∃ (n : En) (δ : Ev) (G : Hp) (E : EndsD), Rel K n δ σ G H ∧ t E δ ∧ EndsOk K n E F
theorem lS.el {K : PySem.W.Frag} {t : TSd} {F σ H} {P : Prop} (x : lS K t F σ H) (k : ∀ (n : En) (δ : Ev) (G : Hp) (E : EndsD), (Rel K n δ σ G H) → (t E δ) → (EndsOk K n E F) → P) : P := by
  obtain ⟨n, δ, G, E, h0, h1, h2⟩ := x
  exact k n δ G E h0 h1 h2
noncomputable abbrev DS (X : Cx) (st : Stmt) (t : TSd) : Prop := PS X st (lS X.K t)
noncomputable abbrev DSs (X : Cx) (st : List Stmt) (t : TSd) : Prop := PSs X st (lS X.K t)
section
variable {X : Cx} {st : Stmt} {rest : List Stmt} {t u : TSd} {pos : Pos} {e : Expr} {te : TEd}
noncomputable def dNext : TSd := fun E δ => E.nx δ
noncomputable def dSeq (t u : TSd) : TSd := fun E δ => t { E with nx := u E } δ
theorem dss_nil : DSs X [] dNext := pss_imp pss_nil fun F σ H hx => hx.el fun n δ G E R h k => k.nx δ σ G H R h
theorem dss_cons (h1 : DS X st t) (h2 : DSs X rest u) : DSs X (st :: rest) (dSeq t u) :=
  pss_imp (pss_cons h1 h2) fun F σ H hx => hx.el fun n δ G E R h k => ⟨n, δ, G, _, R, h, ⟨fun δ' σ' G' H' R' h' => ⟨n, δ', G', E, R', h', k⟩, k.rt, k.bk, k.ct⟩⟩
theorem dss_one (h1 : DS X st t) : DSs X [st] t := pss_one h1
noncomputable def dRet (te : TEd) : TSd := fun E δ => te δ E.rt
theorem ds_ret (he : DE X e te) : DS X (.Return (some e) pos) (dRet te) :=
  ps_imp (ps_ret he) fun F σ H hx => hx.el fun n δ G E R h k => ⟨n, δ, G, _, R, h, fun v G1 H1 d δ1 R1 s1 d1 h1 => k.rt v d δ1 σ G1 H1 R1 d1 h1⟩
noncomputable def dIfS (c : TTd) (t u : TSd) : TSd := fun E δ => c δ fun b δ1 => if b = true then t E δ1 else u E δ1
theorem ds_if {c : Expr} {a b : List Stmt} {tc : TTd} (hc : DT X c tc) (ha : DSs X a t) (hb : DSs X b u) : DS X (.If c a b pos) (dIfS tc t u) :=
  ps_imp (ps_if hc ha hb) fun F σ H hx => hx.el fun n δ G E R h k => ⟨n, δ, G, _, R, h, fun c G1 H1 δ1 R1 s1 h1 => by
    cases c with
    | true => exact iteT ⟨n, δ1, G1, E, R1, h1, k⟩
    | false => exact iteF ⟨n, δ1, G1, E, R1, h1, k⟩⟩
noncomputable def dNever : TSd := fun _ _ => False
theorem ds_never : DS X st dNever := fun _ _ _ _ _ _ ⟨_, _, _, _, _, h, _⟩ => h.elim
noncomputable def dSet (i : Nat) (te : TEd) : TSd := fun E δ => te δ fun d δ1 => E.nx (δ1.set i (.sh d))
theorem ds_set (i : Nat) {x : Str} {pos' : Pos} (hN : X.N.Nodup) (he : DE X e te) (hi : X.N[i]? = some x := by rfl) (hx : Loc X.env.scope x := by first | exact Or.inl rfl | exact Or.inr rfl) (hs : swapsWith e (some (.Name x pos')) pos.line X.env = pure false := by rfl)
    (hf : X.fn x = true ∨ X.env.scope.names.lookup x = some .local := by first | exact .inl rfl | exact .inr rfl | assumption) : DS X (.Assign [.Name x pos'] e pos) (dSet i te) :=
  ps_imp (ps_set (i := i) hN hi hx he hs hf) fun F σ H hx => hx.el fun n δ G E R h k => ⟨n, δ, G, _, R, h, fun v G1 H1 d δ1 R1 s1 d1 h1 => k.nx _ _ G1 H1 (R1.set i d1) h1⟩
noncomputable def dOwn (i : Nat) (ta : TAd) : TSd := fun E δ => ta δ fun ds δ1 => ds.length ≤ sizeLine ∧ E.nx (δ1.set i (.ow ds))
theorem ds_own (i : Nat) {x : Str} {pos' lp : Pos} {es : List Expr} {ta : TAd} (hN : X.N.Nodup) (he : DA X es ta) (hi : X.N[i]? = some x := by rfl) (hx : Loc X.env.scope x := by first | exact Or.inl rfl | exact Or.inr rfl) (hs : swapsWith (.List es lp) (some (.Name x pos')) pos.line X.env = pure false := by rfl)
    (hf : X.fn x = true ∨ X.env.scope.names.lookup x = some .local := by first | exact .inl rfl | exact .inr rfl | assumption) : DS X (.Assign [.Name x pos'] (.List es lp) pos) (dOwn i ta) :=
  ps_imp (ps_set (i := i) hN hi hx (L2.pe_lst he) hs hf) fun F σ H hx => hx.el fun n δ G E R h k => ⟨n, δ, G, _, R, h, fun vs G1 H1 ds δ1 R1 s1 d1 h1 => ⟨by rw [d1.length]; exact h1.1, fun p hp =>
    k.nx _ _ G1 _ (R1.own i hp d1) h1.2⟩⟩
noncomputable def dFrz (i : Nat) (t : TSd) : TSd := fun E δ => match δ[i]? with
  | some (.ow l) => t E (δ.set i (.sh (.lst l)))
  | _ => False
theorem dss_frz (i : Nat) {sts : List Stmt} (h1 : DSs X sts t) : DSs X sts (dFrz i t) :=
  pss_imp h1 fun F σ H hx => hx.el fun n δ G E R h k => by
    unfold dFrz at h
    split at h
    · rename_i l e
      obtain ⟨G', R', _⟩ := R.freeze e
      exact ⟨n, _, G', E, R', h, k⟩
    · exact h.elim
noncomputable def dApp (i : Nat) (te : TEd) : TSd := fun E δ => match δ[i]? with
  | some (.ow _) => te δ fun d δ1 => match δ1[i]? with
    | some (.ow l) => l.length < sizeLine ∧ E.nx (δ1.set i (.ow (l ++ [d])))
    | _ => False
  | _ => False
theorem ds_append (i : Nat) {x : Str} {e₀ : Expr} {np ap cp : Pos} {te : TEd} (he : DE X e₀ te) (hN : X.N[i]? = some x := by rfl) (hv : Vis X.env.scope x := by first | exact Or.inl rfl | exact Or.inr (Or.inl rfl) | exact Or.inr (Or.inr rfl))
    (hd : (x == ("__debug__" : Str)) = false := by decide) (hcd : (x == ("__classdict__" : Str)) = false := by decide)
    (hs : swapsWith (.Call (.Attribute (.Name x np) "append" ap) [e₀] [] cp) none pos.line X.env = pure false := by rfl)
    (hbase : attributeBase (.Name x np) "append" X.env (eval (.Name x np) X.env) = eval (.Name x np) X.env := by rfl)
    (hfew : ((backTo cp (starEach [e₀] X.env)).all (fun x => !x.1) && (backToKw cp (keywordEach [] X.env)).all (fun x => x.1.isSome)
      && decide ([e₀].length + ([] : List Keyword).length + (if ([] : List Keyword).isEmpty then 0 else 1) < 30)) = true := by rfl)
    (hline : (ap.endLine == cp.line) = true := by rfl) (hst : starEach [e₀] X.env = (false, eval e₀ X.env) :: starEach [] X.env := by rfl) (hplain : (backTo cp (starEach [] X.env)).any (·.1) = false := by rfl) :
    DS X (.Expr (.Call (.Attribute (.Name x np) "append" ap) [e₀] [] cp) pos) (dApp i te) :=
  ps_imp (ps_expr (pe_bm PySem.F.plainAttrs_list PySem.F.slot_list_append PySem.F.type_list_append mt_append (pe_var hN hv hd hcd) (pa_cons he pa_nil hst) hbase hfew hline hst hplain) hs) fun F σ H hx => hx.el fun n δ G E R h k => by
    unfold dApp at h
    split at h
    · rename_i l0 e0
      obtain ⟨p, vs, g1, g2, g3, g4, g5⟩ := R.sl i _ e0
      refine ⟨.ref p, g1, .inl ⟨rfl, vs, SqL.of g2⟩, n, δ, G, _, R, h, fun v G1 H1 d δ1 R1 s1 d1 h1 => ?_⟩
      split at h1
      · rename_i l1 e1
        obtain ⟨q, ws, k1, k2, k3, k4, k5⟩ := R1.sl i _ e1
        rw [g1] at k1; cases k1
        refine ⟨p, ws, v, rfl, rfl, k2, by rw [k5.length]; exact h1.1, ?_⟩
        exact k.nx _ σ G1 _ (R1.change e1 g1 (k5.append (.cons d1 .nil))) h1.2
      · exact h1.elim
    · exact h.elim
noncomputable abbrev TGd := D → Ev → (Ev → Prop) → Prop
noncomputable def lG (K : PySem.W.Frag) (g : TGd) : TG := fun v σ H Q2 => ∃ (n : En) (δ : Ev) (G : Hp) (d : D) (Q : Ev → Prop), Rel K n δ σ G H ∧ Den K G v d ∧ g d δ Q ∧
  ∀ δ' σ', Rel K n δ' σ' G H → Q δ' → Q2 σ' H
theorem lG.el {K : PySem.W.Frag} {g : TGd} {v σ H Q2} {P : Prop} (x : lG K g v σ H Q2) (k : ∀ (n : En) (δ : Ev) (G : Hp) (d : D) (Q : Ev → Prop), (Rel K n δ σ G H) → (Den K G v d) → (g d δ Q) → (∀ δ' σ', Rel K n δ' σ' G H → Q δ' → Q2 σ' H) → P) : P := by
  obtain ⟨n, δ, G, d, Q, h0, h1, h2, h3⟩ := x
  exact k n δ G d Q h0 h1 h2 h3
noncomputable abbrev DG (X : Cx) (tg : Expr) (g : TGd) : Prop := PG X tg (lG X.K g)
theorem pg_imp {tg : Expr} {g g' : TG} (h : PG X tg g) (hi : ∀ v σ H Q, g' v σ H Q → g v σ H Q) : PG X tg g' := fun pins s σ H x u Q I r q => h pins s σ H x u Q I r (hi x σ H Q q)
noncomputable def gdName (i : Nat) : TGd := fun d δ Q => Q (δ.set i (.sh d))
theorem dg_name (i : Nat) {x : Str} (hN : X.N.Nodup) (hi : X.N[i]? = some x := by rfl) (hx : Loc X.env.scope x := by first | exact Or.inl rfl | exact Or.inr rfl) (hf : X.fn x = true ∨ X.env.scope.names.lookup x = some .local := by first | exact .inl rfl | exact .inr rfl | assumption) : DG X (.Name x pos) (gdName i) :=
  pg_imp (pg_name (i := i) hN hi hx hf) fun v σ H Q2 hx => hx.el fun n δ G d Q R hv h k => k _ _ (R.set i hv) h
structure JOk (K : PySem.W.Frag) (G : Hp) (J : It) (l : List D) : Prop where
  go : ∀ (i : Nat) (G1 H1 : Hp), Same G G1 → Same G1 H1 → i < l.length → J.go i H1
  yl : ∀ (i : Nat) (G1 H1 : Hp) (x : V) (H2 : Hp), Same G G1 → Same G1 H1 → i < l.length → J.yld i H1 x H2 → ∃ (G2 : Hp) (d : D), Ext G1 H1 G2 H2 ∧ l[i]? = some d ∧ Den K G2 x d
  st : ∀ (i : Nat) (G1 H1 : Hp), Same G G1 → Same G1 H1 → l.length ≤ i → J.stop i H1
noncomputable abbrev TId := Ev → (List D → Ev → Prop) → Prop
noncomputable def lI (K : PySem.W.Frag) (t : TId) : TI := fun σ H R2 => ∃ (n : En) (δ : Ev) (G : Hp) (Q : List D → Ev → Prop), Rel K n δ σ G H ∧ t δ Q ∧
  ∀ (J : It) (G' H' : Hp) (l : List D) (δ' : Ev), Rel K n δ' σ G' H' → Same G G' → JOk K G' J l → Q l δ' → R2 J H'
theorem lI.el {K : PySem.W.Frag} {t : TId} {σ H R2} {P : Prop} (x : lI K t σ H R2) (k : ∀ (n : En) (δ : Ev) (G : Hp) (Q : List D → Ev → Prop), (Rel K n δ σ G H) → (t δ Q) → (∀ (J : It) (G' H' : Hp) (l : List D) (δ' : Ev), Rel K n δ' σ G' H' → Same G G' → JOk K G' J l → Q l δ' → R2 J H') → P) : P := by
  obtain ⟨n, δ, G, Q, h0, h1, h2⟩ := x
  exact k n δ G Q h0 h1 h2
noncomputable abbrev DI (X : Cx) (tg iter : Expr) (t : TId) : Prop := PI X tg iter (lI X.K t)
theorem pi_imp {tg iter : Expr} {t t' : TI} (h : PI X tg iter t) (hi : ∀ σ H Q, t' σ H Q → t σ H Q) : PI X tg iter t' := fun pins s σ H R I q => h pins s σ H R I (hi σ H R q)
theorem jok_list {K : PySem.W.Frag} {G : Hp} {a : Addr} {vs : List V} {l : List D} (h : SqL K G a vs) (hl : DenL K G vs l) : JOk K G (Itl K a) l := by
  have len := hl.length
  refine ⟨fun i G1 H1 s1 s2 hi => ⟨vs, vs[i]'(by omega), (s1.trans s2).seq h, by simp⟩, fun i G1 H1 x H2 s1 s2 hi y => ?_, fun i G1 H1 s1 s2 hi => ⟨vs, (s1.trans s2).seq h, by omega⟩⟩
  obtain ⟨e, y⟩ := y
  subst e
  obtain ⟨d, hd, hx⟩ := hl.getV (y vs ((s1.trans s2).seq h))
  exact ⟨G1, d, Ext.refl s2, hd, hx.up s1⟩
theorem jok_tup {K : PySem.W.Frag} {G : Hp} {a : Addr} {vs : List V} {l : List D} (h : SqT K G a vs) (hl : DenL K G vs l) : JOk K G (Itt K a) l := by
  have len := hl.length
  refine ⟨fun i G1 H1 s1 s2 hi => ⟨vs, vs[i]'(by omega), Same.tupS (s1.trans s2) h, by simp⟩, fun i G1 H1 x H2 s1 s2 hi y => ?_, fun i G1 H1 s1 s2 hi => ⟨vs, Same.tupS (s1.trans s2) h, by omega⟩⟩
  obtain ⟨e, y⟩ := y
  subst e
  obtain ⟨d, hd, hx⟩ := hl.getV (y vs (Same.tupS (s1.trans s2) h))
  exact ⟨G1, d, Ext.refl s2, hd, hx.up s1⟩
noncomputable def rangeL (lo : Int) (k : Nat) : List D := (List.range k).map fun i => D.int (lo + (i : Nat))
theorem jok_range {K : PySem.W.Frag} {G : Hp} {lo : Int} {k : Nat} : JOk K G (Itr lo k) (rangeL lo k) := by
  have len : (rangeL lo k).length = k := by simp [rangeL]
  refine ⟨fun i G1 H1 s1 s2 hi => by rw [len] at hi; exact hi, fun i G1 H1 x H2 s1 s2 hi y => ?_, fun i G1 H1 s1 s2 hi => by rw [len] at hi; exact hi⟩
  obtain ⟨e, e2⟩ := y
  subst e e2
  rw [len] at hi
  exact ⟨G1, .int (lo + (i : Nat)), Ext.refl s2, by simp [rangeL, hi], .int _⟩
noncomputable def diRange1 (ta : TAd) : TId := fun δ Q => ta δ fun ds δ1 => match ds with
  | [.int j] => -(2 ^ 62) ≤ j ∧ j < 2 ^ 62 ∧ Q (rangeL 0 j.toNat) δ1
  | _ => False
theorem di_range1 {tg a : Expr} {ta : TAd} {p pos : Pos} (hm : X.mg "range" = none) (ha : DA X [a] ta) (hg : Gl X "range" := by rfl) (hs : starEach [a] X.env = [(false, eval a X.env)] := by rfl) : DI X tg (.Call (.Name "range" p) [a] [] pos) (diRange1 ta) :=
  pi_imp (pi_range1 hg hm ha hs) fun σ H R2 hx => hx.el fun n δ G Q R h k => ⟨n, δ, G, _, R, h, fun vs G1 H1 ds δ1 R1 s1 d1 h1 => by
    split at h1
    · cases d1 with | cons d1 d2 => cases d2; cases d1.int_inv; exact ⟨_, rfl, h1.1, h1.2.1, k _ G1 H1 _ δ1 R1 s1 jok_range h1.2.2⟩
    · exact h1.elim⟩
noncomputable def dFor (ti : TId) (g : TGd) (tb : TSd) : TSd := fun E δ => ti δ fun items δ1 => ∃ W : Nat → Ev → Prop, W 0 δ1 ∧
  (∀ (i : Nat) (d : D) (δ2 : Ev), items[i]? = some d → W i δ2 → g d δ2 fun δ3 => tb { E with nx := W (i + 1), ct := W (i + 1), bk := E.nx } δ3) ∧ ∀ δ2, W items.length δ2 → E.nx δ2
theorem ds_for {tg iter : Expr} {body : List Stmt} {ti : TId} {g : TGd} {tb : TSd} (hp : PassesOwn (model X.prog X.w) X.A X.env X.xe) (hc : X.calm = true) (hi : DI X tg iter ti) (hg : DG X tg g) (hb : DSs X body tb)
    (hs : ∀ x, foldedSetIterable iter X.env x = pure x := by intro _; rfl) : DS X (.For tg iter body [] pos) (dFor ti g tb) :=
  ps_imp (ps_for hp hc hi hg hb hs) fun F σ H hx => hx.el fun n δ G E R h k => ⟨n, δ, G, _, R, h, fun J G1 H1 items δ1 R1 s1 j1 ⟨W, w0, step, fin⟩ => by
    refine ⟨fun i m σ H => i ≤ items.length ∧ m = items.length - i ∧ ∃ δ G, Rel X.K n δ σ G H ∧ Same G1 G ∧ W i δ, ⟨_, Nat.zero_le _, rfl, δ1, G1, R1, Same.refl _, w0⟩, ?_⟩
    rintro i m σ2 H2 ⟨hi, rfl, δ2, G2, R2, s2, w2⟩
    by_cases hl : i < items.length
    · refine .inr ⟨j1.go i G2 H2 s2 R2.sub hl, fun σ' H' => ∃ δ G, Rel X.K n δ σ' G H' ∧ Same G1 G ∧ W (i + 1) δ, fun σ' H' ⟨δ', G', R', s', w'⟩ => ⟨items.length - (i + 1), by omega, hl, rfl, δ', G', R', s', w'⟩, fun x H3 y => ?_⟩
      obtain ⟨G3, d, e3, hd, dx⟩ := j1.yl i G2 H2 x H3 s2 R2.sub hl y
      have R3 := R2.ext e3
      have s3 : Same G1 G3 := s2.trans e3.gg
      refine ⟨⟨G3, n.H, n.M⟩, δ2, G3, d, _, R3.rebase, dx, step i d δ2 hd w2, fun δ4 σ4 R4 h4 => ?_⟩
      refine ⟨⟨G3, n.H, n.M⟩, δ4, G3, _, R4, h4, ⟨fun δ5 σ5 G5 H5 R5 h5 => ⟨δ5, G5, R3.unbase R5, s3.trans R5.eg, h5⟩, fun v d δ5 σ5 G5 H5 R5 d5 h5 => k.rt v d δ5 σ5 G5 H5 (R3.unbase R5) d5 h5,
        fun δ5 σ5 G5 H5 R5 h5 => k.nx δ5 σ5 G5 H5 (R3.unbase R5) h5, fun δ5 σ5 G5 H5 R5 h5 => ⟨δ5, G5, R3.unbase R5, s3.trans R5.eg, h5⟩⟩⟩
    · have e : i = items.length := by omega
      subst e
      exact .inl ⟨j1.st _ G2 H2 s2 R2.sub (Nat.le_refl _), k.nx δ2 σ2 G2 H2 R2 (fin δ2 w2)⟩⟩
noncomputable def dWhile (c : TTd) (tb : TSd) : TSd := fun E δ => ∃ W : Nat → Ev → Prop, (∃ m, W m δ) ∧ ∀ m δ1, W m δ1 →
  c δ1 fun b δ2 => if b = true then tb { E with nx := fun δ' => ∃ m', m' < m ∧ W m' δ', ct := fun δ' => ∃ m', m' < m ∧ W m' δ', bk := E.nx } δ2 else E.nx δ2
theorem ds_while {c : Expr} {body : List Stmt} {tc : TTd} {tb : TSd} (hp : PassesOwn (model X.prog X.w) X.A X.env X.xe) (hc : DT X c tc) (hb : DSs X body tb) : DS X (.While c body [] pos) (dWhile tc tb) :=
  ps_imp (ps_while hp hc hb) fun F σ H ⟨n, δ, G, E, R, ⟨W, ⟨m0, w0⟩, step⟩, k⟩ => by
    refine ⟨fun m σ H => ∃ δ G, Rel X.K n δ σ G H ∧ W m δ, ⟨m0, δ, G, R, w0⟩, ?_⟩
    rintro m σ2 H2 ⟨δ2, G2, R2, w2⟩
    refine ⟨n, δ2, G2, _, R2, step m δ2 w2, fun c G3 H3 δ3 R3 s3 h3 => ?_⟩
    cases c with
    | true =>
      refine iteT ⟨fun σ' H' => ∃ m', m' < m ∧ ∃ δ G, Rel X.K n δ σ' G H' ∧ W m' δ, fun σ' H' z => z, n, δ3, G3, _, R3, h3, ⟨fun δ5 σ5 G5 H5 R5 ⟨m', hm, w5⟩ => ⟨m', hm, δ5, G5, R5, w5⟩, k.rt, k.nx, fun δ5 σ5 G5 H5 R5 ⟨m', hm, w5⟩ => ⟨m', hm, δ5, G5, R5, w5⟩⟩⟩
    | false => exact iteF (k.nx δ3 σ2 G3 H3 R3 h3)
end
noncomputable def startD (N : List Str) (ds : List D) : Ev := ds.map Sl.sh ++ List.replicate (N.length - ds.length) Sl.no
theorem rel_start {K : PySem.W.Frag} {N : List Str} {G H : Hp} {vs : List V} {ds : List D} (s : Same G H) (h : DenL K G vs ds) : Rel K ⟨G, H, fun _ => False⟩ (startD N ds) (start N vs) G H := by
  have len := h.length
  refine ⟨s, Same.refl _, fun b o e _ => e, fun b e => e, fun b o e (e0 : G b = none) => (by rw [e0] at e; cases e), ⟨fun _ => none, ⟨fun _ _ z => by cases z⟩, fun i sl hs => ?_⟩, ?_⟩
  · unfold startD at hs
    by_cases hi : i < ds.length
    · rw [List.getElem?_append_left (by simpa using hi), List.getElem?_map] at hs
      cases q : ds[i]? with
      | none => rw [q] at hs; cases hs
      | some d =>
        rw [q] at hs; cases hs
        obtain ⟨v, hv, dv⟩ := h.get q
        refine ⟨v, ?_, dv⟩
        unfold L2.start
        rw [List.getElem?_append_left (by rw [List.length_map]; omega), List.getElem?_map, hv]; rfl
    · rw [List.getElem?_append_right (by simpa using hi), List.getElem?_replicate] at hs
      split at hs
      · cases hs; trivial
      · cases hs
  · simp [startD, L2.start, len]
section
variable {P : Program} {w : World} {K : PySem.W.Frag} {mg : Str → Option Value} {base : Heap}
theorem fnD {x qual : Str} {st : Stmt} {f : Addr} {fd : FuncData} {N ps : List Str} {k : Nat} {S : SpD} (F : Fun K x qual st f fd) (Sc : FnScope N ps (defScope st)) (len : ∀ ds Q, S ds Q → ds.length = ps.length)
    (hbody : ∀ (cdv : Value) (A : Around) (outer : List Env) (s : Shared) (H : Hp) (E : XK), Room k (A.deeper (envOfC qual (defScope st) s.heap.objs.size f cdv)) →
      ∃ t, DSs (cxOf CX0 P w K mg base N qual (defScope st) f cdv A outer s H E).nox (defBody st) t ∧ ∀ ds Q, S ds Q → t { nx := fun _ => Q .non, rt := fun d _ => Q d } (startD N ds)) : FnOk P w K mg base CX0 (k + 1) f fd ps (spOf K S) := by
  refine F.ok Sc (fun vs H Q E ⟨G, ds, Qd, sub, dn, h, _⟩ => ?_) (fun cdv A outer s H vs Q E hr ⟨G, ds, Qd, sub, dn, h, kk⟩ => ?_)
  · rw [dn.length]; exact len ds Qd h
  · obtain ⟨t, ht, hq⟩ := hbody cdv A outer s H E hr
    refine ⟨_, ht, ⟨G, H, fun _ => False⟩, _, G, _, rel_start (N := N) sub dn, hq ds Qd h, ⟨fun δ σ G' H' R' q => ?_, fun v d δ σ G' H' R' dv q => ?_, fun _ _ _ _ _ q => q.elim, fun _ _ _ _ _ q => q.elim⟩⟩
    · exact kk .non G' H' .non ⟨R'.eg, R'.sub, fun b o e => R'.eh b o e (fun z => z), fun b o e e0 => R'.fr b o e e0⟩ .non q
    · exact kk v G' H' d ⟨R'.eg, R'.sub, fun b o e => R'.eh b o e (fun z => z), fun b o e e0 => R'.fr b o e e0⟩ dv q
end
end Dl
namespace Dl
open PySem PySem.Spec PyProof.Rows L2
mutual
noncomputable def D.py : D → PyData
  | .non => .none
  | .bl b => .bool b
  | .int i => .int i
  | .str x => .str x
  | .tup l => .tuple (D.pyL l)
  | .lst l => .list (D.pyL l)
noncomputable def D.pyL : List D → List PyData
  | [] => []
  | d :: r => D.py d :: D.pyL r
end
mutual
noncomputable def D.ok : D → Bool
  | .str x => PyData.strOk x
  | .tup l => D.okL l
  | .lst l => D.okL l
  | _ => true
noncomputable def D.okL : List D → Bool
  | [] => true
  | d :: r => D.ok d && D.okL r
end
mutual
noncomputable def D.dep : D → Nat
  | .tup l => D.depL l + 1
  | .lst l => D.depL l + 1
  | _ => 0
noncomputable def D.depL : List D → Nat
  | [] => 0
  | d :: r => max (D.dep d) (D.depL r)
end
mutual
noncomputable def eqD : D → D → Bool
  | .non, .non => true
  | .bl a, .bl b => a == b
  | .bl a, .int j => (if a then 1 else 0) == j
  | .int i, .bl b => i == (if b then 1 else 0)
  | .int i, .int j => i == j
  | .str x, .str y => x == y
  | .tup l, .tup m => eqDL l m
  | .lst l, .lst m => eqDL l m
  | _, _ => false
noncomputable def eqDL : List D → List D → Bool
  | [], [] => true
  | a :: l, b :: m => eqD a b && eqDL l m
  | _, _ => false
end
mutual
theorem py_ok : ∀ d : D, d.ok = true → (D.py d).canLay0 = true
  | .non, _ => rfl
  | .bl _, _ => rfl
  | .int _, _ => rfl
  | .str _, h => h
  | .tup l, h => py_okL l h
  | .lst l, h => py_okL l h
theorem py_okL : ∀ l : List D, D.okL l = true → PyData.canLayAll0 (D.pyL l) = true
  | [], _ => rfl
  | d :: r, h => by
    have h' : (D.ok d && D.okL r) = true := h
    rw [Bool.and_eq_true] at h'
    show (PyData.canLay0 (D.py d) && PyData.canLayAll0 (D.pyL r)) = true
    rw [py_ok d h'.1, py_okL r h'.2]; rfl
end
mutual
theorem py_dep : ∀ d : D, (D.py d).depth = d.dep
  | .non => rfl
  | .bl _ => rfl
  | .int _ => rfl
  | .str _ => rfl
  | .tup l => by show PyData.depthAll (D.pyL l) + 1 = D.depL l + 1; rw [py_depL l]
  | .lst l => by show PyData.depthAll (D.pyL l) + 1 = D.depL l + 1; rw [py_depL l]
theorem py_depL : ∀ l : List D, PyData.depthAll (D.pyL l) = D.depL l
  | [] => rfl
  | d :: r => by show max (PyData.depth (D.py d)) (PyData.depthAll (D.pyL r)) = max (D.dep d) (D.depL r); rw [py_dep d, py_depL r]
end
mutual
theorem py_eq : ∀ d e : D, PyData.eqv (D.py d) (D.py e) = eqD d e
  | .tup l, .tup m => py_eqL l m
  | .lst l, .lst m => py_eqL l m
  | .non, e => by cases e <;> rfl
  | .bl _, e => by cases e <;> rfl
  | .int _, e => by cases e <;> rfl
  | .str _, e => by cases e <;> rfl
  | .tup _, .non => rfl
  | .tup _, .bl _ => rfl
  | .tup _, .int _ => rfl
  | .tup _, .str _ => rfl
  | .tup _, .lst _ => rfl
  | .lst _, .non => rfl
  | .lst _, .bl _ => rfl
  | .lst _, .int _ => rfl
  | .lst _, .str _ => rfl
  | .lst _, .tup _ => rfl
theorem py_eqL : ∀ l m : List D, PyData.eqvAll (D.pyL l) (D.pyL m) = eqDL l m
  | [], [] => rfl
  | [], _ :: _ => rfl
  | _ :: _, [] => rfl
  | d :: l, e :: m => by
    show (PyData.eqv (D.py d) (D.py e) && PyData.eqvAll (D.pyL l) (D.pyL m)) = (eqD d e && eqDL l m)
    rw [py_eq d e, py_eqL l m]
end
section
variable {X : Cx} {pins : List (Addr × Obj)} {σ : L2.St} {G H : Hp} {s : Shared}
mutual
theorem Den.reads (I : Inv X pins σ H s) (sub : Same G H) : ∀ {v : V} {d : D} {u : Value}, Den X.K G v d → RelV v u → ∃ as, Reads s.heap u (D.py d) as
  | _, _, _, .non, r => by cases r; exact ⟨_, .none⟩
  | _, _, _, .bl b, r => by cases r; exact ⟨_, .bool b⟩
  | _, _, _, .int i, r => by obtain ⟨t, rfl⟩ := r; exact ⟨_, .int i t⟩
  | _, _, _, .str x, r => by obtain ⟨t, rfl⟩ := r; exact ⟨_, .str x t⟩
  | _, _, _, .tup h l, r => by
    cases r
    obtain ⟨its, rv, ⟨o, ho, hc, n, hd⟩, _⟩ := I.tuple (Same.tupS sub h)
    obtain ⟨as, ra⟩ := DenL.reads I sub l rv
    exact ⟨as, .tuple ho hc hd (by simpa using ra)⟩
  | _, _, _, .lst h l, r => by
    cases r
    obtain ⟨its, rv, ⟨o, n, ho, hc, _, hd⟩, _⟩ := I.list (sub.seq h)
    obtain ⟨as, ra⟩ := DenL.reads I sub l rv
    exact ⟨_, .list ho hc hd (by simpa using ra)⟩
theorem DenL.reads (I : Inv X pins σ H s) (sub : Same G H) : ∀ {vs : List V} {ds : List D} {us : List Value}, DenL X.K G vs ds → Vals vs us → ∃ as, ReadsAll s.heap us (D.pyL ds) as
  | _, _, _, .nil, r => by cases r; exact ⟨_, .nil⟩
  | _, _, _, .cons h t, .cons r1 r2 => by
    obtain ⟨as, h1⟩ := Den.reads I sub h r1
    obtain ⟨bs, h2⟩ := DenL.reads I sub t r2
    exact ⟨_, .cons h1 h2⟩
end
end
section
variable {X : Cx}
noncomputable def okEq (d e : D) : Prop := d.ok = true ∧ e.ok = true ∧ min d.dep e.dep ≤ 60
noncomputable def rDeep (K : PySem.W.Frag) (f : D → D → Bool) : R2 := fun x y H Q => ∃ G dx dy, Same G H ∧ Den K G x dx ∧ Den K G y dy ∧ okEq dx dy ∧ Q (.bl (f dx dy)) H
theorem op_eqDeep (hu : X.A.units + 64 < cLine) : OpR X (compareOp .Eq) (rDeep X.K eqD) := by
  rintro pins s σ H x y v u Q I rx ry ⟨G, dx, dy, sub, hx, hy, ⟨o1, o2, o3⟩, q⟩
  obtain ⟨as, ra⟩ := hx.reads I sub rx
  obtain ⟨bs, rb⟩ := hy.reads I sub ry
  refine PySem.SeqAt.compareEq_reads ra rb (py_ok _ o1) (py_ok _ o2) (by rw [py_dep, py_dep]; omega) ?_
  rw [py_eq]
  exact ⟨.bl _, H, I, rfl, q⟩
theorem op_neDeep (hu : X.A.units + 64 < cLine) : OpR X (compareOp .NotEq) (rDeep X.K fun d e => !eqD d e) := by
  rintro pins s σ H x y v u Q I rx ry ⟨G, dx, dy, sub, hx, hy, ⟨o1, o2, o3⟩, q⟩
  obtain ⟨as, ra⟩ := hx.reads I sub rx
  obtain ⟨bs, rb⟩ := hy.reads I sub ry
  refine PySem.SeqAt.compareNe_reads ra rb (py_ok _ o1) (py_ok _ o2) (by rw [py_dep, py_dep]; omega) ?_
  rw [py_eq]
  exact ⟨.bl _, H, I, rfl, q⟩
noncomputable def rEqD : RD := fun x y Q => okEq x y ∧ Q (.bl (eqD x y))
noncomputable def rNeD : RD := fun x y Q => okEq x y ∧ Q (.bl (!eqD x y))
theorem os_deep {K : PySem.W.Frag} {f : D → D → Bool} : OpS K (rDeep K f) (fun x y Q => okEq x y ∧ Q (.bl (f x y))) := fun G H x y dx dy Q Q2 s hx hy h k =>
  ⟨G, dx, dy, s, hx, hy, h.1, k _ G H _ (Ext.refl s) (.bl _) h.2⟩
variable {a b : Expr} {ta tb : TEd} {pos : Pos}
theorem de_eq (hu : X.A.units + 64 < cLine) (ha : DE X a ta) (hb : DE X b tb) (hm : behindInMarks .Eq b = false := by first | exact nomark _ | rfl) : DE X (.Compare a [.Eq] [b] pos) (dOp rEqD ta tb) := de_cmp (op_eqDeep hu) os_deep ha hb hm
theorem dt_eq (hu : X.A.units + 64 < cLine) (ha : DE X a ta) (hb : DE X b tb) (hm : behindInMarks .Eq b = false := by first | exact nomark _ | rfl) : DT X (.Compare a [.Eq] [b] pos) (dB (dOp rEqD ta tb)) := dt_cmp (op_eqDeep hu) os_deep ha hb hm
theorem dt_ne (hu : X.A.units + 64 < cLine) (ha : DE X a ta) (hb : DE X b tb) (hm : behindInMarks .NotEq b = false := by first | exact nomark _ | rfl) : DT X (.Compare a [.NotEq] [b] pos) (dB (dOp rNeD ta tb)) := dt_cmp (op_neDeep hu) os_deep ha hb hm
noncomputable def rII (g : Int → Int → D) : RD := fun x y Q => match x, y with
  | .int i, .int j => Q (g i j)
  | _, _ => False
noncomputable def rIC (C : Int → Int → Prop) (g : Int → Int → D) : RD := fun x y Q => match x, y with
  | .int i, .int j => C i j ∧ Q (g i j)
  | _, _ => False
theorem os_ii {K : PySem.W.Frag} {g : Int → Int → V} {gd : Int → Int → D} (hg : ∀ i j G, Den K G (g i j) (gd i j)) : OpS K (rI0 g) (rII gd) := fun G H x y dx dy Q Q2 s hx hy h k => by
  unfold rII at h
  split at h
  · cases hx.int_inv; cases hy.int_inv
    exact ⟨_, _, rfl, rfl, k _ G H _ (Ext.refl s) (hg _ _ _) h⟩
  · exact h.elim
theorem os_ic {K : PySem.W.Frag} {C : Int → Int → Prop} {g : Int → Int → V} {gd : Int → Int → D} (hg : ∀ i j G, Den K G (g i j) (gd i j)) : OpS K (rI C g) (rIC C gd) := fun G H x y dx dy Q Q2 s hx hy h k => by
  unfold rIC at h
  split at h
  · cases hx.int_inv; cases hy.int_inv
    exact ⟨_, _, rfl, rfl, h.1, k _ G H _ (Ext.refl s) (hg _ _ _) h.2⟩
  · exact h.elim
theorem de_mod (ha : DE X a ta) (hb : DE X b tb) : DE X (.BinOp a .Mod b pos) (dOp (rIC (fun _ j => 0 < j) fun i j => .int (i % j)) ta tb) := de_bin op_mod (os_ic fun _ _ _ => .int _) ha hb
theorem de_fdiv (ha : DE X a ta) (hb : DE X b tb) : DE X (.BinOp a .FloorDiv b pos) (dOp (rIC CDiv fun i j => .int (i / j)) ta tb) := de_bin op_fdiv (os_ic fun _ _ _ => .int _) ha hb
theorem dt_lt (ha : DE X a ta) (hb : DE X b tb) (hm : behindInMarks .Lt b = false := by first | exact nomark _ | rfl) : DT X (.Compare a [.Lt] [b] pos) (dB (dOp (rII fun i j => .bl (decide (i < j))) ta tb)) := dt_cmp op_lt (os_ii fun _ _ _ => .bl _) ha hb hm
theorem dt_gt (ha : DE X a ta) (hb : DE X b tb) (hm : behindInMarks .Gt b = false := by first | exact nomark _ | rfl) : DT X (.Compare a [.Gt] [b] pos) (dB (dOp (rII fun i j => .bl (decide (j < i))) ta tb)) := dt_cmp op_gt (os_ii fun _ _ _ => .bl _) ha hb hm
theorem dt_ge (ha : DE X a ta) (hb : DE X b tb) (hm : behindInMarks .GtE b = false := by first | exact nomark _ | rfl) : DT X (.Compare a [.GtE] [b] pos) (dB (dOp (rII fun i j => .bl (decide (j ≤ i))) ta tb)) := dt_cmp op_ge (os_ii fun _ _ _ => .bl _) ha hb hm
noncomputable def isNonD : D → Bool
  | .non => true
  | _ => false
noncomputable def rIsN : RD := fun x y Q => match y with
  | .non => Q (.bl (isNonD x))
  | _ => False
theorem isN_of {K : PySem.W.Frag} {G : Hp} {v : V} {d : D} (h : Den K G v d) : decide (v = .non) = isNonD d := by cases h <;> simp [isNonD]
theorem os_isN {K : PySem.W.Frag} : OpS K (fun x y H Q => y = .non ∧ Q (.bl (decide (x = .non))) H) rIsN := fun G H x y dx dy Q Q2 s hx hy h k => by
  unfold rIsN at h
  split at h
  · exact ⟨hy.non_inv, k _ G H _ (Ext.refl s) (by rw [isN_of hx]; exact .bl _) h⟩
  · exact h.elim
theorem dt_is (ha : DE X a ta) (hb : DE X b tb) (hm : behindInMarks .Is b = false := by first | exact nomark _ | rfl) : DT X (.Compare a [.Is] [b] pos) (dB (dOp rIsN ta tb)) := dt_cmp op_isN os_isN ha hb hm
noncomputable def rAddD : RD := fun x y Q => match x, y with
  | .int i, .int j => Q (.int (i + j))
  | .tup l, .tup m => l.length + m.length ≤ sizeLine ∧ Q (.tup (l ++ m))
  | .lst l, .lst m => l.length + m.length ≤ sizeLine ∧ Q (.lst (l ++ m))
  | .str i, .str j => i.length + j.length ≤ sizeLine ∧ Q (.str (i ++ j))
  | _, _ => False
noncomputable def rCatL (K : PySem.W.Frag) : R2 := fun x y H Q => ∃ l b xs zs, x = .ref l ∧ y = .ref b ∧ SqL K H l xs ∧ SqL K H b zs ∧ xs.length + zs.length ≤ sizeLine ∧ ∀ p, H p = none → Q (.ref p) (upd H p (.lst (xs ++ zs)))
noncomputable def rCatT0 (K : PySem.W.Frag) : R2 := fun x y H Q => ∃ a b ys, x = .ref a ∧ y = .ref b ∧ SqT K H a [] ∧ SqT K H b ys ∧ Q (.ref b) H
theorem op_catL : OpR X (binaryOp .Add) (rCatL X.K) := by
  intro pins s σ H x y v u Q I rx ry h
  obtain ⟨l, b, xs, zs, rfl, rfl, hH, hB, hz, q⟩ := h
  cases rx
  cases ry
  obtain ⟨its, r, pl, z⟩ := I.list hH
  obtain ⟨its2, r2, pl2, z2⟩ := I.list hB
  obtain ⟨⟨cls, dd, data, sl⟩, ho, hc, n, hd⟩ := pl.isList
  obtain ⟨⟨cls2, dd2, data2, sl2⟩, ho2, hc2, n2, hd2⟩ := pl2.isList
  simp only at hc hd hc2 hd2
  subst hc hd hc2 hd2
  have e : its.toArray ++ its2.toArray = (its ++ its2).toArray := by simp
  refine concat_meets ⟨_, ho, rfl⟩ ⟨_, ho2, rfl⟩ noFill_list_add seq_list_add PySem.F.slot_list_add PySem.F.entry_list_add (PySem.F.args_list_add_2 _ _) (list_addW l b its.toArray its2.toArray n n2 dd dd2 sl sl2 (by rw [List.size_toArray, List.size_toArray, ← r.length, ← r2.length]; exact hz)) ⟨ho, ho2, ?_⟩
  rw [e]
  exact ⟨.ref _, _, I.lnew (t' := s.toks) (r.append r2) (by rw [List.length_append]; omega), rfl, q _ I.fresh⟩
theorem op_catT0 : OpR X (binaryOp .Add) (rCatT0 X.K) := by
  intro pins s σ H x y v u Q I rx ry h
  obtain ⟨a, b, ys, rfl, rfl, ha, hb, q⟩ := h
  cases rx
  cases ry
  obtain ⟨its, r1, p1, _⟩ := I.tuple ha
  obtain ⟨its2, r2, p2, _⟩ := I.tuple hb
  cases r1
  obtain ⟨⟨cls, dd, data, sl⟩, ho, hc, n, hd⟩ := id p1
  obtain ⟨⟨cls2, dd2, data2, sl2⟩, ho2, hc2, n2, hd2⟩ := id p2
  simp only at hc hd hc2 hd2
  subst hc hd hc2 hd2
  exact concat_meets ⟨_, ho, rfl⟩ ⟨_, ho2, rfl⟩ noFill_tuple_add seq_tuple_add PySem.F.slot_tuple_add PySem.F.entry_tuple_add (PySem.F.args_tuple_add_2 _ _)
      (tuple_addW0 a b #[] its2.toArray n n2 dd dd2 sl sl2 rfl) ⟨ho, ho2, ⟨.ref b, H, I, rfl, q⟩⟩
theorem op_addAll : OpR X (binaryOp .Add) (fun x y H Q => rI0 (fun i j => .int (i + j)) x y H Q ∨ rCatT0 X.K x y H Q ∨ rCatT X.K x y H Q ∨ rCatL X.K x y H Q ∨ ∃ i j, x = .str i ∧ y = .str j ∧ i.length + j.length ≤ sizeLine ∧ Q (.str (i ++ j)) H) :=
  OpR.or op_add (OpR.or op_catT0 (OpR.or op_catT (OpR.or op_catL op_add_str)))
theorem os_add {K : PySem.W.Frag} : OpS K (fun x y H Q => rI0 (fun i j => .int (i + j)) x y H Q ∨ rCatT0 K x y H Q ∨ rCatT K x y H Q ∨ rCatL K x y H Q ∨ ∃ i j, x = .str i ∧ y = .str j ∧ i.length + j.length ≤ sizeLine ∧ Q (.str (i ++ j)) H) rAddD := fun G H x y dx dy Q Q2 s hx hy h k => by
  unfold rAddD at h
  split at h
  · cases hx.int_inv; cases hy.int_inv
    exact .inl ⟨_, _, rfl, rfl, k _ G H _ (Ext.refl s) (.int _) h⟩
  · obtain ⟨a, vs, rfl, ha, la⟩ := hx.tup_inv
    obtain ⟨b, ws, rfl, hb, lb⟩ := hy.tup_inv
    cases la with
    | nil => exact .inr (.inl ⟨a, b, ws, rfl, rfl, Same.tupS s ha, Same.tupS s hb, k _ G H _ (Ext.refl s) hy h.2⟩)
    | @cons v d vs l d1 la =>
      refine .inr (.inr (.inl ⟨a, b, _, ws, rfl, rfl, Same.tupS s ha, Same.tupS s hb, by simp, by rw [(DenL.cons d1 la).length, lb.length]; exact h.1, fun e => ?_, fun _ p hp => ?_⟩))
      · subst e
        cases lb
        refine k _ G H _ (Ext.refl s) hx ?_
        have := h.2
        rwa [List.append_nil] at this
      · exact k _ _ _ _ (Ext.laid s hp _) (.tup (SqT.of upd_same) ((DenL.append (DenL.cons d1 la) lb).up (same_upd (s.free hp) _))) h.2
  · obtain ⟨a, vs, rfl, ha, la⟩ := hx.lst_inv
    obtain ⟨b, ws, rfl, hb, lb⟩ := hy.lst_inv
    exact .inr (.inr (.inr (.inl ⟨a, b, vs, ws, rfl, rfl, s.seq ha, s.seq hb, by rw [la.length, lb.length]; exact h.1, fun p hp =>
      k _ _ _ _ (Ext.laid s hp _) (.lst (SqL.of upd_same) ((la.append lb).up (same_upd (s.free hp) _))) h.2⟩)))
  · cases hx.str_inv; cases hy.str_inv
    exact .inr (.inr (.inr (.inr ⟨_, _, rfl, rfl, h.1, k _ G H _ (Ext.refl s) (.str _) h.2⟩)))
  · exact h.elim
theorem de_mul (ha : DE X a ta) (hb : DE X b tb) : DE X (.BinOp a .Mult b pos) (dOp (rIC CMul fun i j => .int (i * j)) ta tb) := de_bin op_mul (os_ic fun _ _ _ => .int _) ha hb
noncomputable def rIxD : RD := fun x y Q => match x, y with
  | .tup l, .int i => match atI l i with
    | some d => Q d
    | none => False
  | .lst l, .int i => match atI l i with
    | some d => Q d
    | none => False
  | _, _ => False
theorem atI_den {K : PySem.W.Frag} {G : Hp} {vs : List V} {l : List D} {i : Int} {d : D} (h : DenL K G vs l) (e : atI l i = some d) : ∃ v, atI vs i = some v ∧ Den K G v d := by
  unfold atI at e ⊢
  rw [h.length]
  cases q : ixN l.length i with
  | none => (rw [q] at e; cases e)
  | some j =>
    rw [q] at e
    obtain ⟨v, h1, h2⟩ := h.get (i := j) e
    exact ⟨v, h1, h2⟩
theorem os_ix {K : PySem.W.Frag} : OpS K (rIx K) rIxD := fun G H x y dx dy Q Q2 s hx hy h k => by
  unfold rIxD at h
  split at h
  · obtain ⟨a, vs, rfl, ha, la⟩ := hx.tup_inv
    cases hy.int_inv
    split at h
    · rename_i d e
      obtain ⟨v, h1, h2⟩ := atI_den la e
      exact .inr (.inl ⟨a, vs, _, v, rfl, rfl, Same.tupS s ha, h1, k _ G H _ (Ext.refl s) h2 h⟩)
    · exact h.elim
  · obtain ⟨a, vs, rfl, ha, la⟩ := hx.lst_inv
    cases hy.int_inv
    split at h
    · rename_i d e
      obtain ⟨v, h1, h2⟩ := atI_den la e
      exact .inl ⟨a, vs, _, v, rfl, rfl, s.seq ha, h1, k _ G H _ (Ext.refl s) h2 h⟩
    · exact h.elim
  · exact h.elim
noncomputable abbrev TOd := Ev → (Option Int → Ev → Prop) → Prop
noncomputable def lO (K : PySem.W.Frag) (t : TOd) : TO := fun σ H Q2 => ∃ (n : En) (δ : Ev) (G : Hp) (Q : Option Int → Ev → Prop), Rel K n δ σ G H ∧ t δ Q ∧
  ∀ (o : Option Int) (G' H' : Hp) (δ' : Ev), Rel K n δ' σ G' H' → Same G G' → Q o δ' → Q2 o H'
theorem lO.el {K : PySem.W.Frag} {t : TOd} {σ H Q2} {P : Prop} (x : lO K t σ H Q2) (k : ∀ (n : En) (δ : Ev) (G : Hp) (Q : Option Int → Ev → Prop), (Rel K n δ σ G H) → (t δ Q) → (∀ (o : Option Int) (G' H' : Hp) (δ' : Ev), Rel K n δ' σ G' H' → Same G G' → Q o δ' → Q2 o H') → P) : P := by
  obtain ⟨n, δ, G, Q, h0, h1, h2⟩ := x
  exact k n δ G Q h0 h1 h2
noncomputable abbrev DO (X : Cx) (e : Option Expr) (t : TOd) : Prop := PO X e (lO X.K t)
theorem po_imp {e : Option Expr} {t t' : TO} (h : PO X e t) (hi : ∀ σ H Q, t' σ H Q → t σ H Q) : PO X e t' := fun pins s σ H Q I q => h pins s σ H Q I (hi σ H Q q)
noncomputable def dNoPart : TOd := fun δ Q => Q none δ
noncomputable def dPart (t : TEd) : TOd := fun δ Q => t δ fun x δ1 => match x with
  | .int i => Q (some i) δ1
  | _ => False
theorem do_none : DO X none dNoPart := po_imp po_none fun σ H Q2 hx => hx.el fun n δ G Q R h k => k none G H δ R (Same.refl _) h
theorem do_some (ha : DE X a ta) : DO X (some a) (dPart ta) := po_imp (po_some ha) fun σ H Q2 hx => hx.el fun n δ G Q R h k => ⟨n, δ, G, _, R, h, fun v G1 H1 d δ1 R1 s1 d1 h1 => by
  cases d with
  | int i => exact ⟨i, d1.int_inv, k _ G1 H1 δ1 R1 s1 h1⟩
  | _ => exact h1.elim⟩
noncomputable def cutD (xs : List D) (lo hi : Option Int) : List D := (xs.drop (HT.sIx xs.length 0 lo)).take (HT.sIx xs.length xs.length hi - HT.sIx xs.length 0 lo)
theorem cut_den {K : PySem.W.Frag} {G : Hp} {vs : List V} {l : List D} (h : DenL K G vs l) (lo hi : Option Int) : DenL K G (cutV vs lo hi) (cutD l lo hi) := by
  unfold cutV cutD
  rw [h.length]
  exact (h.drop _).take _
theorem SlR.or {r r' : V → Option Int → Option Int → Hp → VK → Prop} (h : SlR X r) (h' : SlR X r') : SlR X (fun x l u H Q => r x l u H Q ∨ r' x l u H Q) :=
  fun pins s σ H x v vl vu lo hi sl Q I rx hs pl pu q => q.elim (h pins s σ H x v vl vu lo hi sl Q I rx hs pl pu) (h' pins s σ H x v vl vu lo hi sl Q I rx hs pl pu)
variable {x : Str} {p : Pos} {e e2 : Expr} {es : List Expr} {t : TAd}
theorem denl1 {K : PySem.W.Frag} {G : Hp} {xs : List V} {d : D} (h : DenL K G xs [d]) : ∃ v, xs = [v] ∧ Den K G v d := by
  cases h with | cons h1 h2 => cases h2; exact ⟨_, rfl, h1⟩
noncomputable def cLen : RC := fun ds Q => match ds with
  | [.lst l] => Q (.int l.length)
  | [.tup l] => Q (.int l.length)
  | _ => False
theorem cs_len {K : PySem.W.Frag} : CallS K (fun xs H Q => ∃ p ys, xs = [.ref p] ∧ (SqL K H p ys ∨ SqT K H p ys) ∧ Q (.int ys.length) H) cLen := fun G H xs ds Q Q2 s hd h k => by
  unfold cLen at h
  split at h
  · obtain ⟨v, rfl, d1⟩ := denl1 hd
    obtain ⟨a, vs, rfl, ha, la⟩ := d1.lst_inv
    exact ⟨a, vs, rfl, .inl (s.seq ha), k _ G H _ (Ext.refl s) (by rw [la.length]; exact .int _) h⟩
  · obtain ⟨v, rfl, d1⟩ := denl1 hd
    obtain ⟨a, vs, rfl, ha, la⟩ := d1.tup_inv
    exact ⟨a, vs, rfl, .inr (Same.tupS s ha), k _ G H _ (Ext.refl s) (by rw [la.length]; exact .int _) h⟩
  · exact h.elim
end
end Dl
namespace Dl
open PySem PySem.Spec PyProof.Rows L2
section
variable {X : Cx} {te : TEd} {a : Expr} {ta : TEd} {pos : Pos}
noncomputable def iSeq (K : PySem.W.Frag) (tl : TE) : TI := fun σ H R => tl σ H fun x H1 => ∃ a, x = .ref a ∧ (((∃ xs, SqL K H1 a xs) ∧ R (Itl K a) H1) ∨ ((∃ xs, SqT K H1 a xs) ∧ R (Itt K a) H1))
theorem pi_seq {tg l : Expr} {tl : TE} (hl : PE X l tl) : PI X tg l (iSeq X.K tl) := by
  intro pins s σ H R I h
  refine thn (hl pins s σ H _ I h) fun v s1 ⟨x, H1, I1, r1, q1⟩ => ?_
  obtain ⟨a, e, q⟩ := q1
  subst e
  cases r1
  have fp : ∀ b ∈ [s1.heap.objs.size], FpOk X pins H1 b := fun b hb => by
    have e : b = s1.heap.objs.size := by simpa using hb
    subst e
    exact I1.fpOk (Nat.le_refl _) (I1.hok.fresh (Nat.le_refl _))
  rcases q with ⟨⟨xs, hq⟩, q⟩ | ⟨⟨xs, hq⟩, q⟩
  · obtain ⟨its, rv, p, hz⟩ := I1.list hq
    refine wpAny_pyIter_list p.isList ?_
    exact ⟨s1.heap.objs.size, [s1.heap.objs.size], _, _, H1, rfl, I1.kept (t' := s1.toks) fun b o e => Heap.get?_push_of_some _ e, turn_list a _, ⟨_, Heap.get?_push_size _ rfl, rfl, rfl⟩, fp, q⟩
  · obtain ⟨its, rv, p, hz⟩ := I1.tuple hq
    refine wpAny_pyIter_tuple (show s1.heap.IsTuple a its.toArray from p) ?_
    exact ⟨s1.heap.objs.size, [s1.heap.objs.size], _, _, H1, rfl, I1.kept (t' := s1.toks) fun b o e => Heap.get?_push_of_some _ e, turn_tuple a _, ⟨_, Heap.get?_push_size _ rfl, rfl, rfl⟩, fp, q⟩
noncomputable def dUn (r : D → (D → Prop) → Prop) (ta : TEd) : TEd := fun δ Q => ta δ fun x δ1 => r x fun d => Q d δ1
noncomputable def rNegD : D → (D → Prop) → Prop := fun x Q => match x with
  | .int i => Q (.int (-i))
  | _ => False
theorem de_neg (ha : DE X a ta) : DE X (.UnaryOp .USub a pos) (dUn rNegD ta) :=
  pe_imp (pe_un un_neg ha) fun σ H Q2 hx => hx.el fun n δ G Q R h k => ⟨n, δ, G, _, R, h, fun v G1 H1 d δ1 R1 s1 d1 h1 => by
    cases d with
    | int i => exact ⟨i, d1.int_inv, k _ G1 H1 _ δ1 R1 s1 (.int _) h1⟩
    | _ => exact h1.elim⟩
end
theorem sz0 : (0 ≤ sizeLine) = True := eq_true (by decide)
theorem sz1 : (1 ≤ sizeLine) = True := eq_true (by decide)
theorem sz2 : (2 ≤ sizeLine) = True := eq_true (by decide)
theorem sz3 : (3 ≤ sizeLine) = True := eq_true (by decide)
theorem sz4 : (4 ≤ sizeLine) = True := eq_true (by decide)
theorem sz5 : (5 ≤ sizeLine) = True := eq_true (by decide)
theorem sz6 : (6 ≤ sizeLine) = True := eq_true (by decide)
theorem sz7 : (7 ≤ sizeLine) = True := eq_true (by decide)
theorem sz8 : (8 ≤ sizeLine) = True := eq_true (by decide)
theorem sz9 : (9 ≤ sizeLine) = True := eq_true (by decide)
theorem sz10 : (10 ≤ sizeLine) = True := eq_true (by decide)
theorem sz11 : (11 ≤ sizeLine) = True := eq_true (by decide)
theorem sz12 : (12 ≤ sizeLine) = True := eq_true (by decide)
theorem sz13 : (13 ≤ sizeLine) = True := eq_true (by decide)
theorem sz14 : (14 ≤ sizeLine) = True := eq_true (by decide)
theorem sz15 : (15 ≤ sizeLine) = True := eq_true (by decide)
theorem sz16 : (16 ≤ sizeLine) = True := eq_true (by decide)
theorem sz17 : (17 ≤ sizeLine) = True := eq_true (by decide)
theorem sz18 : (18 ≤ sizeLine) = True := eq_true (by decide)
theorem sz19 : (19 ≤ sizeLine) = True := eq_true (by decide)
theorem sz20 : (20 ≤ sizeLine) = True := eq_true (by decide)
theorem sz21 : (21 ≤ sizeLine) = True := eq_true (by decide)
theorem sz22 : (22 ≤ sizeLine) = True := eq_true (by decide)
theorem sz23 : (23 ≤ sizeLine) = True := eq_true (by decide)
theorem sz24 : (24 ≤ sizeLine) = True := eq_true (by decide)
theorem sz25 : (25 ≤ sizeLine) = True := eq_true (by decide)
theorem sz26 : (26 ≤ sizeLine) = True := eq_true (by decide)
theorem sz27 : (27 ≤ sizeLine) = True := eq_true (by decide)
theorem sz28 : (28 ≤ sizeLine) = True := eq_true (by decide)
theorem sz29 : (29 ≤ sizeLine) = True := eq_true (by decide)
theorem sz30 : (30 ≤ sizeLine) = True := eq_true (by decide)
theorem okEq_of {d e : D} (h1 : d.ok = true) (h2 : e.ok = true) (h3 : min d.dep e.dep ≤ 60) : okEq d e = True := eq_true ⟨h1, h2, h3⟩
theorem okEq_non_non : okEq (D.non) (D.non) = True := okEq_of rfl rfl (Nat.le_of_lt_succ (by decide : 0 < 61))
theorem okEq_non_bl {b : Bool} : okEq (D.non) (D.bl b) = True := okEq_of rfl rfl (Nat.le_of_lt_succ (by decide : 0 < 61))
theorem okEq_non_int {j : Int} : okEq (D.non) (D.int j) = True := okEq_of rfl rfl (Nat.le_of_lt_succ (by decide : 0 < 61))
theorem okEq_bl_non {a : Bool} : okEq (D.bl a) (D.non) = True := okEq_of rfl rfl (Nat.le_of_lt_succ (by decide : 0 < 61))
theorem okEq_bl_bl {a : Bool} {b : Bool} : okEq (D.bl a) (D.bl b) = True := okEq_of rfl rfl (Nat.le_of_lt_succ (by decide : 0 < 61))
theorem okEq_bl_int {a : Bool} {j : Int} : okEq (D.bl a) (D.int j) = True := okEq_of rfl rfl (Nat.le_of_lt_succ (by decide : 0 < 61))
theorem okEq_int_non {i : Int} : okEq (D.int i) (D.non) = True := okEq_of rfl rfl (Nat.le_of_lt_succ (by decide : 0 < 61))
theorem okEq_int_bl {i : Int} {b : Bool} : okEq (D.int i) (D.bl b) = True := okEq_of rfl rfl (Nat.le_of_lt_succ (by decide : 0 < 61))
theorem okEq_int_int {i : Int} {j : Int} : okEq (D.int i) (D.int j) = True := okEq_of rfl rfl (Nat.le_of_lt_succ (by decide : 0 < 61))
theorem dFor_by (W : Nat → Ev → Prop) {ti : TId} {g : TGd} {tb : TSd} {E : EndsD} {δ : Ev} (items : List D) (δ1 : Ev) (h0 : ∀ Q : List D → Ev → Prop, Q items δ1 → ti δ Q) (w0 : W 0 δ1)
    (step : ∀ (i : Nat) (d : D) (δ2 : Ev), items[i]? = some d → W i δ2 → g d δ2 fun δ3 => tb { E with nx := W (i + 1), ct := W (i + 1), bk := E.nx } δ3) (fin : ∀ δ2, W items.length δ2 → E.nx δ2) : dFor ti g tb E δ := h0 _ ⟨W, w0, step, fin⟩
end Dl
namespace Dl
open PySem PySem.Spec PyProof.Rows L2
noncomputable def rF (f : D → D → Option D) : RD := fun x y Q => ∃ d, f x y = some d ∧ Q d
noncomputable def seqF : D → Option (List D)
  | .lst l => some l
  | .tup l => some l
  | _ => none
noncomputable def addF : D → D → Option D
  | .int i, .int j => some (.int (i + j))
  | .tup l, .tup m => if l.length + m.length ≤ sizeLine then some (.tup (l ++ m)) else none
  | .lst l, .lst m => if l.length + m.length ≤ sizeLine then some (.lst (l ++ m)) else none
  | .str i, .str j => if i.length + j.length ≤ sizeLine then some (.str (i ++ j)) else none
  | _, _ => none
noncomputable def ixF : D → D → Option D
  | .lst l, .int i => atI l i
  | .tup l, .int i => atI l i
  | _, _ => none
noncomputable def cLenF : RC := fun ds Q => match ds with
  | [d] => ∃ l, seqF d = some l ∧ Q (.int l.length)
  | _ => False
noncomputable def diSeqF (te : TEd) : TId := fun δ Q => te δ fun d δ1 => ∃ l, seqF d = some l ∧ Q l δ1
noncomputable def truF : D → Option Bool
  | .non => some false
  | .bl b => some b
  | .int i => some (i != 0)
  | .str y => if y.length ≤ sizeLine then some ((y.length : Int) != 0) else none
  | .tup l => some (!l.isEmpty)
  | .lst l => some (!l.isEmpty)
noncomputable def dTruF (t : TEd) : TTd := fun δ Q => t δ fun x δ1 => ∃ b, truF x = some b ∧ Q b δ1
noncomputable def slF : D → Option Int → Option Int → Option D
  | .lst l, lo, hi => some (.lst (cutD l lo hi))
  | .tup l, lo, hi => some (.tup (cutD l lo hi))
  | _, _, _ => none
section
variable {X : Cx} {a b : Expr} {ta tb te : TEd} {pos : Pos}
theorem os_imp {K : PySem.W.Frag} {r2 : R2} {r r' : RD} (h : OpS K r2 r) (hi : ∀ x y Q, r' x y Q → r x y Q) : OpS K r2 r' := fun G H x y dx dy Q Q2 s hx hy q k => h G H x y dx dy Q Q2 s hx hy (hi dx dy Q q) k
theorem cs_imp {K : PySem.W.Frag} {r2 : List V → Hp → VK → Prop} {r r' : RC} (h : CallS K r2 r) (hi : ∀ ds Q, r' ds Q → r ds Q) : CallS K r2 r' := fun G H xs ds Q Q2 s hd q k => h G H xs ds Q Q2 s hd (hi ds Q q) k
theorem seqF_some {d : D} {l : List D} (h : seqF d = some l) : d = .lst l ∨ d = .tup l := by
  cases d <;> simp only [seqF, Option.some.injEq, reduceCtorEq] at h
  · subst h; exact .inr rfl
  · subst h; exact .inl rfl
theorem add_imp : ∀ x y Q, rF addF x y Q → rAddD x y Q := by
  rintro x y Q ⟨d, e, q⟩
  unfold addF at e
  split at e
  · cases e; exact q
  · split at e
    · cases e; exact ⟨by assumption, q⟩
    · cases e
  · split at e
    · cases e; exact ⟨by assumption, q⟩
    · cases e
  · split at e
    · cases e; exact ⟨by assumption, q⟩
    · cases e
  · cases e
theorem ix_imp : ∀ x y Q, rF ixF x y Q → rIxD x y Q := by
  rintro x y Q ⟨d, e, q⟩
  unfold ixF at e
  split at e
  · simp only [rIxD, e]; exact q
  · simp only [rIxD, e]; exact q
  · cases e
theorem len_imp : ∀ ds Q, cLenF ds Q → cLen ds Q := by
  intro ds Q h
  unfold cLenF at h
  split at h
  · obtain ⟨l, e, q⟩ := h
    rcases seqF_some e with rfl | rfl <;> exact q
  · exact h.elim
theorem tru_imp {d : D} {Q : Bool → Prop} (h : ∃ b, truF d = some b ∧ Q b) : truD d Q := by
  obtain ⟨b, e, q⟩ := h
  unfold truF at e
  split at e
  · cases e; exact q
  · cases e; exact q
  · cases e; exact q
  · split at e
    · cases e; exact ⟨by assumption, q⟩
    · cases e
  · cases e; exact q
  · cases e; exact q
theorem de_addF (ha : DE X a ta) (hb : DE X b tb) : DE X (.BinOp a .Add b pos) (dOp (rF addF) ta tb) := de_bin op_addAll (os_imp os_add add_imp) ha hb
theorem de_ixF (ha : DE X a ta) (hb : DE X b tb) (hp : PlainIx b := by exact fun _ _ => rfl) : DE X (.Subscript a b pos) (dOp (rF ixF) ta tb) := de_ixG ix_seq (os_imp os_ix ix_imp) ha hb hp
theorem dt_truF (ha : DE X a ta) (he : ∀ whole, isTrue a X.env whole = (do let v ← whole; standAt a.pos; holding [v] (truthy v)) := by intro _; rfl) : DT X a (dTruF ta) :=
  pt_imp (pt_truth ha he) fun σ H Q2 hx => hx.el fun n δ G Q R h k => ⟨n, δ, G, _, R, h, fun v G1 H1 d δ1 R1 s1 d1 h1 => by
    obtain ⟨b, hb, hq⟩ := truV_of R1.sub d1 (tru_imp h1)
    exact ⟨b, hb, k b G1 H1 δ1 R1 s1 hq⟩⟩
theorem di_seqF {tg l : Expr} (hl : DE X l te) : DI X tg l (diSeqF te) :=
  pi_imp (pi_seq hl) fun σ H R2 hx => hx.el fun n δ G Q R h k => ⟨n, δ, G, _, R, h, fun v G1 H1 d δ1 R1 s1 d1 ⟨l, e, h1⟩ => by
    rcases seqF_some e with rfl | rfl
    · obtain ⟨a, vs, rfl, hq, hl⟩ := d1.lst_inv
      exact ⟨a, rfl, .inl ⟨⟨vs, R1.sub.seq hq⟩, k _ G1 H1 l δ1 R1 s1 (jok_list hq hl) h1⟩⟩
    · obtain ⟨a, vs, rfl, hq, hl⟩ := d1.tup_inv
      exact ⟨a, rfl, .inr ⟨⟨vs, Same.tupS R1.sub hq⟩, k _ G1 H1 l δ1 R1 s1 (jok_tup hq hl) h1⟩⟩⟩
variable {p : Pos} {e : Expr} {es : List Expr} {t : TAd}
theorem de_lenF (hm : X.mg "len" = none) (ha : DA X (e :: es) t) (hg : Gl X "len" := by rfl) (he : starEach (e :: es) X.env = (false, eval e X.env) :: starEach es X.env := by rfl) (hpl : (backTo pos (starEach es X.env)).any (·.1) = false := by rfl) : DE X (.Call (.Name "len" p) (e :: es) [] pos) (dCall cLenF t) :=
  de_callB call_len_seq (cs_imp cs_len len_imp) hm PySem.boot_len ha hg (by decide) (by decide) he hpl
end
theorem atI_0 {α : Type} {d : α} {l : List α} : atI (d :: l) 0 = some d := atI_nat (j := 0) rfl
theorem atI_1 {α : Type} {d d1 : α} {l : List α} : atI (d :: d1 :: l) 1 = some d1 := atI_nat (j := 1) rfl
theorem atI_2 {α : Type} {d d1 d2 : α} {l : List α} : atI (d :: d1 :: d2 :: l) 2 = some d2 := atI_nat (j := 2) rfl
theorem atI_3 {α : Type} {d d1 d2 d3 : α} {l : List α} : atI (d :: d1 :: d2 :: d3 :: l) 3 = some d3 := atI_nat (j := 3) rfl
theorem atI_4 {α : Type} {d d1 d2 d3 d4 : α} {l : List α} : atI (d :: d1 :: d2 :: d3 :: d4 :: l) 4 = some d4 := atI_nat (j := 4) rfl
theorem atI_5 {α : Type} {d d1 d2 d3 d4 d5 : α} {l : List α} : atI (d :: d1 :: d2 :: d3 :: d4 :: d5 :: l) 5 = some d5 := atI_nat (j := 5) rfl
theorem eqD_non_non : eqD (D.non) (D.non) = true := rfl
theorem eqD_non_bl {y : Bool} : eqD (D.non) (D.bl y) = false := rfl
theorem eqD_non_int {y : Int} : eqD (D.non) (D.int y) = false := rfl
theorem eqD_non_str {y : Str} : eqD (D.non) (D.str y) = false := rfl
theorem eqD_non_tup {y : List D} : eqD (D.non) (D.tup y) = false := rfl
theorem eqD_non_lst {y : List D} : eqD (D.non) (D.lst y) = false := rfl
theorem eqD_bl_non {x : Bool} : eqD (D.bl x) (D.non) = false := rfl
theorem eqD_bl_bl {x : Bool} {y : Bool} : eqD (D.bl x) (D.bl y) = (x == y) := rfl
theorem eqD_bl_int {x : Bool} {y : Int} : eqD (D.bl x) (D.int y) = ((if x then 1 else 0) == y) := rfl
theorem eqD_bl_str {x : Bool} {y : Str} : eqD (D.bl x) (D.str y) = false := rfl
theorem eqD_bl_tup {x : Bool} {y : List D} : eqD (D.bl x) (D.tup y) = false := rfl
theorem eqD_bl_lst {x : Bool} {y : List D} : eqD (D.bl x) (D.lst y) = false := rfl
theorem eqD_int_non {x : Int} : eqD (D.int x) (D.non) = false := rfl
theorem eqD_int_bl {x : Int} {y : Bool} : eqD (D.int x) (D.bl y) = (x == (if y then 1 else 0)) := rfl
theorem eqD_int_int {x : Int} {y : Int} : eqD (D.int x) (D.int y) = (x == y) := rfl
theorem eqD_int_str {x : Int} {y : Str} : eqD (D.int x) (D.str y) = false := rfl
theorem eqD_int_tup {x : Int} {y : List D} : eqD (D.int x) (D.tup y) = false := rfl
theorem eqD_int_lst {x : Int} {y : List D} : eqD (D.int x) (D.lst y) = false := rfl
theorem eqD_str_non {x : Str} : eqD (D.str x) (D.non) = false := rfl
theorem eqD_str_bl {x : Str} {y : Bool} : eqD (D.str x) (D.bl y) = false := rfl
theorem eqD_str_int {x : Str} {y : Int} : eqD (D.str x) (D.int y) = false := rfl
theorem eqD_str_str {x : Str} {y : Str} : eqD (D.str x) (D.str y) = (x == y) := rfl
theorem eqD_str_tup {x : Str} {y : List D} : eqD (D.str x) (D.tup y) = false := rfl
theorem eqD_str_lst {x : Str} {y : List D} : eqD (D.str x) (D.lst y) = false := rfl
theorem eqD_tup_non {x : List D} : eqD (D.tup x) (D.non) = false := rfl
theorem eqD_tup_bl {x : List D} {y : Bool} : eqD (D.tup x) (D.bl y) = false := rfl
theorem eqD_tup_int {x : List D} {y : Int} : eqD (D.tup x) (D.int y) = false := rfl
theorem eqD_tup_str {x : List D} {y : Str} : eqD (D.tup x) (D.str y) = false := rfl
theorem eqD_tup_tup {x : List D} {y : List D} : eqD (D.tup x) (D.tup y) = eqDL x y := rfl
theorem eqD_tup_lst {x : List D} {y : List D} : eqD (D.tup x) (D.lst y) = false := rfl
theorem eqD_lst_non {x : List D} : eqD (D.lst x) (D.non) = false := rfl
theorem eqD_lst_bl {x : List D} {y : Bool} : eqD (D.lst x) (D.bl y) = false := rfl
theorem eqD_lst_int {x : List D} {y : Int} : eqD (D.lst x) (D.int y) = false := rfl
theorem eqD_lst_str {x : List D} {y : Str} : eqD (D.lst x) (D.str y) = false := rfl
theorem eqD_lst_tup {x : List D} {y : List D} : eqD (D.lst x) (D.tup y) = false := rfl
theorem eqD_lst_lst {x : List D} {y : List D} : eqD (D.lst x) (D.lst y) = eqDL x y := rfl
theorem eqDL_nil_nil : eqDL [] [] = true := rfl
theorem eqDL_nil_cons {d : D} {l : List D} : eqDL [] (d :: l) = false := rfl
theorem eqDL_cons_nil {d : D} {l : List D} : eqDL (d :: l) [] = false := rfl
theorem eqDL_cons_cons {d e : D} {l m : List D} : eqDL (d :: l) (e :: m) = (eqD d e && eqDL l m) := rfl
theorem isNonD_non : isNonD .non = true := rfl
theorem isNonD_int {i : Int} : isNonD (.int i) = false := rfl
theorem isNonD_bl {i : Bool} : isNonD (.bl i) = false := rfl
theorem isNonD_str {i : Str} : isNonD (.str i) = false := rfl
theorem isNonD_tup {i : List D} : isNonD (.tup i) = false := rfl
theorem isNonD_lst {i : List D} : isNonD (.lst i) = false := rfl
theorem addF_int {i j : Int} : addF (.int i) (.int j) = some (.int (i + j)) := rfl
theorem addF_tup {l m : List D} : addF (.tup l) (.tup m) = if l.length + m.length ≤ sizeLine then some (.tup (l ++ m)) else none := rfl
theorem addF_lst {l m : List D} : addF (.lst l) (.lst m) = if l.length + m.length ≤ sizeLine then some (.lst (l ++ m)) else none := rfl
theorem addF_str {i j : Str} : addF (.str i) (.str j) = if i.length + j.length ≤ sizeLine then some (.str (i ++ j)) else none := rfl
theorem ixF_tup {l : List D} {i : Int} : ixF (.tup l) (.int i) = atI l i := rfl
theorem ixF_lst {l : List D} {i : Int} : ixF (.lst l) (.int i) = atI l i := rfl
theorem seqF_tup {l : List D} : seqF (.tup l) = some l := rfl
theorem seqF_lst {l : List D} : seqF (.lst l) = some l := rfl
theorem truF_non : truF .non = some false := rfl
theorem truF_bl {b : Bool} : truF (.bl b) = some b := rfl
theorem truF_int {i : Int} : truF (.int i) = some (i != 0) := rfl
theorem truF_tup {l : List D} : truF (.tup l) = some (!l.isEmpty) := rfl
theorem truF_lst {l : List D} : truF (.lst l) = some (!l.isEmpty) := rfl
theorem slF_lst {l : List D} {lo hi : Option Int} : slF (.lst l) lo hi = some (.lst (cutD l lo hi)) := rfl
theorem slF_tup {l : List D} {lo hi : Option Int} : slF (.tup l) lo hi = some (.tup (cutD l lo hi)) := rfl
end Dl
namespace Dl
open PySem PySem.Spec PyProof.Rows L2
theorem clos_go {env : PySem.Env} : ∀ (names : List (Str × NameKind)) (cs : List (Str × Addr)), (∀ x ∈ names, x.2 = NameKind.free → ∃ c, env.cells.lookup x.1 = some c) →
    (∀ x c, cs.lookup x = some c → env.cells.lookup x = some c) →
    ∃ cl, (forIn names cs fun x r => if (x.snd == NameKind.free) = true then do let c ← cellOf env x.fst; pure (ForInStep.yield ((x.fst, c) :: r)) else pure (ForInStep.yield r) : Sem (List (Str × Addr))) = pure cl ∧
      (∀ x c, cl.lookup x = some c → env.cells.lookup x = some c) ∧ ∀ x, ((∃ c, cs.lookup x = some c) ∨ (x, NameKind.free) ∈ names) → ∃ c, cl.lookup x = some c
  | [], cs, _, h => ⟨cs, rfl, h, fun x hx => hx.elim id fun z => absurd z (by simp)⟩
  | (n, k) :: r, cs, hf, h => by
    by_cases hk : k = .free
    · subst hk
      obtain ⟨c, hc⟩ := hf (n, .free) List.mem_cons_self rfl
      obtain ⟨cl, e, h1, h2⟩ := clos_go r ((n, c) :: cs) (fun x hx => hf x (List.mem_cons_of_mem _ hx)) (fun x d hx => by
        rw [List.lookup_cons] at hx
        split at hx
        · rename_i q; cases hx; rw [eq_of_beq q]; exact hc
        · exact h x d hx)
      refine ⟨cl, ?_, h1, fun x hx => h2 x ?_⟩
      · rw [List.forIn_cons, ← e]
        have e0 : cellOf env n = pure c := by unfold cellOf; rw [hc]
        simp only [beq_self_eq_true, if_true, e0]
        rfl
      · rcases hx with ⟨d, hx⟩ | hx
        · left
          rw [List.lookup_cons]
          split
          · exact ⟨_, rfl⟩
          · exact ⟨d, hx⟩
        · rcases List.mem_cons.mp hx with z | z
          · cases z
            left
            exact ⟨c, by rw [List.lookup_cons, beq_self_eq_true]⟩
          · exact .inr z
    · obtain ⟨cl, e, h1, h2⟩ := clos_go r cs (fun x hx => hf x (List.mem_cons_of_mem _ hx)) h
      refine ⟨cl, ?_, h1, fun x hx => h2 x ?_⟩
      · rw [List.forIn_cons, ← e]
        have : (k == NameKind.free) = false := by simpa using hk
        simp only [this, Bool.false_eq_true, if_false]
        rfl
      · rcases hx with hx | hx
        · exact .inl hx
        · rcases List.mem_cons.mp hx with z | z
          · cases z; exact absurd rfl hk
          · exact .inr z
theorem clos_of {env : PySem.Env} {scope : Scope} (hf : ∀ x ∈ scope.names, x.2 = NameKind.free → ∃ c, env.cells.lookup x.1 = some c) :
    ∃ cl, closureFor scope env = pure cl ∧ (∀ x c, cl.lookup x = some c → env.cells.lookup x = some c) ∧ ∀ x, (x, NameKind.free) ∈ scope.names → ∃ c, cl.lookup x = some c := by
  obtain ⟨cl, e, h1, h2⟩ := clos_go scope.names [] hf (fun x c h => by simp at h)
  refine ⟨cl, ?_, h1, fun x hx => h2 x (.inr hx)⟩
  simp only [closureFor]
  rw [e]
  rfl
theorem lookup_relabel {env : PySem.Env} {x : Str} : ∀ {names : List (Str × NameKind)},
    (names.map fun (n, k) => if (k == NameKind.free && env.scope.kind == .function && env.kindOf n == some .cell) then (n, NameKind.cell) else (n, k)).lookup x =
      (names.lookup x).map fun k => if (k == NameKind.free && env.scope.kind == .function && env.kindOf x == some .cell) then NameKind.cell else k
  | [] => rfl
  | (n, k) :: r => by
    have ih := @lookup_relabel env x r
    rw [List.map_cons]
    by_cases hx : x = n
    · subst hx
      have e1 : List.lookup x ((x, k) :: r) = some k := by rw [List.lookup_cons, beq_self_eq_true]
      rw [e1, Option.map_some]
      dsimp only
      split
      · rw [List.lookup_cons, beq_self_eq_true]
      · rw [List.lookup_cons, beq_self_eq_true]
    · have hb : (x == n) = false := by simpa using hx
      have e1 : List.lookup x ((n, k) :: r) = List.lookup x r := by rw [List.lookup_cons, hb]
      rw [e1, ← ih]
      dsimp only
      split
      · rw [List.lookup_cons, hb]
      · rw [List.lookup_cons, hb]
theorem mem_of_look {x : Str} {k : NameKind} : ∀ {names : List (Str × NameKind)}, names.lookup x = some k → (x, k) ∈ names
  | [], h => by simp at h
  | (n, j) :: r, h => by
    rw [List.lookup_cons] at h
    split at h
    · rename_i q; cases h; rw [eq_of_beq q]; exact List.mem_cons_self
    · exact List.mem_cons_of_mem _ (mem_of_look h)
theorem cf_app : ∀ (names : List (Str × NameKind)) (n : Nat) (acc : List (Str × Addr)), cellsFrom n names acc = cellsFrom n names [] ++ acc
  | [], _, _ => rfl
  | (x, k) :: r, n, acc => by
    unfold cellsFrom
    split
    · rw [cf_app r (n + 1) ((x, n) :: acc), cf_app r (n + 1) [(x, n)], List.append_assoc]; rfl
    · exact cf_app r n acc
theorem cf_mem {x : Str} {c : Addr} : ∀ (names : List (Str × NameKind)) (n : Nat), (x, c) ∈ cellsFrom n names [] → (x, NameKind.cell) ∈ names
  | [], _, h => nomatch h
  | (y, k) :: r, n, h => by
    unfold cellsFrom at h
    split at h
    · rename_i hk
      rw [cf_app] at h
      rcases List.mem_append.mp h with h | h
      · exact List.mem_cons_of_mem _ (cf_mem r (n + 1) h)
      · rw [List.mem_singleton] at h
        cases h
        rw [eq_of_beq hk]
        exact List.mem_cons_self
    · exact List.mem_cons_of_mem _ (cf_mem r n h)
theorem wpAny_compEnv {M : Model} {A : Around} {E : Value → Shared → Prop} {s : Shared} {scope : Scope} {g : Addr} {cl : List (Str × Addr)} {q : Str} {env : PySem.Env} {Q : PySem.Env → Shared → Prop}
    (h : Q (newEnv scope s.heap.objs.size g (cellsFrom (s.heap.objs.size + 1) scope.names cl) q none .none (some env) builtinsNs) { s with heap := pushCells (s.heap.push { cls := .type "dict", data := .dict #[] }) scope.names }) :
    wpAny M A (newFunctionEnv scope g cl [] q none .none (some env)) Q E s := by
  simp only [newFunctionEnv, Option.isSome_some, if_true]
  refine wpAny_bind (wpAny_alloc ?_)
  refine wpAny_bind (wpAny_layCells _ (fun name kind cells => by cases hkc : kind == NameKind.cell <;> simp [hkc]) _ _ _ _ ?_)
  rw [show ({ s with heap := s.heap.push { cls := .type "dict", data := .dict #[] } } : Shared).heap.objs.size = s.heap.objs.size + 1 from Heap.size_push ..]
  exact wpAny_bind (by rw [List.forIn_nil]; exact wpAny_pure (wpAny_pure h))
structure OwnC (scope : Scope) (own : List (Str × Addr)) (L : Addr) (h : Heap) : Prop where
  new : ∀ x c, own.lookup x = some c → L < c ∧ h.IsCell c none
  apart : own.Pairwise fun x y => x.2 ≠ y.2
  has : ∀ x, scope.names.lookup x = some .cell → ∃ c, own.lookup x = some c
  free : ∀ x, (x, NameKind.free) ∈ scope.names → own.lookup x = none
theorem ownC_of {scope : Scope} {h : Heap} (hd : ∀ x, (x, NameKind.free) ∈ scope.names → (x, NameKind.cell) ∉ scope.names) :
    OwnC scope (cellsFrom (h.objs.size + 1) scope.names []) h.objs.size (pushCells (h.push { cls := .type "dict", data := .dict #[] }) scope.names) := by
  have ok := cellsFrom_ok scope.names (h.push { cls := .type "dict", data := .dict #[] }) (h.objs.size + 1) [] ⟨fun _ _ hm => (nomatch hm), List.Pairwise.nil⟩ (by rw [Heap.size_push]; exact Nat.le_refl _)
  rw [Heap.size_push] at ok
  refine ⟨fun x c e => ⟨(ok.empty x c (PySem.mem_of_lookup e)).2, (ok.empty x c (PySem.mem_of_lookup e)).1⟩, ok.apart, fun x e => Option.isSome_iff_exists.mp (PySem.W.cellsFrom_some _ _ _ (.inl e)), fun x hx => ?_⟩
  cases q : (cellsFrom (h.objs.size + 1) scope.names []).lookup x with
  | none => rfl
  | some c => exact absurd (cf_mem _ _ (PySem.mem_of_lookup q)) (hd x hx)
noncomputable def cxComp (X : Cx) (N : List Str) (scope : Scope) (cl : List (Str × Addr)) (C : Addr) (ex : List Addr) (s : Shared) (H : Hp) : Cx where
  prog := X.prog
  w := X.w
  K := X.K
  mg := X.mg
  base := X.base
  A := X.A
  N := N
  s₀ := s
  H₀ := H
  env := compEnvC scope cl C X.env
  outer := X.stack
  stack := X.stack
  ex := ex
  fn := fun x => scope.names.lookup x == some .cell
  calm := X.calm
  pn := []
  xe := fun _ _ => False
section
variable {X : Cx} {pins : List (Addr × Obj)} {σ : L2.St} {H : Hp} {s : Shared} {N' : List Str} {scope : Scope} {cl : List (Str × Addr)} {fp : List Addr} {k : Nat} {h₁ : Heap} {tk : Nat}
theorem comp_inv {own : List (Str × Addr)} (I : Inv X pins σ H s) (hkind : scope.kind = .function) (hcl1 : ∀ x c, cl.lookup x = some c → X.env.cells.lookup x = some c) (hcl2 : ∀ x, (x, NameKind.free) ∈ scope.names → ∃ c, cl.lookup x = some c)
    (ow : OwnC scope own s.heap.objs.size h₁) (hN : N'.length = X.N.length + k)
    (hcap : ∀ (i : Nat) (x : Str), N'[i]? = some x → i < X.N.length → Vis (relabel scope X.env) x → X.N[i]? = some x ∧ scope.names.lookup x = some .free ∧ X.env.scope.names.lookup x = some .cell)
    (f : ∀ b ∈ fp, FpOk X pins H b) (fo : ∀ b ∈ fp, b < s.heap.objs.size) (hns : h₁.Ns s.heap.objs.size fun _ => none) (hk : ∀ b o, s.heap.get? b = some o → h₁.get? b = some o) :
    Inv (cxComp X N' scope (own ++ cl) s.heap.objs.size fp s H) [] (σ ++ List.replicate k none) H { s with heap := h₁, toks := tk } := by
  have kin : ∀ x, (relabel scope X.env).names.lookup x = (scope.names.lookup x).map fun k => if (k == NameKind.free && X.env.scope.kind == .function && X.env.kindOf x == some .cell) then NameKind.cell else k := fun x => lookup_relabel
  have two : ∀ x c, (own ++ cl).lookup x = some c → own.lookup x = some c ∨ X.env.cells.lookup x = some c := fun x c e => by
    rw [List.lookup_append] at e
    cases q : own.lookup x with
    | none => rw [q] at e; exact .inr (hcl1 x c e)
    | some d => rw [q] at e; exact .inl e
  have cap : ∀ x c, (x, NameKind.free) ∈ scope.names → cl.lookup x = some c → (own ++ cl).lookup x = some c := fun x c hx e => by rw [List.lookup_append, ow.free x hx]; exact e
  have old : ∀ x c, X.env.cells.lookup x = some c → c < s.heap.objs.size := fun x c e => let ⟨_, o, ho, _⟩ := I.cell x c e; Heap.lt_size ho
  have fre : ∀ x, ((relabel scope X.env).names.lookup x = some .cell ∨ (relabel scope X.env).names.lookup x = some .free) → scope.names.lookup x = some .cell ∨ (x, NameKind.free) ∈ scope.names := fun x hx => by
    rw [kin x] at hx
    cases q : scope.names.lookup x with
    | none => rw [q] at hx; simp at hx
    | some k =>
      have hm := mem_of_look q
      cases k with
      | free => exact .inr hm
      | cell => exact .inl rfl
      | _ => rw [q] at hx; simp at hx
  have lt : ∀ b o, X.base.get? b = some o → b < X.s₀.heap.objs.size := fun b o e => Heap.lt_size (I.ok.bs b o e).1
  have okX : (cxComp X N' scope (own ++ cl) s.heap.objs.size fp s H).Ok := by
    refine ⟨I.ok.mod, hkind, I.ok.glob, I.ok.blt, Nat.le_refl _, fun x y c h1 h2 => ?_, fun x hx => ?_, fun x c h e => ?_, I.ok.hd, I.ok.frames, .inl rfl,
      fun b hb => ⟨Nat.ne_of_lt (fo b hb), fun x c e => ?_⟩, fun b o e => I.bs b o e, Nat.le_trans I.ok.bsz I.sz, fun b o e hb => ?_, fun b hb z => ?_, I.stack, I.stkFree⟩
    · rcases two x c h1 with a | a <;> rcases two y c h2 with b | b
      · exact name_of_addr ow.apart (PySem.mem_of_lookup a) (PySem.mem_of_lookup b)
      · exact absurd (Nat.lt_trans (ow.new x c a).1 (old y c b)) (Nat.lt_irrefl _)
      · exact absurd (Nat.lt_trans (ow.new y c b).1 (old x c a)) (Nat.lt_irrefl _)
      · exact I.ok.inj x y c a b
    · rcases fre x hx with z | z
      · obtain ⟨c, hc⟩ := ow.has x z
        exact ⟨c, by show (own ++ cl).lookup x = _; rw [List.lookup_append, hc]; rfl⟩
      · obtain ⟨c, hc⟩ := hcl2 x z
        exact ⟨c, cap x c z hc⟩
    · obtain ⟨d, hd⟩ := ow.has x (eq_of_beq h)
      have e' : (own ++ cl).lookup x = some c := e
      rw [List.lookup_append, hd] at e'
      cases e'
      exact Nat.le_of_lt (ow.new x _ hd).1
    · rcases two x c e with a | a
      · exact Nat.ne_of_gt (Nat.lt_trans (fo b hb) (ow.new x c a).1)
      · exact (f b hb).2.2.2.2.1 x c a
    · rcases (f b hb).2.2.2.1 with z | z
      · exact I.ok.noex b o e z
      · exact absurd (Nat.lt_of_lt_of_le (lt b o e) z) (Nat.lt_irrefl _)
    · rcases List.mem_cons.mp (I.stkSub b z) with z | z
      · exact (f b hb).2.1 z
      · exact (f b hb).2.2.1 z
  refine ⟨okX, rfl, I.bare, Un.kept hk, ⟨_, hns, fun i x v h1 h2 h3 => ?_⟩, fun x c e => ?_, I.hok.fresh (Nat.le_refl _), fun x c e => ?_, fun p hp => absurd (show p ∈ ([] : List (Addr × Obj)) from hp) (by simp), I.hok.kept hk, ?_⟩
  · have hi : i < σ.length := by
      by_cases hi : i < σ.length
      · exact hi
      · rw [List.getElem?_append_right (by omega), List.getElem?_replicate] at h2
        split at h2 <;> cases h2
    have hi' : i < X.N.length := by rw [← I.len]; exact hi
    rw [List.getElem?_append_left hi] at h2
    obtain ⟨e1, e2, e3⟩ := hcap i x h1 hi' h3
    obtain ⟨m, _, hl⟩ := I.loc
    obtain ⟨u, ru, lk⟩ := hl i x v e1 h2 (.inr (.inl e3))
    refine ⟨u, ru, ?_⟩
    have e3' : X.env.kindOf x = some .cell := e3
    rcases lk with ⟨z, _⟩ | ⟨_, c, hc, hcell⟩
    · rw [e3'] at z; cases z
    · obtain ⟨c', hc'⟩ := hcl2 x (mem_of_look e2)
      have := hcl1 x c' hc'
      rw [hc] at this; cases this
      refine .inr ⟨.inl ?_, c, cap x c (mem_of_look e2) hc', ?_⟩
      · show (relabel scope X.env).names.lookup x = some .cell
        rw [kin x, e2, Option.map_some, e3', I.ok.kind]
        rfl
      · obtain ⟨o, ho, hd⟩ := hcell
        exact ⟨o, hk _ _ ho, hd⟩
  · rcases two x c e with a | a
    · exact ⟨none, (ow.new x c a).2⟩
    · obtain ⟨v, o, ho, hd⟩ := I.cell x c a
      exact ⟨v, o, hk _ _ ho, hd⟩
  · rcases two x c e with a | a
    · exact I.hok.fresh (Nat.le_of_lt (ow.new x c a).1)
    · exact I.freeC x c a
  · show (σ ++ List.replicate k none).length = N'.length
    rw [List.length_append, List.length_replicate, I.len, hN]
theorem comp_reset {own : List (Str × Addr)} {pins' : List (Addr × Obj)} {σ' : L2.St} {H' : Hp} {s' : Shared} (I : Inv X pins σ H s) (hcl1 : ∀ x c, cl.lookup x = some c → X.env.cells.lookup x = some c) (hcl2 : ∀ x, (x, NameKind.free) ∈ scope.names → ∃ c, cl.lookup x = some c)
    (hof : ∀ x, (x, NameKind.free) ∈ scope.names → own.lookup x = none) (hN : N'.length = X.N.length + k)
    (hcap : ∀ (i : Nat) (x : Str), N'[i]? = some x → i < X.N.length → Vis (relabel scope X.env) x → X.N[i]? = some x ∧ scope.names.lookup x = some .free ∧ X.env.scope.names.lookup x = some .cell)
    (J : Inv (cxComp X N' scope (own ++ cl) s.heap.objs.size fp s H) pins' σ' H' s') : Inv (cxComp X N' scope (own ++ cl) s.heap.objs.size fp s H) pins' (σ ++ List.replicate k none) H' s' := by
  obtain ⟨m, hm, _⟩ := J.loc
  refine ⟨J.ok, J.os, J.bare, J.base, ⟨m, hm, fun i x v h1 h2 h3 => ?_⟩, J.cell, J.free, J.freeC, J.pin, J.hok, ?_⟩
  · have hi : i < σ.length := by
      by_cases hi : i < σ.length
      · exact hi
      · rw [List.getElem?_append_right (by omega), List.getElem?_replicate] at h2
        split at h2 <;> cases h2
    have hi' : i < X.N.length := by rw [← I.len]; exact hi
    rw [List.getElem?_append_left hi] at h2
    obtain ⟨e1, e2, e3⟩ := hcap i x h1 hi' h3
    obtain ⟨_, _, hl⟩ := I.loc
    obtain ⟨u, ru, lk⟩ := hl i x v e1 h2 (.inr (.inl e3))
    refine ⟨u, ru, ?_⟩
    have e3' : X.env.kindOf x = some .cell := e3
    rcases lk with ⟨z, _⟩ | ⟨_, c, hc, hcell⟩
    · rw [e3'] at z; cases z
    · obtain ⟨c', hc'⟩ := hcl2 x (mem_of_look e2)
      have := hcl1 x c' hc'
      rw [hc] at this; cases this
      have hc2 : (own ++ cl).lookup x = some c := by rw [List.lookup_append, hof x (mem_of_look e2)]; exact hc'
      refine .inr ⟨.inl ?_, c, hc2, ?_⟩
      · show (relabel scope X.env).names.lookup x = some .cell
        rw [show (relabel scope X.env).names.lookup x = _ from lookup_relabel, e2, Option.map_some, e3', I.ok.kind]
        rfl
      · obtain ⟨o, ho, hd⟩ := hcell
        have hx : c ∉ fp := fun z => ((J.ok.exf c z).2 x c hc2) rfl
        obtain ⟨sl, hs⟩ := J.base.any ho (I.freeC x c hc) hx
        exact ⟨_, hs, hd⟩
  · show (σ ++ List.replicate k none).length = N'.length
    rw [List.length_append, List.length_replicate, I.len, hN]
end
section
variable {A : Around} {prog : Program} {w : World} {s : Shared} {R : Result → Shared → Prop}
theorem compLoop_any {el tg itr : Expr} {cs : List Expr} {sc : Scope} {ps : Pos} {itv ac : Value} {en : PySem.Env} (I : Nat → Shared → Prop)
    (turn : ∀ n s, I n s → wpAny (model prog w) A (pyNext itv) (fun r s₁ => match r with
      | none => R (.ok .next) s₁
      | some v => wpAny (model prog w) A (letOwnedTupleGo tg itv v) (fun _ s₁' => wpAny (model prog w) A (assign tg en v) (fun _ s₂ =>
          wpAny (model prog w) A (forIn cs true fun c r => if r = true then do let ok ← isTrue c en (eval c en); pure (ForInStep.yield ok) else pure (ForInStep.yield r)) (fun ok s₃ =>
            if ok = true then wpAny (model prog w) A (eval el en) (fun x s₄ =>
              wpAny (model prog w) A (call (.builtin "list.append") [ac, x]) (fun _ s₅ => ∃ m, m < n ∧ I m s₅) (fun _ _ => False) s₄) (fun _ _ => False) s₃
            else ∃ m, m < n ∧ I m s₃) (fun _ _ => False) s₂) (fun _ _ => False) s₁') (fun _ _ => False) s₁) (fun _ _ => False) s)
    (n : Nat) (h : I n s) : codeAny (model prog w) A (.compLoop (.ListComp el [⟨tg, itr, cs, 0⟩] sc ps) 0 itv ac en) R s := by
  refine codeAny_loop rfl I (fun n s hn => ?_) n h
  show wpAny _ A ((compTurn (.ListComp el [⟨tg, itr, cs, 0⟩] sc ps) 0 itv ac en).onRaise (fun x => do noteFrame x en; theTreesLotGoes x)) _ _ s
  refine wpAny_noted ?_
  rw [compTurn_list]
  refine wpAny_bind (wpAny_standAt (wpAny_bind (wpAny_mono (turn n s hn) (fun r s₁ h₁ => ?_) fun _ _ z => False.elim z)))
  cases r with
  | none => exact wpAny_pure h₁
  | some v =>
    refine wpAny_bind (wpAny_mono h₁ (fun _ s₁' h₁' => ?_) fun _ _ z => False.elim z)
    refine wpAny_bind (wpAny_mono h₁' (fun _ s₂ h₂ => wpAny_bind (wpAny_mono h₂ (fun ok s₃ h₃ => ?_) fun _ _ z => False.elim z)) fun _ _ z => False.elim z)
    cases ok with
    | false => exact (wpAny_pure ⟨rfl, h₃⟩)
    | true =>
      exact wpAny_bind (wpAny_bind (wpAny_mono h₃ (fun x s₄ h₄ => wpAny_bind (wpAny_mono h₄ (fun _ s₅ h₅ => wpAny_pure (wpAny_pure ⟨rfl, h₅⟩)) fun _ _ z => False.elim z)) fun _ _ z => False.elim z))
end
structure JOkH (K : PySem.W.Frag) (G Hk : Hp) (J : It) (l : List D) : Prop where
  go : ∀ (i : Nat) (G1 H1 : Hp), Same G G1 → Same G1 H1 → Same Hk H1 → i < l.length → J.go i H1
  yl : ∀ (i : Nat) (G1 H1 : Hp) (x : V) (H2 : Hp), Same G G1 → Same G1 H1 → Same Hk H1 → i < l.length → J.yld i H1 x H2 → ∃ (G2 : Hp) (d : D), Ext G1 H1 G2 H2 ∧ l[i]? = some d ∧ Den K G2 x d
  st : ∀ (i : Nat) (G1 H1 : Hp), Same G G1 → Same G1 H1 → Same Hk H1 → l.length ≤ i → J.stop i H1
theorem JOk.h {K : PySem.W.Frag} {G Hk : Hp} {J : It} {l : List D} (j : JOk K G J l) : JOkH K G Hk J l :=
  ⟨fun i G1 H1 a b _ => j.go i G1 H1 a b, fun i G1 H1 x H2 a b _ => j.yl i G1 H1 x H2 a b, fun i G1 H1 a b _ => j.st i G1 H1 a b⟩
noncomputable def lIh (K : PySem.W.Frag) (t : TId) : TI := fun σ H R2 => ∃ (n : En) (δ : Ev) (G : Hp) (Q : List D → Ev → Prop), Rel K n δ σ G H ∧ t δ Q ∧
  ∀ (J : It) (G' H' : Hp) (l : List D) (δ' : Ev), Rel K n δ' σ G' H' → Same G G' → JOkH K G' H' J l → Q l δ' → R2 J H'
theorem lIh.el {K : PySem.W.Frag} {t : TId} {σ H R2} {P : Prop} (x : lIh K t σ H R2) (k : ∀ (n : En) (δ : Ev) (G : Hp) (Q : List D → Ev → Prop), (Rel K n δ σ G H) → (t δ Q) → (∀ (J : It) (G' H' : Hp) (l : List D) (δ' : Ev), Rel K n δ' σ G' H' → Same G G' → JOkH K G' H' J l → Q l δ' → R2 J H') → P) : P := by
  obtain ⟨n, δ, G, Q, h0, h1, h2⟩ := x
  exact k n δ G Q h0 h1 h2
noncomputable abbrev DIh (X : Cx) (tg iter : Expr) (t : TId) : Prop := PI X tg iter (lIh X.K t)
theorem di_h {X : Cx} {tg iter : Expr} {t : TId} (h : DI X tg iter t) : DIh X tg iter t :=
  pi_imp h fun σ H R2 hx => hx.el fun n δ G Q R ht k => ⟨n, δ, G, Q, R, ht, fun J G' H' l δ' R' s' j' q' => k J G' H' l δ' R' s' j'.h q'⟩
noncomputable def DTs (X : Cx) (ifs : List Expr) (t : TTd) : Prop :=
  ∀ (pins : List (Addr × Obj)) (s : Shared) (σ : L2.St) (H : Hp) (Q : Bool → Hp → Prop), Inv X pins σ H s → lT X.K t σ H Q →
    wpAny (model X.prog X.w) X.A (forIn ifs true fun c r => if r = true then do let ok ← isTrue c X.env (eval c X.env); pure (ForInStep.yield ok) else pure (ForInStep.yield r)) (TP X pins σ Q) X.xe s
noncomputable def dYes : TTd := fun δ Q => Q true δ
theorem dts_nil {X : Cx} : DTs X [] dYes := fun pins s σ H Q I ⟨n, δ, G, Qd, R, h, k⟩ => wpAny_tests_nil ⟨H, I, k true G H δ R (Same.refl _) h⟩
theorem dts_one {X : Cx} {c : Expr} {t : TTd} (h : DT X c t) : DTs X [c] t := fun pins s σ H Q I q => wpAny_tests_one (h pins s σ H Q I q)
noncomputable def dComp (k : Nat) (ti : TId) (g : TGd) (tt : TTd) (te : TEd) : TEd := fun δ Q => ti δ fun items δ1 => ∃ F : D → Option D,
  (∀ d ∈ items, g d (dropOw δ1 ++ List.replicate k .no) fun δ2 => tt δ2 fun b δ3 => if b = true then te δ3 fun y _ => F d = some y else F d = none) ∧
    (items.filterMap F).length ≤ sizeLine ∧ Q (.lst (items.filterMap F)) δ1
theorem fm_take {α β : Type} (F : α → Option β) (l : List α) (i : Nat) (d : α) (h : l[i]? = some d) : (l.take (i + 1)).filterMap F = (l.take i).filterMap F ++ (F d).toList := by
  rw [List.take_add_one, h, List.filterMap_append]
  cases q : F d <;> simp [q]
theorem fm_le {α β : Type} (F : α → Option β) (l : List α) (i : Nat) : ((l.take i).filterMap F).length ≤ (l.filterMap F).length := by
  conv => rhs; rw [← List.take_append_drop i l]
  rw [List.filterMap_append, List.length_append]
  omega
theorem comp_run {X : Cx} {elt iter target : Expr} {ifs : List Expr} {scope : Scope} {pos : Pos} {N' : List Str} (k : Nat) {ti : TId} {g : TGd} {tt : TTd} {te : TEd} (hc : X.calm = true) (hi : DIh X target iter ti)
    (hb : ∀ (cl : List (Str × Addr)) (C : Addr) (ex : List Addr) (s : Shared) (H : Hp), DG (cxComp X N' scope cl C ex s H) target g ∧ DTs (cxComp X N' scope cl C ex s H) ifs tt ∧ DE (cxComp X N' scope cl C ex s H) elt te)
    (hkind : scope.kind = .function) (hnames : ∀ y ∈ scope.names, y.2 = .local → scope.names.lookup y.1 = some .local) (hnc : ∀ x, (x, NameKind.free) ∈ scope.names → (x, NameKind.cell) ∉ scope.names) (hN : N'.length = X.N.length + k)
    (hcap : ∀ (i : Nat) (x : Str), N'[i]? = some x → i < X.N.length → Vis (relabel scope X.env) x → X.N[i]? = some x ∧ scope.names.lookup x = some .free ∧ X.env.scope.names.lookup x = some .cell)
    (hfr : ∀ x ∈ scope.names, x.2 = NameKind.free → X.env.scope.names.lookup x.1 = some .cell)
    (hs : ∀ x, foldedSetIterable iter X.env x = pure x)
    {use : Option (Value → Sem Unit)} {Qf : Value → Shared → Prop} {pins : List (Addr × Obj)} {s : Shared} {σ : L2.St} {H : Hp} {Q2 : VK} {p : Pos} (I : Inv X pins σ H s) (hq : lE X.K (dComp k ti g tt te) σ H Q2)
    (fin : ∀ (D₀ C : Addr) (H' : Hp) (s6 : Shared), Inv X pins σ H' s6 → FpOk X pins H' C → (∃ m, s6.heap.Ns C m) → Q2 (.ref D₀) H' → compPost (model X.prog X.w) X.A X.xe use Qf (.ref D₀) C (.ok .next) s6) :
    wpAny (model X.prog X.w) X.A (comprehension (.ListComp elt [⟨target, iter, ifs, 0⟩] scope pos) scope X.env p (newList []) false (eval iter X.env) use) Qf X.xe s := by
  obtain ⟨n, δ, G, Q, R, h, kk⟩ := hq
  obtain ⟨cl, hclos, hcl1, hcl2⟩ := clos_of (env := X.env) (scope := scope) (fun x hx hf => I.ok.has x.1 (.inl (hfr x hx hf)))
  refine wpAny_comprehension_free (use := use) rfl hs hclos hkind hnames (wpAny_mono (hi pins s σ H _ I ⟨n, δ, G, _, R, h, fun J G' H' l δ' R' s' j' q' => (show ∃ G' l δ', Rel X.K n δ' σ G' H' ∧ Same G G' ∧ JOkH X.K G' H' J l ∧
    (∃ F : D → Option D, (∀ d ∈ l, g d (dropOw δ' ++ List.replicate k .no) fun δ2 => tt δ2 fun b δ3 => if b = true then te δ3 fun y _ => F d = some y else F d = none) ∧ (l.filterMap F).length ≤ sizeLine ∧ Q (.lst (l.filterMap F)) δ') from ⟨G', l, δ', R', s', j', q'⟩)⟩)
    (fun xv s₁ h₁ => wpAny_mono h₁ (fun itv s₂ h₂ => ?_) fun _ _ z => z) fun _ _ z => z)
  obtain ⟨it, fp, tn, J, H2, rfl, I2, T, st2, f2, G2, items, δ1, R2, sG2, j2, F, hF, hsz, hQ⟩ := h₂
  refine wpAny_newObj_type (wpAny_compEnv ?_)
  rw [cf_app]
  dsimp only
  have hD : H2 s₂.heap.objs.size = none := I2.fresh
  have I3 : Inv X pins σ (upd H2 s₂.heap.objs.size (.lst [])) { s₂ with heap := s₂.heap.push { cls := .type "list", dict := none, data := .seq ([] : List Value).toArray } } := I2.lnew (t' := s₂.toks) .nil (Nat.zero_le _)
  have R3 : Rel X.K n δ1 σ G2 (upd H2 s₂.heap.objs.size (.lst [])) := R2.other (R2.sub.free hD) (R2.al _ hD) (R2.notOwn hD) _
  have f3 : ∀ b ∈ fp, FpOk X pins (upd H2 s₂.heap.objs.size (.lst [])) b := fun b hb => by
    have lt : b < s₂.heap.objs.size := by obtain ⟨o, ho, _⟩ := T.obj _ _ st2 b hb; exact Heap.lt_size ho
    refine ⟨?_, (f2 b hb).2⟩
    rw [upd_ne (Nat.ne_of_lt lt)]; exact (f2 b hb).1
  have fo3 : ∀ b ∈ fp, b < (s₂.heap.push { cls := .type "list", dict := none, data := .seq ([] : List Value).toArray }).objs.size := fun b hb => by
    obtain ⟨o, ho, _⟩ := T.obj _ _ st2 b hb
    rw [Heap.size_push]
    exact Nat.lt_succ_of_lt (Heap.lt_size ho)
  have up3 : ∀ b o, s₂.heap.get? b = some o → (s₂.heap.push { cls := .type "list", dict := none, data := .seq ([] : List Value).toArray }).get? b = some o := fun b o e => Heap.get?_push_of_some _ e
  generalize hH3 : upd H2 s₂.heap.objs.size (.lst []) = H3 at I3 R3 f3
  have hD3 : H3 s₂.heap.objs.size = some (.lst []) := by rw [← hH3]; exact upd_same
  have gD3 : G2 s₂.heap.objs.size = none := R2.sub.free hD
  have nD3 : n.H s₂.heap.objs.size = none := R2.al _ hD
  have own3 : Rel X.K n δ1 σ G2 (del H3 s₂.heap.objs.size) := by rw [← hH3, del_upd, del_none hD]; exact R2
  have kp3 : Same H2 H3 := by rw [← hH3]; exact same_upd hD _
  generalize s₂.heap.objs.size = D₀ at hD hD3 gD3 nD3 own3 ⊢
  have tn3 : ∀ h', (∀ b o, (s₂.heap.push { cls := .type "list", dict := none, data := .seq ([] : List Value).toArray }).get? b = some o → h'.get? b = some o) → tn 0 h' := fun h' k' => T.keep 0 _ _ st2 fun b _ o e => k' b o (up3 b o e)
  have osz : ({ s₂ with heap := s₂.heap.push { cls := .type "list", dict := none, data := .seq ([] : List Value).toArray } } : Shared).os = s₂.os := rfl
  generalize hs3 : ({ s₂ with heap := s₂.heap.push { cls := .type "list", dict := none, data := .seq ([] : List Value).toArray } } : Shared) = s₃ at I3
  have eh3 : s₃.heap = s₂.heap.push { cls := .type "list", dict := none, data := .seq ([] : List Value).toArray } := by rw [← hs3]
  rw [← eh3] at fo3 tn3 ⊢
  have ow := ownC_of (h := s₃.heap) hnc
  have hns₁ : (pushCells (s₃.heap.push { cls := .type "dict", data := .dict #[] }) scope.names).Ns s₃.heap.objs.size fun _ => none := (Heap.Ns.new s₃.heap (.type "dict")).keeps (pushCells_keeps _ _)
  have hk3 : ∀ b o, s₃.heap.get? b = some o → (pushCells (s₃.heap.push { cls := .type "dict", data := .dict #[] }) scope.names).get? b = some o := fun b o e => pushCells_keeps _ _ b o (Heap.get?_push_of_some _ e)
  generalize cellsFrom (s₃.heap.objs.size + 1) scope.names [] = own at ow ⊢
  generalize hh1 : pushCells (s₃.heap.push { cls := .type "dict", data := .dict #[] }) scope.names = h₁ at ow hns₁ hk3 ⊢
  have es4 : ({ s₂ with heap := h₁ } : Shared) = { s₃ with heap := h₁, toks := s₃.toks } := by rw [← hs3]
  have I4 : Inv (cxComp X N' scope (own ++ cl) s₃.heap.objs.size fp s₃ H3) [] (σ ++ List.replicate k none) H3 { s₃ with heap := h₁, toks := s₃.toks } := comp_inv I3 hkind hcl1 hcl2 ow hN hcap f3 fo3 hns₁ hk3
  have reset : ∀ {pins' : List (Addr × Obj)} {σ' : L2.St} {H' : Hp} {s' : Shared}, Inv (cxComp X N' scope (own ++ cl) s₃.heap.objs.size fp s₃ H3) pins' σ' H' s' → Inv (cxComp X N' scope (own ++ cl) s₃.heap.objs.size fp s₃ H3) pins' (σ ++ List.replicate k none) H' s' :=
    fun J' => comp_reset I3 hcl1 hcl2 ow.free hN hcap J'
  generalize own ++ cl = cl at I4 reset ⊢
  have fpok : ∀ {H' : Hp}, (∀ b ∈ fp, H' b = none) → ∀ b ∈ fp, FpOk (cxComp X N' scope cl s₃.heap.objs.size fp s₃ H3) [] H' b := fun hn b hb =>
    ⟨hn b hb, Nat.ne_of_lt (fo3 b hb), I4.ok.exfs b hb, .inl hb, (I4.ok.exf b hb).2, fun p hp => absurd (show p ∈ ([] : List (Addr × Obj)) from hp) (by simp)⟩
  obtain ⟨hG, hT, hE⟩ := hb cl s₃.heap.objs.size fp s₃ H3
  have loop : ∀ s₄ : Shared, s₄ = { s₃ with heap := h₁, toks := s₃.toks } →
      codeAny (model X.prog X.w) X.A (.compLoop (.ListComp elt [⟨target, iter, ifs, 0⟩] scope pos) 0 (.ref it) (.ref D₀) (compEnvC scope cl s₃.heap.objs.size X.env)) (compPost (model X.prog X.w) X.A X.xe use Qf (.ref D₀) s₃.heap.objs.size) s₄ := by
    rintro s₄ rfl
    refine compLoop_any (fun m s => ∃ (i : Nat) (H : Hp) (G : Hp) (ws : List V), i ≤ items.length ∧ m = items.length - i ∧ Inv (cxComp X N' scope cl s₃.heap.objs.size fp s₃ H3) [] (σ ++ List.replicate k none) H s ∧ tn i s.heap ∧ (∀ b ∈ fp, H b = none) ∧
      Rel X.K n δ1 σ G (del H D₀) ∧ Same H2 H ∧ Same G2 G ∧ H D₀ = some (.lst ws) ∧ G D₀ = none ∧ DenL X.K G ws ((items.take i).filterMap F)) ?_ items.length
      ⟨0, H3, G2, [], Nat.zero_le _, rfl, I4, tn3 _ hk3, fun b hb => (f3 b hb).1, own3, kp3, Same.refl _, hD3, gD3, .nil⟩
    rintro m s5 ⟨i, H5, G5, ws, hi, rfl, I5, st5, fr5, R5', kp5, sG5, hD5, gD5, dl5⟩
    have R5 := R5'.undel hD5
    by_cases hlt : i < items.length
    · refine thn (T.item (cxComp X N' scope cl s₃.heap.objs.size fp s₃ H3) rfl rfl rfl hc i [] s5 _ H5 _ I5 (fpok fr5) st5 (j2.go i G5 H5 sG5 R5.sub kp5 hlt)) fun r s6 ⟨u, hr, h6⟩ => ?_
      subst hr
      refine thn h6 fun _ s7 ⟨x, H7, I7, rx, y7, st7, fr7⟩ => ?_
      obtain ⟨G7, d, e7, hd, dx⟩ := j2.yl i G5 H5 x H7 sG5 R5.sub kp5 hlt y7
      have R7 := R5.ext e7
      have Rin := R7.inner k
      have I7' := I7.pinned (fpok fr7) (T.obj _ _ st7)
      have gD7 : ∀ {G' H' : Hp}, Ext G7 H7 G' H' → G' D₀ = none := fun {G' H'} e => by
        cases q : G' D₀ with
        | none => rfl
        | some o =>
          have z := (e7.trans e).fr D₀ o q gD5
          rw [hD5] at z; cases z
      have keep : ∀ {σ' : L2.St} {H' : Hp} {s' : Shared}, Inv (cxComp X N' scope cl s₃.heap.objs.size fp s₃ H3) ([] ++ pinsAt fp s7.heap) σ' H' s' → tn (i + 1) s'.heap ∧ (∀ b ∈ fp, H' b = none) ∧ Inv (cxComp X N' scope cl s₃.heap.objs.size fp s₃ H3) [] (σ ++ List.replicate k none) H' s' := fun {σ' H' s'} J' => by
        refine ⟨T.keep _ _ _ st7 fun b hb o e => (J'.pin (b, o) (List.mem_append_right _ (List.mem_append_right _ (mem_pinsAt hb e)))).1, fun b hb => ?_, reset J'.unpinned⟩
        obtain ⟨o, e, _⟩ := T.obj _ _ st7 b hb
        exact (J'.pin (b, o) (List.mem_append_right _ (List.mem_append_right _ (mem_pinsAt hb e)))).2.1
      refine thn (hG _ s7 _ H7 x u (fun σ8 H8 => H8 = H7 ∧ ∃ δ8, Rel X.K ⟨G7, H7, fun _ => False⟩ δ8 σ8 G7 H7 ∧ tt δ8 fun b δ3 => if b = true then te δ3 fun y _ => F d = some y else F d = none) I7' rx
        ⟨_, _, G7, d, _, Rin, dx, hF d (List.mem_of_getElem? hd), fun δ8 σ8 R8 q8 => ⟨rfl, δ8, R8, q8⟩⟩) fun _ s8 ⟨σ8, H8, I8, e8, δ8, R8, q8⟩ => ?_
      subst e8
      refine thn (hT _ s8 σ8 _ (fun b H9 => ∃ G9 δ9, Rel X.K ⟨G7, H8, fun _ => False⟩ δ9 σ8 G9 H9 ∧ if b = true then te δ9 fun y _ => F d = some y else F d = none) I8 ⟨_, δ8, G7, _, R8, q8, fun b G9 H9 δ9 R9 _ q9 => ⟨G9, δ9, R9, q9⟩⟩) fun ok s9 ⟨H9, I9, G9, δ9, R9, q9⟩ => ?_
      cases ok with
      | false =>
        rw [if_neg Bool.false_ne_true] at q9 ⊢
        obtain ⟨k1, k2, k3⟩ := keep I9
        have e9 := R9.toExt
        refine ⟨items.length - (i + 1), by omega, i + 1, H9, G9, ws, hlt, rfl, k3, k1, k2, R5'.ext ((e7.trans e9).del (gD7 e9)), kp5.trans (e7.trans e9).hh, sG5.trans (e7.gg.trans e9.gg), e9.hh _ _ (e7.hh _ _ hD5), gD7 e9, ?_⟩
        rw [fm_take F items i d hd, q9]
        simpa using dl5.up (e7.gg.trans e9.gg)
      | true =>
        rw [if_pos rfl] at q9 ⊢
        refine thn (hE _ s9 σ8 H9 (fun v H10 => ∃ G10 y, (∃ δ10, Rel X.K ⟨G7, H8, fun _ => False⟩ δ10 σ8 G10 H10) ∧ Den X.K G10 v y ∧ F d = some y) I9 ⟨_, δ9, G9, _, R9, q9, fun v G10 H10 y δ10 R10 _ d10 q10 => ⟨G10, y, ⟨δ10, R10⟩, d10, q10⟩⟩) fun xv s10 ⟨v, H10, I10, rv, G10, y, ⟨δ10, R10⟩, dv, hy⟩ => ?_
        have e10 := R10.toExt
        have hD10 : H10 D₀ = some (.lst ws) := e10.hh _ _ (e7.hh _ _ hD5)
        have lenw : ws.length < sizeLine := by
          have l1 := fm_le F items (i + 1)
          rw [fm_take F items i d hd, hy, List.length_append] at l1
          have l2 := dl5.length
          simp only [Option.toList_some, List.length_singleton] at l1
          omega
        refine thn (mt_append (X := cxComp X N' scope cl s₃.heap.objs.size fp s₃ H3) _ s10 σ8 H10 (.ref D₀) [v] (.ref D₀) [xv] (fun _ H' => H' = upd H10 D₀ (.lst (ws ++ [v]))) I10 rfl (.cons rv .nil) ⟨D₀, ws, v, rfl, rfl, hD10, lenw, rfl⟩) fun _ s11 ⟨_, H11, I11, _, e11⟩ => ?_
        subst e11
        obtain ⟨k1, k2, k3⟩ := keep I11
        refine ⟨items.length - (i + 1), by omega, i + 1, _, G10, ws ++ [v], hlt, rfl, k3, k1, k2, (by rw [del_upd]; exact R5'.ext ((e7.trans e10).del (gD7 e10))), (fun b o z => by rw [upd_ne (ne_of_none z hD)]; exact (kp5.trans (e7.trans e10).hh) b o z), sG5.trans (e7.gg.trans e10.gg), upd_same, gD7 e10, ?_⟩
        rw [fm_take F items i d hd, hy]
        exact (dl5.up (e7.gg.trans e10.gg)).append (.cons dv .nil)
    · have ei : i = items.length := by omega
      subst ei
      refine thn (T.done (cxComp X N' scope cl s₃.heap.objs.size fp s₃ H3) rfl rfl rfl hc _ [] s5 _ H5 _ I5 (fpok fr5) st5 (j2.st _ G5 H5 sG5 R5.sub kp5 (Nat.le_refl _))) fun r s6 ⟨hr, I6⟩ => ?_
      subst hr
      obtain ⟨m, hm, _⟩ := I6.loc
      have Iin : Inv X pins σ H5 s6 := I3.call' (s' := s6) (ch := fp) I6.os (show Un (frs X.stack) fp H3 H5 s₃.heap s6.heap from I6.base) I6.hok I6.bare fun b hb => ⟨(f3 b hb).2.2.2.1, (f3 b hb).2.1, (f3 b hb).2.2.2.2.1, (f3 b hb).2.2.2.2.2⟩
      rw [List.take_length] at dl5
      exact fin D₀ s₃.heap.objs.size H5 s6 Iin (I3.fpOk (Nat.le_refl _) I6.free) ⟨m, hm⟩ (kk _ _ _ _ δ1 (R5'.know hD5) (sG2.trans (sG5.trans (same_upd gD5 _))) (.lst (SqL.of upd_same) (dl5.up (same_upd gD5 _))) hQ)
  rw [es4]
  exact codeAny_compStart_list (loop _ rfl) (T.self _ 0 _ _ _ (tn3 _ hk3) (loop _ rfl))
theorem comp_end {X : Cx} {pins : List (Addr × Obj)} {s : Shared} {σ : L2.St} {H : Hp} {C : Addr} {h' : Heap} (I : Inv X pins σ H s) (f : FpOk X pins H C) (hs : Heap.SameBut C s.heap h') : Inv X pins σ H { s with heap := h' } := by
  have same : ∀ b o, b ≠ C → s.heap.get? b = some o → h'.get? b = some o := fun b o hb e => (hs.2 b hb).trans e
  have ne : ∀ b, b ∉ [C] → b ≠ C := fun b hb z => hb (by rw [z]; exact List.mem_singleton.mpr rfl)
  refine I.call' (s' := { s with heap := h' }) (ch := [C]) rfl ⟨fun b o e _ _ n3 => same b o (ne b n3) e, fun b o e _ _ n3 => ⟨o.slots, same b o (ne b n3) e⟩, fun b o _ n _ => n, fun b o e n3 => ⟨o, same b o (ne b n3) e⟩, fun _ _ e => e, fun _ _ _ e => e, fun b ps e => ⟨#[], by rw [Array.append_empty]; exact e⟩⟩ (fun a o e => ?_) I.bare fun b hb => ?_
  · have nC : ∀ b u, H b = some u → b ≠ C := fun b u q z => by rw [z, f.1] at q; cases q
    refine (I.hok a o e).stay (fun b u hb q => same b u ?_ q) (fun _ q => q) fun _ _ q => q
    rcases hb with rfl | hb
    · exact nC _ _ e
    · exact nC _ _ hb
  · rcases List.mem_singleton.mp hb with rfl
    exact ⟨f.2.2.2.1, f.2.1, f.2.2.2.2.1, f.2.2.2.2.2⟩
theorem de_comp {X : Cx} {elt iter target : Expr} {ifs : List Expr} {scope : Scope} {pos : Pos} {N' : List Str} (k : Nat) {ti : TId} {g : TGd} {tt : TTd} {te : TEd} (hc : X.calm = true) (hi : DIh X target iter ti)
    (hb : ∀ (cl : List (Str × Addr)) (C : Addr) (ex : List Addr) (s : Shared) (H : Hp), DG (cxComp X N' scope cl C ex s H) target g ∧ DTs (cxComp X N' scope cl C ex s H) ifs tt ∧ DE (cxComp X N' scope cl C ex s H) elt te)
    (hkind : scope.kind = .function) (hnames : ∀ y ∈ scope.names, y.2 = .local → scope.names.lookup y.1 = some .local) (hnc : ∀ x, (x, NameKind.free) ∈ scope.names → (x, NameKind.cell) ∉ scope.names) (hN : N'.length = X.N.length + k)
    (hcap : ∀ (i : Nat) (x : Str), N'[i]? = some x → i < X.N.length → Vis (relabel scope X.env) x → X.N[i]? = some x ∧ scope.names.lookup x = some .free ∧ X.env.scope.names.lookup x = some .cell)
    (hfr : ∀ x ∈ scope.names, x.2 = NameKind.free → X.env.scope.names.lookup x.1 = some .cell)
    (hs : ∀ x, foldedSetIterable iter X.env x = pure x := by intro _; rfl) : DE X (.ListComp elt [⟨target, iter, ifs, 0⟩] scope pos) (dComp k ti g tt te) := by
  rintro pins s σ H Q2 I q
  rw [eval_ListComp]
  exact comp_run k hc hi hb hkind hnames hnc hN hcap hfr hs (use := none) I q fun D₀ C H' s6 I6 f ⟨m, hm⟩ q6 => ⟨m, hm, fun h' hs' => ⟨.ref D₀, H', comp_end I6 f hs', rfl, q6⟩⟩
end Dl
namespace Dl
open PySem PySem.Spec PyProof.Rows L2
noncomputable def compOk (N : List Str) (sc : Scope) (N' : List Str) (scope : Scope) (k : Nat) : Bool :=
  (scope.kind == .function) && scope.names.all (fun y => (y.2 != .local) || (scope.names.lookup y.1 == some .local)) && scope.names.all (fun y => (y.2 != .free) || !(scope.names.any fun z => z.1 == y.1 && z.2 == .cell)) && (N'.length == N.length + k) &&
  scope.names.all (fun y => (y.2 != .free) || (sc.names.lookup y.1 == some .cell)) &&
  (List.range N.length).all (fun i => match N'[i]? with
    | some x => (match scope.names.lookup x with
      | some .local => false
      | some .cell => false
      | some .free => N[i]? == some x
      | _ => true)
    | none => true)
theorem de_compKH {X : Cx} {elt iter target : Expr} {ifs : List Expr} {scope : Scope} {pos : Pos} (N' : List Str) (k : Nat) {ti : TId} {g : TGd} {tt : TTd} {te : TEd} (hc : X.calm = true) (hi : DIh X target iter ti)
    (hb : ∀ (cl : List (Str × Addr)) (C : Addr) (ex : List Addr) (s : Shared) (H : Hp), DG (cxComp X N' scope cl C ex s H) target g ∧ DTs (cxComp X N' scope cl C ex s H) ifs tt ∧ DE (cxComp X N' scope cl C ex s H) elt te)
    (ok : compOk X.N X.env.scope N' scope k = true)
    (hs : ∀ x, foldedSetIterable iter X.env x = pure x := by intro _; rfl) : DE X (.ListComp elt [⟨target, iter, ifs, 0⟩] scope pos) (dComp k ti g tt te) := by
  unfold compOk at ok
  simp only [Bool.and_eq_true, List.all_eq_true, Bool.or_eq_true, bne_iff_ne, ne_eq, beq_iff_eq] at ok
  obtain ⟨⟨⟨⟨⟨h1, h2⟩, h30⟩, h4⟩, h5⟩, h6⟩ := ok
  have h3 : ∀ x, (x, NameKind.free) ∈ scope.names → (x, NameKind.cell) ∉ scope.names := fun x hx hc => by
    have z := (h30 _ hx).resolve_left fun z => z rfl
    have w : (scope.names.any fun z => z.1 == x && z.2 == .cell) = true := List.any_eq_true.mpr ⟨_, hc, by simp⟩
    rw [w] at z; cases z
  refine de_comp k hc hi hb (by cases q : scope.kind <;> rw [q] at h1 <;> first | rfl | cases h1) (fun y hy hl => (h2 y hy).resolve_left fun z => z hl) h3 h4 (fun i x e hi hv => ?_) (fun x hx hf => (h5 x hx).resolve_left fun z => z hf) hs
  have h6' := h6 i (List.mem_range.mpr hi)
  rw [e] at h6'
  dsimp only at h6'
  have hv' : ∃ kd, scope.names.lookup x = some kd ∧ (kd = .local ∨ kd = .cell ∨ kd = .free) := by
    have kin : (relabel scope X.env).names.lookup x = _ := lookup_relabel
    unfold Vis at hv
    rw [kin] at hv
    cases q : scope.names.lookup x with
    | none => rw [q] at hv; simp at hv
    | some kd =>
      refine ⟨kd, rfl, ?_⟩
      rw [q] at hv
      cases kd <;> simp at hv ⊢
  obtain ⟨kd, hk, hkd⟩ := hv'
  rw [hk] at h6'
  rcases hkd with rfl | rfl | rfl
  · simp at h6'
  · simp at h6'
  · have e1 : X.N[i]? = some x := by simpa using h6'
    exact ⟨e1, hk, (h5 _ (mem_of_look hk)).resolve_left fun z => z rfl⟩
theorem de_compK {X : Cx} {elt iter target : Expr} {ifs : List Expr} {scope : Scope} {pos : Pos} (N' : List Str) (k : Nat) {ti : TId} {g : TGd} {tt : TTd} {te : TEd} (hc : X.calm = true) (hi : DI X target iter ti)
    (hb : ∀ (cl : List (Str × Addr)) (C : Addr) (ex : List Addr) (s : Shared) (H : Hp), DG (cxComp X N' scope cl C ex s H) target g ∧ DTs (cxComp X N' scope cl C ex s H) ifs tt ∧ DE (cxComp X N' scope cl C ex s H) elt te)
    (ok : compOk X.N X.env.scope N' scope k = true)
    (hs : ∀ x, foldedSetIterable iter X.env x = pure x := by intro _; rfl) : DE X (.ListComp elt [⟨target, iter, ifs, 0⟩] scope pos) (dComp k ti g tt te) := de_compKH N' k hc (di_h hi) hb ok hs
section
variable {X : Cx} {pos : Pos}
noncomputable def gdTup2 (i j : Nat) : TGd := fun d δ Q => match d with
  | .tup [x, y] => Q ((δ.set i (.sh x)).set j (.sh y))
  | _ => False
theorem dg_tup2 (i j : Nat) {x y : Str} {px py : Pos} {kk : Nat} (hc : X.calm = true) (hN : X.N.Nodup) (hi : X.N[i]? = some x := by rfl) (hx : Loc X.env.scope x := by first | exact Or.inl rfl | exact Or.inr rfl) (hj : X.N[j]? = some y := by rfl) (hy : Loc X.env.scope y := by first | exact Or.inl rfl | exact Or.inr rfl)
    (hfx : X.fn x = true ∨ X.env.scope.names.lookup x = some .local := by first | exact .inl rfl | exact .inr rfl) (hfy : X.fn y = true ∨ X.env.scope.names.lookup y = some .local := by first | exact .inl rfl | exact .inr rfl)
    (hs1 : (assignEach [.Name x px, .Name y py] X.env).map (·.2) = assign (.Name x px) X.env :: (assignEach [.Name y py] X.env).map (·.2) := by rfl) (hs2 : (assignEach [.Name y py] X.env).map (·.2) = assign (.Name y py) X.env :: (assignEach [] X.env).map (·.2) := by rfl)
    (hn : (assignEach [.Name x px, .Name y py] X.env).length = 2 := by rfl) (hst : (assignEach [.Name x px, .Name y py] X.env).findIdx? (·.1) = none := by rfl) : DG X (.Tuple [.Name x px, .Name y py] kk pos) (gdTup2 i j) :=
  pg_imp (pg_tup hc (pgs_cons (pg_name (i := i) hN hi hx hfx) (pgs_cons (pg_name (i := j) hN hj hy hfy) pgs_nil hs2) hs1) hn hst) fun v σ H Q2 hx => hx.el fun n δ G d Q R hv h k => by
    unfold gdTup2 at h
    split at h
    · obtain ⟨a, vs, rfl, ha, la⟩ := hv.tup_inv
      cases la with
      | cons d1 la => cases la with
        | cons d2 la =>
          cases la
          exact ⟨a, _, rfl, Same.tupS R.sub ha, rfl, _, _, rfl, _, _, rfl, rfl, k _ _ ((R.set i d1).set j d2) h⟩
    · exact h.elim
end
end Dl
namespace Dl
open PySem PySem.Spec PyProof.Rows L2
section
variable {X : Cx} {e : Expr} {te : TEd} {pos p q : Pos}
variable {es : List Expr} {b : Expr} {tb : TEd} {ta : TAd}
variable {a c : Expr} {ta' tc : TEd}
noncomputable def dChain (p p' : Int → Int → Bool) (ta tb tc : TEd) : TEd := fun δ Q => ta δ fun x δ1 => tb δ1 fun y δ2 => match x, y with
  | .int i, .int j => if p i j = true then tc δ2 fun z δ3 => match z with
      | .int k => Q (.bl (p' j k)) δ3
      | _ => False
    else Q (.bl false) δ2
  | _, _ => False
theorem chain_lift {g g' : Int → Int → Bool} : ∀ σ H Q, lE X.K (dChain g g' ta' tb tc) σ H Q → tChain (rI0 fun i j => .bl (g i j)) (rI0 fun i j => .bl (g' i j)) (lE X.K ta') (lE X.K tb) (lE X.K tc) σ H Q := fun σ H Q2 hx => hx.el fun n δ G Q R h k =>
  ⟨n, δ, G, _, R, h, fun v G1 H1 x δ1 R1 s1 d1 h1 => ⟨n, δ1, G1, _, R1, h1, fun w G2 H2 y δ2 R2 s2 d2 h2 => by
    split at h2
    · rename_i i j
      cases d1.int_inv; cases d2.int_inv
      refine ⟨i, j, rfl, rfl, g i j, rfl, ?_⟩
      split at h2
      · rename_i hc
        rw [if_pos hc]
        refine ⟨n, δ2, G2, _, R2, h2, fun u G3 H3 z δ3 R3 s3 d3 h3 => ?_⟩
        split at h3
        · rename_i l
          cases d3.int_inv
          exact ⟨j, l, rfl, rfl, k _ G3 H3 _ δ3 R3 (s1.trans (s2.trans s3)) (.bl _) h3⟩
        · exact h3.elim
      · rename_i hc
        rw [if_neg hc]
        exact k _ G2 H2 _ δ2 R2 (s1.trans s2) (.bl _) h2
    · exact h2.elim⟩⟩
theorem dt_chain {op op' : CmpOp} {g g' : Int → Int → Bool} (ho : OpR X (compareOp op) (rI0 fun i j => .bl (g i j))) (ho' : OpR X (compareOp op') (rI0 fun i j => .bl (g' i j))) (ha : DE X a ta') (hb : DE X b tb) (hc : DE X c tc)
    (hm : lastMarks [op, op'] [b, c] = false := by with_unfolding_all rfl) : DT X (.Compare a [op, op'] [b, c] pos) (dB (dChain g g' ta' tb tc)) :=
  pt_imp (pt_chain ho ho' ha hb hc hm) fun σ H Q2 hx => hx.el fun n δ G Q R h k => chain_lift σ H _ ⟨n, δ, G, _, R, h, fun v G1 H1 d δ1 R1 s1 d1 h1 => by
    cases d with
    | bl c => exact ⟨c, d1.bl_inv, k c G1 H1 δ1 R1 s1 h1⟩
    | _ => exact h1.elim⟩
end
end Dl
namespace Dl
open PySem PySem.Spec PyProof.Rows L2
section
variable {A : Around} {prog : Program} {w : World} {s : Shared} {E : Value → Shared → Prop}
theorem nextTup_item {j t : Addr} {i : Nat} {its : Array Value} {x : Value} {Q : Value → Shared → Prop} (hj : s.heap.IsTupleIter j t i) (ht : s.heap.IsTuple t its) (hx : its[i]? = some x)
    (q : ∀ g, g.IsTupleIter j t (i + 1) → Heap.SameBut j s.heap g → Q x { s with heap := g }) : wpAny (model prog w) A (Builtin.SmallTypes.nextOf (.ref j)) Q E s := by
  obtain ⟨oj, ej, cj, dj⟩ := id hj
  obtain ⟨ot, et, _, nt, dt⟩ := ht
  unfold Builtin.SmallTypes.nextOf
  refine wpAny_bind (wpAny_callSpecial?_slot (name := Str.ofString "__next__") hj.typeIs F.slot_tuple_iterator_next (wpAny_call_entry F.slot_tuple_iterator_next hj.typeIs F.entry_tuple_iterator_next ?_ (F.args_tuple_iterator_next_1 _)))
  show wpAny _ _ (field (.ref j) 0 >>= _) _ _ s
  refine wpAny_bind (wpAny_field ej dj (x := .ref t) rfl ?_)
  show wpAny _ _ (if (Value.ref t == Value.none) = true then _ else _) _ _ _
  rw [if_neg (fun z : (Value.ref t == Value.none) = true => Bool.false_ne_true z)]
  show wpAny _ _ (field (.ref j) 1 >>= _) _ _ s
  refine wpAny_bind (wpAny_field ej dj (x := .int i 0) rfl ?_)
  show wpAny _ _ (seqItems? (.ref t) >>= _) _ _ _
  refine wpAny_bind (wpAny_seqItems et dt ?_)
  simp only [hx, Int.toNat_natCast]
  refine wpAny_bind (wpAny_setField ej dj (by simp) (wpAny_pure ⟨x, rfl, wpAny_pure (q _ ⟨_, Heap.get?_update_self _ ej (Obj.isFreed_of_fields (Obj.data_mapFields dj _)), (Obj.cls_mapFields ..).trans cj, ?_⟩ (Heap.SameBut.update ..))⟩))
  rw [Obj.data_mapFields dj]
  simp [rawInt]
theorem nextTup_end {j t : Addr} {i : Nat} {its : Array Value} {Q : Value → Shared → Prop} (hh : A.handled = none) (hj : s.heap.IsTupleIter j t i) (ht : s.heap.IsTuple t its) (hx : its[i]? = none)
    (q : ∀ g e, Heap.ExtBut j s.heap g → (∃ o, g.get? e = some o ∧ o.cls = .type "StopIteration") → E (.ref e) { s with heap := g }) : wpAny (model prog w) A (Builtin.SmallTypes.nextOf (.ref j)) Q E s := by
  obtain ⟨oj, ej, cj, dj⟩ := id hj
  obtain ⟨ot, et, _, nt, dt⟩ := ht
  unfold Builtin.SmallTypes.nextOf
  refine wpAny_bind (wpAny_callSpecial?_slot (name := Str.ofString "__next__") hj.typeIs F.slot_tuple_iterator_next (wpAny_call_entry F.slot_tuple_iterator_next hj.typeIs F.entry_tuple_iterator_next ?_ (F.args_tuple_iterator_next_1 _)))
  show wpAny _ _ (field (.ref j) 0 >>= _) _ _ s
  refine wpAny_bind (wpAny_field ej dj (x := .ref t) rfl ?_)
  show wpAny _ _ (if (Value.ref t == Value.none) = true then _ else _) _ _ _
  rw [if_neg (fun z : (Value.ref t == Value.none) = true => Bool.false_ne_true z)]
  show wpAny _ _ (field (.ref j) 1 >>= _) _ _ s
  refine wpAny_bind (wpAny_field ej dj (x := .int i 0) rfl ?_)
  show wpAny _ _ (seqItems? (.ref t) >>= _) _ _ _
  refine wpAny_bind (wpAny_seqItems et dt ?_)
  simp only [hx, Int.toNat_natCast]
  refine wpAny_bind (wpAny_rule (wpAny_bind (wpAny_setField ej dj (by simp) (show wpAny _ _ (newExc (.type "StopIteration") [] >>= _) _ _ _ from wpAny_bind ?_))))
  simp only [newTuple, newExc]
  refine wpAny_bind (wpAny_newObj_type (wpAny_bind (m := firstArgMember _ _) (wpAny_of_eq (a := Value.none) (by first | rfl | (simp only [firstArgMember]; rfl)) (wpAny_newObj_type ?_ (by size_fits)))) (by size_fits))
  simp only [raiseNew]
  refine wpAny_bind (wpAny_handled ?_)
  first
    | rw [show A.in1.handled = none from hh]
    | rw [hh]
  exact wpAny_bind (wpAny_pure (wpAny_throw (q _ _ (((Heap.SameBut.update ..).extBut.push _).push _) ⟨_, Heap.get?_push_size _ rfl, rfl⟩)))
noncomputable def SubIt (b : Bool) (j a : Addr) (its : Array Value) (i : Nat) (h : Heap) : Prop := match b with
  | false => h.IsListIter j a i ∧ h.IsList a its
  | true => h.IsTupleIter j a i ∧ h.IsTuple a its
theorem SubIt.ext {b : Bool} {j a c : Addr} {its : Array Value} {i : Nat} {h g : Heap} (x : SubIt b j a its i h) (k : Heap.ExtBut c h g) (n1 : j ≠ c) (n2 : a ≠ c) : SubIt b j a its i g := by
  cases b with
  | false => exact ⟨x.1.extBut k n1, x.2.extBut k n2⟩
  | true => exact ⟨x.1.extBut k n1, x.2.extBut k n2⟩
theorem SubIt.at {b : Bool} {j a : Addr} {its : Array Value} {i : Nat} {h g : Heap} (x : SubIt b j a its i h) (k1 : ∀ o, h.get? j = some o → g.get? j = some o) (k2 : ∀ o, h.get? a = some o → g.get? a = some o) : SubIt b j a its i g := by
  cases b with
  | false => exact ⟨x.1.at k1, x.2.at k2⟩
  | true => exact ⟨x.1.at k1, x.2.at k2⟩
theorem SubIt.obj {b : Bool} {j a : Addr} {its : Array Value} {i : Nat} {h : Heap} (x : SubIt b j a its i h) : ∃ o, h.get? j = some o ∧ ∀ v, o.data ≠ .cell v := by
  cases b with
  | false => obtain ⟨⟨o, e, _, d⟩, _⟩ := x; exact ⟨o, e, fun v z => by rw [d] at z; cases z⟩
  | true => obtain ⟨⟨o, e, _, d⟩, _⟩ := x; exact ⟨o, e, fun v z => by rw [d] at z; cases z⟩
theorem sub_item {b : Bool} {j a : Addr} {its : Array Value} {i : Nat} {x : Value} {Q : Value → Shared → Prop} (h : SubIt b j a its i s.heap) (ne : a ≠ j) (hx : its[i]? = some x)
    (q : ∀ g, SubIt b j a its (i + 1) g → Heap.SameBut j s.heap g → Q x { s with heap := g }) : wpAny (model prog w) A (Builtin.SmallTypes.nextOf (.ref j)) Q E s := by
  cases b with
  | false => exact wpAny_nextOf_list_item h.1 h.2 hx fun g y k => q g ⟨y, h.2.extBut k.extBut ne⟩ k
  | true => exact nextTup_item h.1 h.2 hx fun g y k => q g ⟨y, h.2.extBut k.extBut ne⟩ k
theorem sub_end {b : Bool} {j a : Addr} {its : Array Value} {i : Nat} {Q : Value → Shared → Prop} (hh : A.handled = none) (h : SubIt b j a its i s.heap) (hx : its[i]? = none)
    (q : ∀ g e, Heap.ExtBut j s.heap g → (∃ o, g.get? e = some o ∧ o.cls = .type "StopIteration") → E (.ref e) { s with heap := g }) : wpAny (model prog w) A (Builtin.SmallTypes.nextOf (.ref j)) Q E s := by
  cases b with
  | false => exact wpAny_nextOf_list_end hh h.1 h.2 hx q
  | true => exact nextTup_end hh h.1 h.2 hx q
variable {zz ti to i1 i2 a1 a2 : Addr} {b1 b2 : Bool} {k : Nat} {xs ys : Array Value} {u v : Value}
noncomputable def SeqIs (b : Bool) (a : Addr) (its : Array Value) (h : Heap) : Prop := match b with
  | false => h.IsList a its
  | true => h.IsTuple a its
noncomputable def itCls : Bool → String
  | false => "list_iterator"
  | true => "tuple_iterator"
noncomputable abbrev zh1 (b : Bool) (h : Heap) (p : Addr) : Heap := h.push { cls := .type (itCls b), data := .fields #[.ref p, .int 0 0] }
theorem subIt_0 {b : Bool} {j a : Addr} {its : Array Value} {h : Heap} (e : h.get? j = some { cls := .type (itCls b), data := .fields #[.ref a, .int 0 0] }) (k : SeqIs b a its h) : SubIt b j a its 0 h := by
  cases b with
  | false => exact ⟨⟨_, e, rfl, rfl⟩, k⟩
  | true => exact ⟨⟨_, e, rfl, rfl⟩, k⟩
theorem SeqIs.at {b : Bool} {a : Addr} {its : Array Value} {h g : Heap} (x : SeqIs b a its h) (k : ∀ o, h.get? a = some o → g.get? a = some o) : SeqIs b a its g := by
  cases b with
  | false => exact Heap.IsList.at x k
  | true => exact Heap.IsTuple.at x k
theorem SeqIs.lt {b : Bool} {a : Addr} {its : Array Value} {h : Heap} (x : SeqIs b a its h) : a < h.objs.size := by
  cases b with
  | false => obtain ⟨o, e, _⟩ := x; exact Heap.lt_size e
  | true => obtain ⟨o, e, _⟩ := x; exact Heap.lt_size e
end
end Dl
namespace Dl
open PySem PySem.Spec PyProof.Rows L2
noncomputable def SqB (K : PySem.W.Frag) (b : Bool) (H : Hp) (a : Addr) (xs : List V) : Prop := match b with
  | false => SqL K H a xs
  | true => SqT K H a xs
noncomputable def ItIs (b : Bool) (j a : Addr) (i : Nat) (h : Heap) : Prop := match b with
  | false => h.IsListIter j a i
  | true => h.IsTupleIter j a i
section
variable {X : Cx} {pins : List (Addr × Obj)} {σ : L2.St} {H : Hp} {s : Shared} {b : Bool} {a : Addr} {xs ys : List V}
theorem Inv.seqB (I : Inv X pins σ H s) (h : SqB X.K b H a xs) : ∃ its : List Value, Vals xs its ∧ SeqIs b a its.toArray s.heap := by
  cases b with
  | false => obtain ⟨its, r, p, _⟩ := I.list h; exact ⟨its, r, p.isList⟩
  | true => obtain ⟨its, r, p, _⟩ := I.tuple h; exact ⟨its, r, p⟩
theorem Inv.seqB_inj (I : Inv X pins σ H s) (h : SqB X.K b H a xs) (h' : SqB X.K b H a ys) : xs = ys := by
  cases b with
  | false => exact I.list_inj h h'
  | true => exact I.tuple_inj h h'
theorem ItIs.sub {j : Addr} {i : Nat} {h : Heap} {its : Array Value} (x : ItIs b j a i h) (k : SeqIs b a its h) : SubIt b j a its i h := by
  cases b with
  | false => exact ⟨x, k⟩
  | true => exact ⟨x, k⟩
theorem SubIt.it {j : Addr} {i : Nat} {h : Heap} {its : Array Value} (x : SubIt b j a its i h) : ItIs b j a i h := by
  cases b with
  | false => exact x.1
  | true => exact x.1
theorem ItIs.at {j : Addr} {i : Nat} {h g : Heap} (x : ItIs b j a i h) (k : ∀ o, h.get? j = some o → g.get? j = some o) : ItIs b j a i g := by
  cases b with
  | false => exact Heap.IsListIter.at x k
  | true => exact Heap.IsTupleIter.at x k
theorem ItIs.obj {j : Addr} {i : Nat} {h : Heap} (x : ItIs b j a i h) : ∃ o, h.get? j = some o ∧ ∀ v, o.data ≠ .cell v := by
  cases b with
  | false => obtain ⟨o, e, _, d⟩ := x; exact ⟨o, e, fun v z => by rw [d] at z; cases z⟩
  | true => obtain ⟨o, e, _, d⟩ := x; exact ⟨o, e, fun v z => by rw [d] at z; cases z⟩
theorem SqB.seq {K : PySem.W.Frag} {H' : Hp} (e : Same H H') (h : SqB K b H a xs) : SqB K b H' a xs := by
  cases b with
  | false => exact Same.seq e h
  | true => exact Same.tupS e h
end
section
variable {X : Cx} {elts : List Expr} {kk : Nat} {tp p pos : Pos} {a c : Expr}
theorem den_sqb {K : PySem.W.Frag} {G : Hp} {v : V} {d : D} {l : List D} (h : Den K G v d) (e : seqF d = some l) : ∃ b a vs, v = .ref a ∧ SqB K b G a vs ∧ DenL K G vs l := by
  rcases seqF_some e with rfl | rfl
  · obtain ⟨a, vs, rfl, q, k⟩ := h.lst_inv; exact ⟨false, a, vs, rfl, q, k⟩
  · obtain ⟨a, vs, rfl, q, k⟩ := h.tup_inv; exact ⟨true, a, vs, rfl, q, k⟩
end
end Dl
namespace Dl
open PySem PySem.Spec PyProof.Rows L2
section
variable {X : Cx} {a b e : Expr} {ta tb te : TEd} {pos : Pos}
end
section
variable {X : Cx} {e : Expr} {es : List Expr} {t : TAd} {p pos : Pos}
end
end Dl
namespace Dl
open PySem L2
noncomputable def dSlG (te : TEd) (tl th : TOd) : TEd := fun δ Q => te δ fun x δ1 => tl δ1 fun l δ2 => th δ2 fun u δ3 => ∃ d, slF x l u = some d ∧ Q d δ3
noncomputable def boolsF : List D → Option (List Bool)
  | [] => some []
  | .bl i :: r => (boolsF r).map (i :: ·)
  | _ :: _ => none
theorem boolsF_some : ∀ {l : List D} {ns : List Bool}, boolsF l = some ns → l = ns.map D.bl
  | [], ns, h => by cases h; rfl
  | .bl i :: r, ns, h => by
    unfold boolsF at h
    cases q : boolsF r with
    | none => rw [q] at h; cases h
    | some m => rw [q] at h; cases h; rw [boolsF_some q]; rfl
theorem boolsF_map : ∀ ns : List Bool, boolsF (ns.map D.bl) = some ns
  | [] => rfl
  | i :: r => by show (boolsF (r.map D.bl)).map (i :: ·) = _; rw [boolsF_map r]; rfl
noncomputable def cAll : RC := fun ds Q => match ds with
  | [.lst l] => ∃ bs, boolsF l = some bs ∧ Q (.bl (bs.all id))
  | _ => False
noncomputable def lstF : D → Option (List D)
  | .lst l => some l
  | _ => none
theorem lstF_lst {l : List D} : lstF (.lst l) = some l := rfl
noncomputable def enumL (l : List D) : List D := (List.range l.length).map fun i => .tup [.int ((i : Nat) : Int), l.getD i .non]
noncomputable def diEnum (ta : TAd) : TId := fun δ Q => ta δ fun ds δ1 => match ds with
  | [d] => ∃ l, seqF d = some l ∧ Q (enumL l) δ1
  | _ => False
noncomputable def signL (x : Str) : List D := x.cps.toList.map fun c => .str ⟨#[c]⟩
noncomputable def atS (x : Str) : D → Option D
  | .int i => if 0 ≤ i then (signL x)[i.toNat]? else none
  | _ => none
theorem atS_int {x : Str} {i : Int} : atS x (.int i) = if 0 ≤ i then (signL x)[i.toNat]? else none := rfl
noncomputable def dSign (x : Str) (te : TEd) : TEd := fun δ Q => te δ fun d δ1 => ∃ e, atS x d = some e ∧ Q e δ1
end Dl
namespace Dl
open PySem L2
noncomputable def strsF : List D → Option (List Str)
  | [] => some []
  | .str i :: r => (strsF r).map (i :: ·)
  | _ :: _ => none
theorem strsF_some : ∀ {l : List D} {ns : List Str}, strsF l = some ns → l = ns.map D.str
  | [], ns, h => by cases h; rfl
  | .str i :: r, ns, h => by
    unfold strsF at h
    cases q : strsF r with
    | none => rw [q] at h; cases h
    | some m => rw [q] at h; cases h; rw [strsF_some q]; rfl
theorem strsF_map : ∀ ns : List Str, strsF (ns.map D.str) = some ns
  | [] => rfl
  | i :: r => by show (strsF (r.map D.str)).map (i :: ·) = _; rw [strsF_map r]; rfl
noncomputable def cStrI : RC := fun ds Q => match ds with
  | [.int i] => i.natAbs ≤ 10000000000 ∧ Q (.str (Str.ofString (toString i)))
  | _ => False
end Dl
namespace HT
open PySem PyProof.Rows
section
variable {prog : Program} {w : World} {A : Around} {E : Value → Shared → Prop} {s : Shared}
theorem tupleWhole {t sl : Addr} {its : Array Value} {vl vu : Value} {lo hi : Option Int} {Q : Value → Shared → Prop} (ht : IsTup s.heap t its) (hs : s.heap.IsSliceOf sl vl vu .none) (pl : IsPart vl lo) (pu : IsPart vu hi)
    (hw : sIx its.size 0 lo = 0 ∧ sIx its.size its.size hi = its.size) (q : Q (.ref t) s) : wpAny (model prog w) A (getItem (.ref t) (.ref sl)) Q E s := by
  obtain ⟨o, eo, co, _⟩ := id hs
  have ty : s.TypeIs (.ref sl) "slice" := ⟨o, eo, co⟩
  unfold getItem
  try with_reducible refine wpAny_holding ?_
  first | refine wpAny_bind (wpAny_pure ?_) | skip
  refine wpAny_bind (wpAny_sequenceKey ht.typeIs (by decide) (wpAny_bind (wpAny_callSpecial?_slot (name := Str.ofString "__getitem__") ht.typeIs PyProof.Rows.slot_tuple_getitem (wpAny_call_entry PyProof.Rows.slot_tuple_getitem ht.typeIs entry_tuple_getitem ?_ (args_tuple_getitem _ _)))))
  show wpAny _ _ (Builtin.Tuple.tupleItemsOf (.ref t) >>= _) _ _ s
  refine wpAny_bind (tupleItemsOf_ ht (wpAny_bind (wpAny_typeOf ty ?_)))
  rw [if_pos (by decide)]
  refine wpAny_bind (sliceApplied_gen hs pl pu ?_)
  show wpAny _ _ (if (((sIx its.size 0 lo : Nat) : Int) == 0 && (1 : Int) == 1 && (sIx its.size its.size hi - sIx its.size 0 lo) == its.size) = true then _ else _) _ _ s
  rw [if_pos (by rw [hw.1, hw.2]; simp)]
  unfold Builtin.Tuple.tupleIsExact
  refine wpAny_bind (wpAny_bind (wpAny_typeOf ht.typeIs (wpAny_pure ?_)))
  rw [if_pos (by decide)]
  exact wpAny_bind (wpAny_rule (wpAny_pure ⟨_, rfl, wpAny_pure q⟩))
end
end HT
namespace Dl
open PySem PySem.Spec PyProof.Rows L2
section
variable {X : Cx} {a : Expr} {ta : TEd} {pos : Pos}
theorem sl_tupW : SlR X (fun x lo hi H Q => ∃ a xs, x = .ref a ∧ SqT X.K H a xs ∧ (HT.sIx xs.length 0 lo = 0 ∧ HT.sIx xs.length xs.length hi = xs.length) ∧ Q (.ref a) H) := by
  intro pins s σ H x v vl vu lo hi sl Q I rx hs pl pu ⟨a, xs, e, hx, hw, q⟩
  subst e
  cases rx
  obtain ⟨its, r, ht, hz⟩ := I.tuple hx
  have el : its.toArray.size = xs.length := by rw [List.size_toArray]; exact r.length.symm
  exact ⟨"tuple", _, PyProof.Rows.slot_tuple_getitem.lookup, ht.typeIs, HT.tupleWhole ht hs pl pu (by rw [el]; exact hw) ⟨.ref a, H, I, rfl, q⟩⟩
theorem cut_whole {l : List D} {lo hi : Option Int} (h : HT.sIx l.length 0 lo = 0 ∧ HT.sIx l.length l.length hi = l.length) : cutD l lo hi = l := by
  unfold cutD; rw [h.1, h.2, List.drop_zero, Nat.sub_zero, List.take_length]
theorem de_sliceG {lo hi : Option Expr} {tl th : TOd} {p2 : Pos} (he : DE X a ta) (hl : DO X lo tl) (hu : DO X hi th) : DE X (.Subscript a (.Slice lo hi none p2) pos) (dSlG ta tl th) :=
  pe_imp (pe_slice (SlR.or (SlR.or sl_list sl_tup) sl_tupW) he hl hu) fun σ H Q2 hx => hx.el fun n δ G Q R h k => ⟨n, δ, G, _, R, h, fun v G1 H1 d δ1 R1 s1 d1 h1 => ⟨n, δ1, G1, _, R1, h1, fun l G2 H2 δ2 R2 s2 h2 => ⟨n, δ2, G2, _, R2, h2, fun u G3 H3 δ3 R3 s3 ⟨w, e, h3⟩ => by
    have d3 := d1.up (s2.trans s3)
    cases d with
    | lst m =>
      cases e
      obtain ⟨a, vs, rfl, ha, la⟩ := d3.lst_inv
      exact .inl (.inl ⟨a, vs, rfl, R3.sub.seq ha, fun p hp => k _ _ _ _ δ3 (R3.laid hp _) (s1.trans (s2.trans (s3.trans (same_upd (R3.sub.free hp) _)))) (.lst (SqL.of upd_same) ((cut_den la l u).up (same_upd (R3.sub.free hp) _))) h3⟩)
    | tup m =>
      cases e
      obtain ⟨a, vs, rfl, ha, la⟩ := d3.tup_inv
      by_cases hw : HT.sIx m.length 0 l = 0 ∧ HT.sIx m.length m.length u = m.length
      · rw [cut_whole hw] at h3
        exact .inr ⟨a, vs, rfl, Same.tupS R3.sub ha, by rw [la.length]; exact hw, k _ G3 H3 _ δ3 R3 (s1.trans (s2.trans s3)) d3 h3⟩
      · exact .inl (.inr ⟨a, vs, rfl, Same.tupS R3.sub ha, by rw [la.length]; exact hw, fun p hp => k _ _ _ _ δ3 (R3.laid hp _) (s1.trans (s2.trans (s3.trans (same_upd (R3.sub.free hp) _)))) (.tup (SqT.of upd_same) ((cut_den la l u).up (same_upd (R3.sub.free hp) _))) h3⟩)
    | _ => cases e⟩⟩⟩
end
end Dl
namespace Dl
open PySem PySem.Spec PyProof.Rows L2
section
variable {X : Cx} {e : Expr} {es : List Expr} {t : TAd} {p pos : Pos}
noncomputable def rAllB (K : PySem.W.Frag) : List V → Hp → VK → Prop := fun xs H Q => ∃ (p : Addr) (bs : List Bool), xs = [.ref p] ∧ SqL K H p (bs.map V.bl) ∧ Q (.bl (bs.all id)) H
theorem vals_bools : ∀ {bs : List Bool} {us : List Value}, Vals (bs.map V.bl) us → us = bs.map Value.bool
  | [], _, .nil => rfl
  | b :: bs, _, .cons r t => by cases r; rw [vals_bools t]; rfl
theorem all_range : ∀ bs : List Bool, ((List.range bs.length).all fun i => (bs[i]?).getD true) = bs.all id
  | [] => rfl
  | b :: bs => by
    rw [List.length_cons, List.range_succ_eq_map, List.all_cons, List.all_map, List.all_cons]
    have := all_range bs
    simp only [List.getElem?_cons_zero, Option.getD_some, id]
    congr 1
theorem call_allB (hc : X.calm = true) : CallR X (.builtin "all") (rAllB X.K) := by
  rintro pins s σ H xs us Q I r ⟨p, bs, rfl, hq, q⟩
  obtain ⟨u, rfl, ru⟩ := r.one
  cases ru
  obtain ⟨its, rv, pl, hz⟩ := I.list hq
  have ei := vals_bools rv
  have lt : p < s.heap.objs.size := by obtain ⟨_, z, _⟩ := pl.isList; exact Heap.lt_size z
  refine call_all_walk (wpAny_pyIter_list pl.isList ⟨s.heap.objs.size, _, _, _, _, _, fun i => (bs[i]?).getD true, rfl, Walks.list (A := X.A.in1) (I.ok.hd hc) _ p (Nat.ne_of_lt lt) its.toArray, ⟨⟨_, Heap.get?_push_size _ rfl, rfl, rfl⟩, pl.isList.push _⟩, fun i v s' Q' E' hv hQ => ?_, fun g tk hk => ?_⟩)
  · have hv' : its[i]? = some v := by simpa using hv
    rw [ei, List.getElem?_map] at hv'
    cases q' : bs[i]? with
    | none => rw [q'] at hv'; cases hv'
    | some b =>
      rw [q'] at hv'
      cases hv'
      simp only [q', Option.getD_some] at hQ
      exact wpAny_truthy_bool hQ
  · have e : ((List.range its.toArray.size).all fun i => (bs[i]?).getD true) = bs.all id := by
      rw [List.size_toArray, ei, List.length_map]; exact all_range bs
    rw [e]
    refine ⟨.bl _, H, I.kept (t' := tk) fun b o z => hk b o (fun hm => ?_) (Heap.get?_push_of_some _ z), rfl, q⟩
    rw [List.mem_singleton.mp hm] at z
    exact Nat.lt_irrefl _ (Heap.lt_size z)
theorem DenL.bools_inv {K : PySem.W.Frag} {G : Hp} : ∀ {vs : List V} {ns : List Bool}, DenL K G vs (ns.map D.bl) → vs = ns.map V.bl
  | _, [], .nil => rfl
  | _, _ :: _, .cons h t => by rw [h.bl_inv, DenL.bools_inv t]; rfl
theorem cs_all {K : PySem.W.Frag} : CallS K (rAllB K) cAll := fun G H xs ds Q Q2 s hd h k => by
  unfold cAll at h
  split at h
  · obtain ⟨bs, e, q⟩ := h
    obtain ⟨v, rfl, d1⟩ := denl1 hd
    obtain ⟨a, vs, rfl, ha, la⟩ := d1.lst_inv
    rw [boolsF_some e] at la
    have ev : vs = bs.map V.bl := DenL.bools_inv la
    subst ev
    exact ⟨a, bs, rfl, s.seq ha, k _ G H _ (Ext.refl s) (.bl _) q⟩
  · exact h.elim
theorem de_all (hc : X.calm = true) (hm : X.mg "all" = none) (ha : DA X (e :: es) t) (hg : Gl X "all" := by rfl) (he : starEach (e :: es) X.env = (false, eval e X.env) :: starEach es X.env := by rfl) (hpl : (backTo pos (starEach es X.env)).any (·.1) = false := by rfl) : DE X (.Call (.Name "all" p) (e :: es) [] pos) (dCall cAll t) :=
  de_callB (call_allB hc) cs_all hm (by rfl) ha hg (by decide) (by decide) he hpl
open AutoSeq1 in
end
end Dl
namespace Dl
open PySem PySem.Spec PyProof.Rows L2
section
variable {X : Cx} {pins : List (Addr × Obj)} {σ : L2.St} {H : Hp} {s : Shared} {fp : List Addr}
theorem Inv.yields {g : Heap} {tk : Nat} {vs : List V} {us : List Value} (I : Inv X pins σ H s) (hf : ∀ b ∈ fp, FpOk X pins H b) (fo : ∀ b ∈ fp, ∃ o, s.heap.get? b = some o)
    (kp : ∀ c o, c ∉ fp → s.heap.get? c = some o → g.get? c = some o) (pT : IsTup g s.heap.objs.size us.toArray) (rv : Vals vs us) (hz : vs.length ≤ sizeLine) :
    Inv X pins σ (upd H s.heap.objs.size (.tup vs)) { s with heap := g, toks := tk } ∧ ∀ b ∈ fp, upd H s.heap.objs.size (.tup vs) b = none := by
  have hfree : ∀ b ∈ fp, H b = none := fun b hb => (hf b hb).1
  have lt : ∀ {b : Addr} {o : Obj}, s.heap.get? b = some o → b ≠ s.heap.objs.size := fun e => Nat.ne_of_lt (Heap.lt_size e)
  have trk : ∀ {b : Addr} {o : HO}, H b = some o → b ∉ fp := fun e hb => by rw [hfree _ hb] at e; cases e
  have fr : H s.heap.objs.size = none := I.hok.fresh (Nat.le_refl _)
  have un : Un (frs X.stack) fp H (upd H s.heap.objs.size (.tup vs)) s.heap g := by
    refine ⟨fun b o e _ _ nx => kp b o nx e, fun b o e _ _ nx => ⟨o.slots, kp b o nx e⟩, fun b o e n _ => by rw [upd_ne (lt e)]; exact n, fun b o e nx => ⟨o, kp b o nx e⟩, fun b zs e => ?_, fun b o' w' e => ?_, fun b ps e => ⟨#[], ?_⟩⟩
    · rw [upd_ne (ne_of_none e fr)]; exact e
    · rw [upd_ne (ne_of_none e fr)]; exact e
    · rw [upd_ne (ne_of_none e fr), e]; simp
  have hok : HOk X.prog X.w (upd H s.heap.objs.size (.tup vs)) g := fun b o e => by
    by_cases hb : b = s.heap.objs.size
    · subst hb
      rw [upd_same] at e; cases e
      exact ⟨hz, us, rv, pT⟩
    · rw [upd_ne hb] at e
      refine (I.hok b o e).stay (fun c w' hc' q => kp c w' ?_ q) (fun c q => by rw [upd_ne (ne_of_none q fr)]; exact q) fun c zs q => by rw [upd_ne (ne_of_none q fr)]; exact q
      rcases hc' with rfl | hc'
      · exact trk e
      · exact trk hc'
  refine ⟨I.call' (s' := { s with heap := g, toks := tk }) (ch := fp) rfl un hok I.bare fun b hb => ⟨(hf b hb).2.2.2.1, (hf b hb).2.1, (hf b hb).2.2.2.2.1, (hf b hb).2.2.2.2.2⟩, fun b hb => ?_⟩
  obtain ⟨o, eo⟩ := fo b hb
  rw [upd_ne (lt eo)]; exact hfree b hb
theorem Inv.turns {g : Heap} {tk : Nat} (I : Inv X pins σ H s) (hf : ∀ b ∈ fp, FpOk X pins H b) (kp : ∀ c o, c ∉ fp → s.heap.get? c = some o → g.get? c = some o) : Inv X pins σ H { s with heap := g, toks := tk } := by
  have hfree : ∀ b ∈ fp, H b = none := fun b hb => (hf b hb).1
  have trk : ∀ {b : Addr} {o : HO}, H b = some o → b ∉ fp := fun e hb => by rw [hfree _ hb] at e; cases e
  have un : Un (frs X.stack) fp H H s.heap g := ⟨fun b o e _ _ nx => kp b o nx e, fun b o e _ _ nx => ⟨o.slots, kp b o nx e⟩, fun _ _ _ n _ => n, fun b o e nx => ⟨o, kp b o nx e⟩, fun _ _ e => e, fun _ _ _ e => e, fun b ps e => ⟨#[], by rw [e]; simp⟩⟩
  have hok : HOk X.prog X.w H g := fun b o e => by
    refine (I.hok b o e).stay (fun c w' hc' q => kp c w' ?_ q) (fun c q => q) fun c zs q => q
    rcases hc' with rfl | hc'
    · exact trk e
    · exact trk hc'
  exact I.call' (s' := { s with heap := g, toks := tk }) (ch := fp) rfl un hok I.bare fun b hb => ⟨(hf b hb).2.2.2.1, (hf b hb).2.1, (hf b hb).2.2.2.2.1, (hf b hb).2.2.2.2.2⟩
end
theorem draws_sub {P : Program} {w : World} {A : Around} (hh : A.handled = none) {b : Bool} {j a : Addr} (ne : a ≠ j) (its : Array Value) :
    Draws P w A j [j, a] its.size (fun i v => its[i]? = some v) (SubIt b j a its) where
  live := fun _ _ st => let ⟨o, e, _⟩ := st.obj; ⟨o, e⟩
  frame := fun _ _ _ st k => st.at (fun o e => k j (by simp) o e) fun o e => k a (by simp) o e
  item := fun i s Q E hi st q => sub_item st ne (x := its[i]) (by simp [hi]) fun g y m => q _ g s.toks (by simp [hi]) y m
  done := fun s Q E st q => sub_end hh st (by simp) q
theorem draws_end {P : Program} {w : World} {A : Around} (hh : A.handled = none) {b : Bool} {j a : Addr} {its : Array Value} {i0 : Nat} (hx : its[i0]? = none) :
    Draws P w A j [j, a] 0 (fun _ _ => False) (fun _ h => SubIt b j a its i0 h) where
  live := fun _ _ st => let ⟨o, e, _⟩ := st.obj; ⟨o, e⟩
  frame := fun _ _ _ st k => st.at (fun o e => k j (by simp) o e) fun o e => k a (by simp) o e
  item := fun i s Q E hi _ _ => absurd hi (Nat.not_lt_zero _)
  done := fun s Q E st q => sub_end hh st hx q
noncomputable def Ite (K : PySem.W.Frag) (b : Bool) (a : Addr) : It :=
  ⟨fun i H => ∃ xs x, SqB K b H a xs ∧ xs[i]? = some x,
   fun i H v H' => ∃ p x, v = .ref p ∧ H p = none ∧ H' = upd H p (.tup [.int (i : Nat), x]) ∧ ∀ xs, SqB K b H a xs → xs[i]? = some x,
   fun i H => ∃ xs, SqB K b H a xs ∧ xs.length ≤ i⟩
theorem turn_enum {P : Program} {w : World} {K : PySem.W.Frag} {elts : List Expr} {kk : Nat} {tp : Pos} {en j a : Addr} {b : Bool} (n1 : en ≠ j) (n2 : a ≠ j) (n3 : a ≠ en) :
    Turn P w K (.Tuple elts kk tp) (Ite K b a) [en, j] en (fun i h => (∃ old, IsEnum h en j (i : Nat) old) ∧ ItIs b j a i h) where
  mem := by simp
  obj := fun i h ⟨⟨old, h1⟩, h2⟩ c hc => by
    simp only [List.mem_cons, List.not_mem_nil, or_false] at hc
    rcases hc with rfl | rfl
    · exact ⟨_, h1, fun v z => nomatch z⟩
    · exact h2.obj
  keep := fun i h h' ⟨⟨old, h1⟩, h2⟩ k => ⟨⟨old, k en (by simp) _ h1⟩, h2.at fun o e => k j (by simp) o e⟩
  item := by
    intro X hP hw hK hc i pins s σ H E I hf ⟨⟨old, h1⟩, h2⟩ ⟨xs, x, q1, hx⟩
    subst hP hw hK
    obtain ⟨its, r, e1⟩ := Inv.seqB I q1
    obtain ⟨u, hu, ru⟩ := r.get hx
    have hlt : i < its.toArray.size := by rw [List.size_toArray]; exact (List.getElem?_eq_some_iff.mp hu).1
    refine wpAny_pyNext_enum_itemD (draws_sub (A := X.A.in1) (b := b) (I.ok.hd hc) n2 its.toArray) h1 (h2.sub e1) hlt n1 (by simp [n1, Ne.symm n3]) fun y g tk hy z1 z2 z3 z4 kp => ?_
    have ey : y = u := by
      have : its[i]? = some y := by simpa using hy
      rw [hu] at this; exact (Option.some.inj this).symm
    subst ey
    refine ⟨_, rfl, wpAny_letOwnedTupleGo_enum z1 fun g' z1' sb => ?_⟩
    have lte : en ≠ s.heap.objs.size := Nat.ne_of_lt (Heap.lt_size h1)
    obtain ⟨I1, fr1⟩ := Inv.yields (fp := [en, j]) (tk := tk + 1) (g := g') (vs := [.int (i : Nat), x]) (us := [.int (i : Nat) tk, y]) I hf
      (fun c hc' => by
        simp only [List.mem_cons, List.not_mem_nil, or_false] at hc'
        rcases hc' with rfl | rfl
        · exact ⟨_, h1⟩
        · obtain ⟨o, eo, _⟩ := h2.obj; exact ⟨o, eo⟩)
      (fun c o hc' e => by
        simp only [List.mem_cons, List.not_mem_nil, or_false, not_or] at hc'
        exact sb.extBut _ _ hc'.1 (kp c o hc'.1 hc'.2 e))
      ⟨_, sb.extBut _ _ (Ne.symm lte) z3, rfl, _, rfl⟩ (.cons ⟨_, rfl⟩ (.cons ru .nil)) (by show 2 ≤ sizeLine; decide)
    refine ⟨.ref s.heap.objs.size, _, I1, rfl, ⟨_, x, rfl, I.hok.fresh (Nat.le_refl _), rfl, fun ys hy' => by rw [Inv.seqB_inj I hy' q1]; exact hx⟩, ⟨⟨_, by rw [show (((i + 1 : Nat) : Nat) : Int) = ((i : Nat) : Int) + 1 by omega]; exact z1'⟩, z2.it.at fun o e => sb.extBut _ _ (Ne.symm n1) e⟩, fr1⟩
  done := by
    intro X hP hw hK hc i pins s σ H E I hf ⟨⟨old, h1⟩, h2⟩ ⟨xs, q1, hl⟩
    subst hP hw hK
    obtain ⟨its, r, e1⟩ := Inv.seqB I q1
    have hx : its.toArray[i]? = none := by simp; rw [← r.length]; exact hl
    refine wpAny_pyNext_enum_endD (draws_end (A := X.A.in1) (b := b) (I.ok.hd hc) hx) h1 (h2.sub e1) fun g kp => ⟨rfl, ?_⟩
    exact Inv.turns (fp := [en, j]) (tk := s.toks) I hf fun c o hc' e => kp c o (fun z => hc' (by simp [z])) e
  self := fun A i s Q E ⟨⟨old, h1⟩, h2⟩ q => wpAny_pyIter_enum h1 q
noncomputable abbrev enH (b : Bool) (h : Heap) (p : Addr) : Heap := (zh1 b h p).push { cls := .type "enumerate", data := .fields #[.none, .bool false, .ref h.objs.size, rawInt 0, .none, .none] }
set_option maxHeartbeats 4000000 in
open AutoSeq1 in
theorem meetsEnum (b : Bool) (p : Addr) (xs : Array Value) : Meets (Builtin.«enumerate.__new__» ⟨[.type "enumerate", .ref p], []⟩) (fun _ R s => SeqIs b p xs s.heap ∧ R (.ok (.ret (.ref (zh1 b s.heap p).objs.size))) { s with heap := enH b s.heap p }) :=
  .of_wp fun prog w A R s h => by
    obtain ⟨hp, g, d, tk, os⟩ := s
    obtain ⟨e1, h⟩ := h
    have hsub := sub_enumerate
    cases b with
    | false =>
      have L1 : Heap.IsList (Shared.heap ⟨hp, g, d, tk, os⟩) p xs := e1
      obtain ⟨o, ho, _, _⟩ := id L1
      wp_walk using wpAny_loadPart' ho
      refine wpAny_stack_any fun st => wpAny_pure ?_
      split
      · rename_i c _ _ _ _ _
        cases (c == Value.type "enumerate") <;> (wp_walk using wpAny_loadPart' ho, wpAny_pyIter_list L1; exact ⟨_, rfl, h⟩)
      · wp_walk using wpAny_loadPart' ho, wpAny_pyIter_list L1
        exact ⟨_, rfl, h⟩
    | true =>
      have L1 : Heap.IsTuple (Shared.heap ⟨hp, g, d, tk, os⟩) p xs := e1
      obtain ⟨o, ho, _, _⟩ := id L1
      wp_walk using wpAny_loadPart' ho
      refine wpAny_stack_any fun st => wpAny_pure ?_
      split
      · rename_i c _ _ _ _ _
        cases (c == Value.type "enumerate") <;> (wp_walk using wpAny_loadPart' ho, wpAny_pyIter_tuple L1; exact ⟨_, rfl, h⟩)
      · wp_walk using wpAny_loadPart' ho, wpAny_pyIter_tuple L1
        exact ⟨_, rfl, h⟩
section
variable {prog : Program} {w : World} {A : Around} {E : Value → Shared → Prop} {s : Shared} {b : Bool} {p : Addr} {xs : Array Value}
theorem callEnum {Q : Value → Shared → Prop} (e1 : SeqIs b p xs s.heap)
    (q : ∀ g, IsEnum g (s.heap.objs.size + 1) s.heap.objs.size 0 .none → SubIt b s.heap.objs.size p xs 0 g → (∀ c o, s.heap.get? c = some o → g.get? c = some o) → Q (.ref (s.heap.objs.size + 1)) { s with heap := g }) :
    wpAny (model prog w) A (call (.type "enumerate") [.ref p]) Q E s := by
  refine callType_new F.called_enumerate (by decide) (F.typeCall_enumerate_1 _) (F.newCall_enumerate_1 _) (fun ob => F.args_object_init_2 ob _) F.entry_enumerate_new (meetsEnum b p xs) ⟨e1, ?_⟩
  have n1 : (zh1 b s.heap p).objs.size = s.heap.objs.size + 1 := Heap.size_push ..
  have w2 : (enH b s.heap p).get? (zh1 b s.heap p).objs.size = some _ := Heap.get?_push_size _ rfl
  have w1 : (enH b s.heap p).get? s.heap.objs.size = some _ := Heap.get?_push_of_some _ (Heap.get?_push_size _ rfl)
  have kp : ∀ c o, s.heap.get? c = some o → (enH b s.heap p).get? c = some o := fun c o e => Heap.get?_push_of_some _ (Heap.get?_push_of_some _ e)
  show _ ∧ _
  rw [n1] at w2 ⊢
  exact ⟨⟨_, w2, rfl⟩, q _ w2 (subIt_0 w1 (e1.at fun o e => kp _ o e)) kp⟩
end
section
variable {X : Cx} {elts : List Expr} {kk : Nat} {tp p pos : Pos} {a : Expr}
noncomputable def iEnum (K : PySem.W.Frag) (ta : TA) : TI := fun σ H R => ta σ H fun vs H1 => ∃ a1 b1, vs = [.ref a1] ∧ (∃ xs, SqB K b1 H1 a1 xs) ∧ R (Ite K b1 a1) H1
theorem boot_enum : bootBuiltins "enumerate" = some (.type "enumerate") := by rfl
theorem pi_enum {ta : TA} (hg : Gl X "enumerate") (hm : X.mg "enumerate" = none) (ha : PA X [a] ta) (hs : starEach [a] X.env = (false, eval a X.env) :: starEach [] X.env) (hpl : (backTo pos (starEach [] X.env)).any (·.1) = false) :
    PI X (.Tuple elts kk tp) (.Call (.Name "enumerate" p) [a] [] pos) (iEnum X.K ta) := by
  intro pins s σ H R I h
  refine Call_ (ld_blt I hg hm boot_enum (PyProof.Rows.callWith_type1 (thn (ha pos pins s σ H _ I h) fun us s1 ⟨vs, H1, I1, r1, a1, b1, ev, ⟨xs, q1⟩, q⟩ => ?_) hs hpl))
  subst ev
  obtain ⟨u1, rfl, ru1⟩ := r1.one
  cases ru1
  obtain ⟨its1, v1, e1⟩ := Inv.seqB I1 q1
  refine callEnum e1 fun g z1 z2 kp => wpAny_pyIter_enum z1 ?_
  have l1 : @LT.lt Nat _ a1 s1.heap.objs.size := e1.lt
  refine ⟨_, _, _, _, H1, rfl, I1.kept (t' := s1.toks) kp, turn_enum (Nat.ne_of_gt (Nat.lt_succ_self _)) (Nat.ne_of_lt l1) (Nat.ne_of_lt (Nat.lt_succ_of_lt l1)), ⟨⟨_, z1⟩, z2.it⟩, fun b hb => ?_, q⟩
  have hge : s1.heap.objs.size ≤ b := by
    simp only [List.mem_cons, List.not_mem_nil, or_false] at hb
    rcases hb with rfl | rfl <;> omega
  exact I1.fpOk hge (I1.hok.fresh hge)
theorem jok_enum {K : PySem.W.Frag} {G : Hp} {b1 : Bool} {a1 : Addr} {vs : List V} {l : List D} (h1 : SqB K b1 G a1 vs) (d1 : DenL K G vs l) : JOk K G (Ite K b1 a1) (enumL l) := by
  have e1 := d1.length
  have el : (enumL l).length = l.length := by unfold enumL; rw [List.length_map, List.length_range]
  refine ⟨fun i G1 H1 s1 s2 hi => ?_, fun i G1 H1 x H2 s1 s2 hi y => ?_, fun i G1 H1 s1 s2 hi => ?_⟩
  · rw [el] at hi
    exact ⟨vs, vs[i]'(by omega), h1.seq (s1.trans s2), by simp⟩
  · rw [el] at hi
    obtain ⟨p, v, rfl, hp, rfl, k1⟩ := y
    obtain ⟨dx, hx, ex⟩ := d1.getV (k1 vs (h1.seq (s1.trans s2)))
    have sg : Same G1 (upd G1 p (.tup [.int (i : Nat), v])) := same_upd (s2.free hp) _
    have eg : (enumL l)[i]? = some (.tup [.int (i : Nat), dx]) := by
      unfold enumL
      rw [List.getElem?_map, List.getElem?_range hi]
      show some (D.tup [.int (i : Nat), l.getD i .non]) = _
      rw [List.getD_eq_getElem?_getD, hx]; rfl
    exact ⟨_, _, Ext.laid s2 hp _, eg, .tup (SqT.of upd_same) (.cons (.int _) (.cons (ex.up (s1.trans sg)) .nil))⟩
  · rw [el] at hi
    exact ⟨vs, h1.seq (s1.trans s2), by omega⟩
theorem di_enum {ta : TAd} (hm : X.mg "enumerate" = none) (ha : DA X [a] ta) (hg : Gl X "enumerate" := by rfl) (hs : starEach [a] X.env = (false, eval a X.env) :: starEach [] X.env := by rfl) (hpl : (backTo pos (starEach [] X.env)).any (·.1) = false := by rfl) :
    DI X (.Tuple elts kk tp) (.Call (.Name "enumerate" p) [a] [] pos) (diEnum ta) :=
  pi_imp (pi_enum hg hm ha hs hpl) fun σ H R2 hx => hx.el fun n δ G Q R h k => ⟨n, δ, G, _, R, h, fun vs G1 H1 ds δ1 R1 s1 d1 h1 => by
    split at h1
    · obtain ⟨l, e1, q⟩ := h1
      cases d1 with
      | cons x1 d1 =>
        cases d1
        obtain ⟨b1, a1, ws1, rfl, q1, k1⟩ := den_sqb x1 e1
        exact ⟨a1, b1, rfl, ⟨_, q1.seq R1.sub⟩, k _ G1 H1 _ δ1 R1 s1 (jok_enum q1 k1) q⟩
    · exact h1.elim⟩
end
end Dl
namespace HT
open PySem PyProof.Rows
section
variable {prog : Program} {w : World} {A : Around} {E : Value → Shared → Prop} {s : Shared}
end
end HT
namespace Dl
open PySem PySem.Spec PyProof.Rows L2
section
variable {X : Cx} {a e : Expr} {es : List Expr} {ta tb : TEd} {t : TAd} {p pos p2 cp : Pos} {j : Nat}
theorem DenL.rev {K : PySem.W.Frag} {G : Hp} : ∀ {vs : List V} {ds : List D}, DenL K G vs ds → DenL K G vs.reverse ds.reverse
  | _, _, .nil => .nil
  | _, _, .cons h t => by rw [List.reverse_cons, List.reverse_cons]; exact (DenL.rev t).append (.cons h .nil)
theorem call_strI : CallR X (.type "str") (fun xs H Q => ∃ i : Int, xs = [.int i] ∧ i.natAbs ≤ 10000000000 ∧ Q (.str (Str.ofString (toString i))) H) := by
  rintro pins s σ H xs us Q I r ⟨i, rfl, hb, q⟩
  obtain ⟨u, rfl, t, rfl⟩ := r.one
  have hlog : i.natAbs.log2 < 1920 := by
    have : i.natAbs < 2 ^ 1920 := Nat.lt_of_le_of_lt hb (by decide)
    by_cases z : i.natAbs = 0
    · rw [z]; decide
    · exact (Nat.log2_lt z).mpr this
  exact P.str_of_int hlog ⟨.str _, H, I.tok _, ⟨_, rfl⟩, q⟩
theorem cs_strI {K : PySem.W.Frag} : CallS K (fun xs H Q => ∃ i : Int, xs = [.int i] ∧ i.natAbs ≤ 10000000000 ∧ Q (.str (Str.ofString (toString i))) H) cStrI := fun G H xs ds Q Q2 s hd h k => by
  unfold cStrI at h
  split at h
  · obtain ⟨v, rfl, d1⟩ := denl1 hd
    cases d1.int_inv
    exact ⟨_, rfl, h.1, k _ G H _ (Ext.refl s) (.str _) h.2⟩
  · exact h.elim
theorem de_strI (hm : X.mg "str" = none) (ha : DA X (e :: es) t) (hg : Gl X "str" := by rfl) (he : starEach (e :: es) X.env = (false, eval e X.env) :: starEach es X.env := by rfl) (hpl : (backTo pos (starEach es X.env)).any (·.1) = false := by rfl) : DE X (.Call (.Name "str" p) (e :: es) [] pos) (dCall cStrI t) :=
  de_callTy call_strI cs_strI hm (by rfl) ha hg (by decide) (by decide) he hpl
theorem de_pow (ha : DE X a ta) (hb : DE X e tb) : DE X (.BinOp a .Pow e pos) (dOp (rIC CPow fun i j => .int (i ^ j.toNat)) ta tb) := de_bin op_pow (os_ic fun _ _ _ => .int _) ha hb
end
end Dl
namespace Dl
open PySem PySem.Spec PyProof.Rows L2
noncomputable def notStar : Expr → Bool
  | .Starred .. => false
  | _ => true
theorem star_cons {e : Expr} {es : List Expr} {env : Env} (h : notStar e = true) : starEach (e :: es) env = (false, eval e env) :: starEach es env := by
  cases e <;> first | rfl | cases h
section
variable {X : Cx} {e : Expr} {es : List Expr} {te : TEd} {t : TAd}
theorem da_consL (ha : DE X e te) (hr : DA X es t) (h : notStar e = true := by rfl) : DA X (e :: es) (dCons te t) := da_cons ha hr (star_cons h)
end
end Dl
namespace HT
open PySem PyProof.Rows Builtin Builtin.Str
theorem len_lr : typeLookup (.type "list_reverseiterator") "__len__" = pure none := by rw [typeLookup_type, builtinLookup_eq_fast]; kernel_rfl
theorem hint_lr : typeLookup (.type "list_reverseiterator") "__length_hint__" = pure (some (.builtin "list_reverseiterator.__length_hint__")) := by rw [typeLookup_type, builtinLookup_eq_fast]; kernel_rfl
section
variable {s : Shared} {prog : Program} {w : World} {A : Around} {E : Value → Shared → Prop}
theorem collectRev {J : Addr} {fq wq : List Addr} {G : Array GenState → Array GenState → Prop} {k : Nat} {P : Nat → Value → Prop} {St : Nat → Shared → Prop} {Q : List Value → Shared → Prop} (W : WalksS prog w A.in1 J fq wq G k P St) (ty : ∀ i s, St i s → s.TypeIs (.ref J) "list_reverseiterator") (st0 : St 0 s) (old : ∀ b ∈ fq, b < s.heap.objs.size) (hJ : J ∈ fq) (hk : k ≤ sizeLine)
    (q : ∀ s' acc, Moved wq G s s' → ItemsOf P acc k → Q acc.toList s') : wpAny (model prog w) A (collect (.ref J)) Q E s := by
  have nf : s.heap.objs.size ∉ fq := fun z => Nat.lt_irrefl _ (old _ z)
  have nJ : s.heap.objs.size ≠ J := fun z => nf (z ▸ hJ)
  unfold collect; refine wpAny_bind (wpAny_runValue (codeAny_builtin F.entry_proto_collect ?_)); rw [Around.under_plainId F.plain_proto_collect _]
  refine (show wpAny _ A.in1 (newList [] >>= fun l => again (.builtin "list.__iadd__" ⟨[l, .ref J], []⟩)) _ _ s from ?_)
  refine wpAny_bind (wpAny_newObj_type ?_); refine wpAny_pure ⟨plainId_quiet F.plain_list_iadd _, codeAny_builtin F.entry_list_iadd ?_⟩; rw [Around.under_plainId F.plain_list_iadd _]
  have st1 := W.frame 0 s (s.heap.push { cls := .type "list", data := .seq ([] : List Value).toArray }) s.toks st0 (Nat.le_refl _) fun b _ o e => Heap.get?_push_of_some _ e
  have new1 : (s.heap.push { cls := .type "list", data := .seq ([] : List Value).toArray }).get? s.heap.objs.size = some { cls := .type "list", data := .seq ([] : List Value).toArray } := Heap.get?_push_size _ rfl
  have un : Builtin.List.listSameRef (.ref s.heap.objs.size) (.ref J) = false := by simp [Builtin.List.listSameRef, nJ]
  refine (show wpAny _ A.in1 (Builtin.List.listExtendWith (.ref s.heap.objs.size) (.ref J) (.ref s.heap.objs.size)) _ _ _ from ?_)
  unfold Builtin.List.listExtendWith; refine wpAny_bind (wpAny_typeOf (ty 0 _ st1) ?_)
  rw [if_neg (by rw [un]; decide)]
  refine wpAny_bind (W.self 0 _ _ _ st1 ?_); refine wpAny_bind (wpAny_holding ?_)
  unfold Builtin.List.listLengthHint; refine wpAny_bind (wpAny_specialOf (ty 0 _ st1) len_lr ?_)
  refine (show wpAny _ A.in1 (specialOf (Value.ref J) (Str.ofString "__length_hint__") >>= _) _ _ _ from ?_)
  refine wpAny_bind (wpAny_specialOf (ty 0 _ st1) hint_lr ?_)
  generalize hid : ("list_reverseiterator.__length_hint__" : String) = id0
  wp_delta
  rw [show splitId id0 = some ("list_reverseiterator", "__length_hint__") from by subst hid; decide +kernel]
  subst hid
  refine wpAny_bind (wpAny_isInstance (b := true) (ty 0 _ st1) (by rw [isSubtype_type]; kernel_rfl) ?_)
  refine wpAny_pure ?_
  rw [if_neg (by decide)]
  refine wpAny_pure ⟨plainId_quiet F.plain_extend_loop _, codeAny_extend_loopS W hk _ nf _ k 0 _ _ _ rfl (Nat.zero_le _) st1 new1 (ItemsOf.nil P) fun s' acc' c' mv hS' ha => ?_⟩
  refine (show wpAny _ A (load s.heap.objs.size >>= _) _ _ s' from wpAny_bind (wpAny_load hS' ?_))
  exact wpAny_pure (q s' acc' (Moved.drop_new (o := { cls := .type "list", data := .seq ([] : List Value).toArray }) (tk := s.toks) mv (Nat.le_refl _)) ha)
theorem tail_gives {x : Str} : ∀ (rv : List (Str × Tok)), tooLong ((rv.map (·.1)).toArray.foldl (· + ·.length + x.length) 0) = false → Gives (joinTail x (strValues rv)) (joinMade x rv)
  | [], h => gives_joinTail x [] h
  | [a], h => gives_joinTail x [a] h
  | a :: b :: r, h => gives_joinTail x (a :: b :: r) h
theorem joinRev {l : Addr} {its : List (Str × Tok)} {x : Str} {t : Tok} {Q : Value → Shared → Prop} (hh : A.handled = none) (hl : s.heap.IsList l (strValues its).toArray) (hz : its.length ≤ sizeLine) (ok : JoinOk x (its.map (·.1)).reverse = true)
    (q : ∀ t' h' tk, (∀ b o, s.heap.get? b = some o → h'.get? b = some o) → Q (.str (Txt.join x (its.map (·.1)).reverse) t') { s with heap := h', toks := tk }) :
    wpAny (model prog w) A (call (.builtin "str.join") [.str x t, .ref s.heap.objs.size]) Q E { s with heap := s.heap.push (revObj l (((strValues its).toArray.size : Int) - 1)) } := by
  have up : ∀ b o, s.heap.get? b = some o → (s.heap.push (revObj l (((strValues its).toArray.size : Int) - 1))).get? b = some o := fun b o e => Heap.get?_push_of_some _ e
  have ne : l ≠ s.heap.objs.size := by obtain ⟨o, ho, _⟩ := hl; exact Nat.ne_of_lt (Heap.lt_size ho)
  have hl2 : (s.heap.push (revObj l (((strValues its).toArray.size : Int) - 1))).IsList l (strValues its).toArray := hl.at fun o e => up l o e
  have it0 : (s.heap.push (revObj l (((strValues its).toArray.size : Int) - 1))).IsRevIter s.heap.objs.size l (((strValues its).toArray.size : Int) - 1) := ⟨_, Heap.get?_push_size _ rfl, rfl, rfl⟩
  have W := Walks.listRev (prog := prog) (w := w) (A := A.in1.in1) hh s.heap.objs.size l ne (strValues its).toArray
  have sz : (strValues its).toArray.size = its.length := by simp [strValues]
  refine wpAny_call (codeAny_call_builtin F.slot_str_join.plain F.entry_str_join (F.slot_str_join.check _ _ _ _ _ _ _ _ (typeIs_str _ _ _) (F.args_str_join_2 _ _) ?_)); rw [join_tree_other]
  refine wpAny_bind (wpAny_typeOf it0.typeIs ?_)
  refine (show wpAny _ A.in1 ((pyIter (.ref s.heap.objs.size)).tryCatch _ >>= fun it => collect it >>= fun items => joinTail x items) _ _ _ from ?_)
  have st0 : (0 : Nat) ≤ (strValues its).toArray.size ∧ (s.heap.push (revObj l (((strValues its).toArray.size : Int) - 1))).IsRevIter s.heap.objs.size l (((strValues its).toArray.size : Int) - 1 - ((0 : Nat) : Int)) ∧ (s.heap.push (revObj l (((strValues its).toArray.size : Int) - 1))).IsList l (strValues its).toArray := ⟨Nat.zero_le _, by simpa using it0, hl2⟩
  refine wpAny_bind (wpAny_tryCatch (W.toS.of_in1.self 0 _ _ _ st0 ?_))
  refine wpAny_bind (collectRev W.toS (fun i s z => z.2.1.typeIs) st0 (fun b hb => ?_) (by simp) (by rw [sz]; exact hz) fun s' acc mv ha => ?_)
  · rw [Heap.size_push]
    rcases List.mem_cons.mp hb with rfl | hb
    · exact Nat.lt_succ_self _
    · rw [List.mem_singleton.mp hb]; obtain ⟨o, ho, _⟩ := hl; exact Nat.lt_succ_of_lt (Heap.lt_size ho)
  · have ea : acc.toList = strValues its.reverse := by
      have e1 : acc.size = its.length := by rw [← sz]; exact ha.1
      apply List.ext_getElem?
      intro i
      by_cases hi : i < its.length
      · have h1 := ha.2 i _ (Array.getElem?_eq_getElem (show i < acc.size by omega))
        rw [sz] at h1
        rw [Array.getElem?_toList, Array.getElem?_eq_getElem (show i < acc.size by omega), ← h1]
        simp only [strValues, List.map_reverse]
        rw [List.getElem?_reverse (by simpa using hi)]
        simp
      · rw [List.getElem?_eq_none (by rw [Array.length_toList]; omega), List.getElem?_eq_none (by simp [strValues]; omega)]
    rw [ea]
    have em : (its.reverse).map (·.1) = (its.map (·.1)).reverse := by rw [List.map_reverse]
    have ok' : tooLong ((its.reverse.map (·.1)).toArray.foldl (· + ·.length + x.length) 0) = false := by
      rw [em]; unfold JoinOk at ok; rwa [Bool.not_eq_true'] at ok
    have g := tail_gives (x := x) its.reverse ok'
    refine g prog w A (wants Q E) s' (post_join its.reverse ⟨joinFit_length ok', fun t' tk => ?_⟩)
    rw [em]
    have es : ({ s' with toks := tk } : Shared) = { s with heap := s'.heap, toks := tk } := by
      obtain ⟨h', g', d', k', o'⟩ := s'
      cases mv.gens; cases mv.drawn; cases mv.os; rfl
    rw [es]
    exact q t' s'.heap tk fun b o e => mv.heap b o (fun z => by rw [List.mem_singleton.mp z] at e; exact absurd (Heap.lt_size e) (Nat.lt_irrefl _)) (up b o e)
end
end HT
namespace Dl
open PySem PySem.Spec PyProof.Rows L2
section
variable {X : Cx} {b : Expr} {tb : TEd} {x : Str} {j : Nat} {cp pos : Pos}
theorem atS_some {x : Str} {d e : D} (h : atS x d = some e) : ∃ (i : Int) (c : Nat), d = .int i ∧ 0 ≤ i ∧ x.cps[i.toNat]? = some c ∧ e = .str ⟨#[c]⟩ := by
  unfold atS at h
  split at h
  · rename_i i
    by_cases h0 : 0 ≤ i
    · rw [if_pos h0] at h
      unfold signL at h
      rw [List.getElem?_map, Array.getElem?_toList] at h
      cases q : x.cps[i.toNat]? with
      | none => rw [q] at h; cases h
      | some c => rw [q] at h; cases h; exact ⟨i, c, rfl, h0, q, rfl⟩
    · rw [if_neg h0] at h; cases h
  · cases h
noncomputable def rSg (x : Str) : RD := fun v y Q => match v with
  | .str z => z = x ∧ ∃ e, atS x y = some e ∧ Q e
  | _ => False
theorem os_sg {K : PySem.W.Frag} (hx : x.length ≤ sizeLine) : OpS K (rIx K) (rSg x) := fun G H v y dv dy Q Q2 s hv hy h k => by
  unfold rSg at h
  split at h
  · obtain ⟨rfl, e, he, q⟩ := h
    obtain ⟨i, c, rfl, h0, hc, rfl⟩ := atS_some he
    cases hv.str_inv
    cases hy.int_inv
    refine .inr (.inr ⟨_, i, c, rfl, rfl, hx, ?_, k _ G H _ (Ext.refl s) (.str _) q⟩)
    have e : ((i.toNat : Nat) : Int) = i := Int.toNat_of_nonneg h0
    rw [← e]
    exact atI_nat (by rw [Array.getElem?_toList]; exact hc)
  · exact h.elim
theorem dSign_op {δ : Ev} {Q : QE} (h : dSign x tb δ Q) : dOp (rSg x) (dC (.str x)) tb δ Q := by
  have e : (fun (y : D) (δ2 : Ev) => rSg x (.str x) y fun d => Q d δ2) = fun y δ2 => ∃ e, atS x y = some e ∧ Q e δ2 := funext fun y => funext fun δ2 => propext ⟨fun h => h.2, fun h => ⟨rfl, h⟩⟩
  show tb δ (fun y δ2 => rSg x (.str x) y fun d => Q d δ2)
  rw [e]
  exact h
theorem de_sign (hb : DE X b tb) (hx : x.length ≤ sizeLine := by decide +kernel) (hp : PlainIx b := by exact fun _ _ => rfl) : DE X (.Subscript (.Constant (.str x) j cp) b pos) (dSign x tb) :=
  pe_imp (de_ixG ix_seq (os_sg hx) de_str hb hp) fun σ H Q2 hx => hx.el fun n δ G Q R h k => ⟨n, δ, G, Q, R, dSign_op h, k⟩
end
noncomputable def Its (x : Str) : It := ⟨fun i _ => i < x.cps.size, fun i H v H' => H' = H ∧ ∃ c, x.cps[i]? = some c ∧ v = .str ⟨#[c]⟩, fun i _ => x.cps.size ≤ i⟩
theorem turn_signs {P : Program} {w : World} {K : PySem.W.Frag} {tg : Expr} {x : Str} {t : Tok} (it : Addr) : Turn P w K tg (Its x) [it] it (fun i h => h.IsStrIter it "str_ascii_iterator" x t i) where
  mem := List.mem_singleton.mpr rfl
  obj := fun i h st b hb => by
    rw [List.mem_singleton.mp hb]
    obtain ⟨o, e, _, d⟩ := st
    exact ⟨o, e, fun v z => by rw [d] at z; cases z⟩
  keep := fun i h h' ⟨o, e, r⟩ k => ⟨o, k it (List.mem_singleton.mpr rfl) o e, r⟩
  item := by
    intro X hP hw hK hc i pins s σ H E I hf st hg
    subst hP hw hK
    have hx : x.cps[i]? = some (x.cps[i]'hg) := Array.getElem?_eq_getElem hg
    obtain ⟨f0, f1, f2, f3, f4, f5⟩ := hf it (List.mem_singleton.mpr rfl)
    refine wpAny_pyNext_ascii_item st hx fun g st' sb => ?_
    have I1 : Inv X pins σ H { s with heap := g, toks := s.toks + 1 } := I.turned (fun b o hb e => (sb.2 b hb).trans e) f0 f1 f3 f4 f5
    obtain ⟨o, e, c, d⟩ := id st'
    exact ⟨_, rfl, go_of (s := { s with heap := g, toks := s.toks + 1 }) e c d (by decide) ⟨.str ⟨#[x.cps[i]'hg]⟩, H, I1, ⟨_, rfl⟩, ⟨rfl, _, hx, rfl⟩, st', fun b hb => (hf b hb).1⟩⟩
  done := by
    intro X hP hw hK hc i pins s σ H E I hf st hg
    subst hP hw hK
    obtain ⟨f0, f1, f2, f3, f4, f5⟩ := hf it (List.mem_singleton.mpr rfl)
    exact wpAny_pyNext_ascii_end (I.ok.hd hc) st (Array.getElem?_eq_none hg) fun g eb => ⟨rfl, I.turned (t' := s.toks) (fun b o hb e => eb b o hb e) f0 f1 f3 f4 f5⟩
  self := fun _ _ _ _ _ st q => wpAny_pyIter_striter_ascii st q
section
variable {X : Cx} {tg : Expr} {x : Str} {j : Nat} {cp : Pos}
theorem jok_signs {K : PySem.W.Frag} {G : Hp} : JOk K G (Its x) (signL x) := by
  have el : (signL x).length = x.cps.size := by unfold signL; rw [List.length_map, Array.length_toList]
  refine ⟨fun i G1 H1 s1 s2 hi => by rw [el] at hi; exact hi, fun i G1 H1 v H2 s1 s2 hi y => ?_, fun i G1 H1 s1 s2 hi => by rw [el] at hi; exact hi⟩
  obtain ⟨rfl, c, hc, rfl⟩ := y
  refine ⟨G1, .str ⟨#[c]⟩, Ext.refl s2, ?_, .str _⟩
  unfold signL
  rw [List.getElem?_map, Array.getElem?_toList, hc]; rfl
end
end Dl
namespace Dl
open PySem L2
noncomputable def slT (x : Str) (lo hi : Option Int) : Str := if ((PySem.Builtin.Str.strSliceIndices lo hi 1 x.length).length == x.length) = true then x else ⟨((PySem.Builtin.Str.strSliceIndices lo hi 1 x.length).filterMap (x.cps[·]?)).toArray⟩
noncomputable def dJoin (sep : Str) (te : TEd) : TEd := fun δ Q => te δ fun d δ1 => ∃ l, lstF d = some l ∧ ∃ ts, strsF l = some ts ∧ JoinOk sep ts = true ∧ Q (.str (Txt.join sep ts)) δ1
noncomputable def dJoinR (sep : Str) (te : TEd) : TEd := fun δ Q => te δ fun d δ1 => ∃ l, lstF d = some l ∧ ∃ ts, strsF l = some ts ∧ JoinOk sep ts.reverse = true ∧ Q (.str (Txt.join sep ts.reverse)) δ1
noncomputable def dZf (n : Int) (te : TEd) : TEd := fun δ Q => te δ fun d δ1 => match d with
  | .str x => Q (.str (Txt.zfill x n)) δ1
  | _ => False
noncomputable def dSplit (sep : Str) (te : TEd) : TEd := fun δ Q => te δ fun d δ1 => match d with
  | .str x => x.length ≤ 100000 ∧ Q (.lst ((Txt.split x sep).map D.str)) δ1
  | _ => False
noncomputable def dSw (ta tb : TEd) : TEd := fun δ Q => ta δ fun d δ1 => match d with
  | .str x => tb δ1 fun e δ2 => match e with
    | .str y => Q (.bl (Txt.startswith x y)) δ2
    | _ => False
  | _ => False
noncomputable def rInT : RD := fun d e Q => match d, e with
  | .str x, .str y => Q (.bl (Txt.contains y x))
  | _, _ => False
noncomputable def cLenT : RC := fun ds Q => match ds with
  | [.str x] => x.length ≤ sizeLine ∧ Q (.int x.length)
  | _ => False
noncomputable def cIntT : RC := fun ds Q => match ds with
  | [.str x] => x.length ≤ 640 ∧ ∃ n, intText? x = some n ∧ Q (.int n)
  | _ => False
noncomputable def dSlT (te : TEd) (tl th : TOd) : TEd := fun δ Q => te δ fun d δ1 => tl δ1 fun l δ2 => th δ2 fun u δ3 => match d with
  | .str x => x.length ≤ sizeLine ∧ Q (.str (slT x l u)) δ3
  | _ => False
noncomputable abbrev TJd := Ev → Str → (Str → Ev → Prop) → Prop
noncomputable def jNil : TJd := fun δ acc Q => Q acc δ
noncomputable def jCons (te : TEd) (t : TJd) : TJd := fun δ acc Q => te δ fun d δ1 => match d with
  | .str y => y.length ≤ sizeLine ∧ (acc ++ y).length ≤ sizeLine ∧ t δ1 (acc ++ y) Q
  | _ => False
noncomputable def dFmt (t : TJd) : TEd := fun δ Q => t δ Str.empty fun out δ1 => out.length ≤ sizeLine ∧ Q (.str out) δ1
noncomputable def diText (te : TEd) : TId := fun δ Q => te δ fun d δ1 => match d with
  | .str x => x.cps.all (· < 128) = true ∧ Q (signL x) δ1
  | _ => False
end Dl
namespace Dl
open PySem PySem.Spec PyProof.Rows L2
theorem strs_of : ∀ {ts : List Str} {us : List Value}, Vals (ts.map V.str) us → ∃ l : List (Str × Tok), us = strValues l ∧ l.map (·.1) = ts
  | [], _, .nil => ⟨[], rfl, rfl⟩
  | x :: ts, _, .cons r t => by
    obtain ⟨u, rfl⟩ := r
    obtain ⟨l, rfl, e⟩ := strs_of t
    exact ⟨(x, u) :: l, rfl, by simp [e]⟩
theorem strs_vals : ∀ (l : List (Str × Tok)), Vals ((l.map (·.1)).map V.str) (strValues l)
  | [] => .nil
  | (x, t) :: r => .cons ⟨t, rfl⟩ (strs_vals r)
theorem DenL.strs : ∀ {K : PySem.W.Frag} {G : Hp} {vs : List V} {ts : List Str}, DenL K G vs (ts.map D.str) → vs = ts.map V.str
  | _, _, _, [], .nil => rfl
  | _, _, _, _ :: _, .cons h t => by rw [h.str_inv, DenL.strs t]; rfl
theorem denL_strs {K : PySem.W.Frag} {G : Hp} : ∀ ts : List Str, DenL K G (ts.map V.str) (ts.map D.str)
  | [] => .nil
  | x :: r => .cons (.str x) (denL_strs r)
section
variable {X : Cx}
theorem mt_join : MtR X "str.join" (fun x xs H Q => ∃ sep p ts, x = .str sep ∧ xs = [.ref p] ∧ SqL X.K H p (ts.map V.str) ∧ JoinOk sep ts = true ∧ Q (.str (Txt.join sep ts)) H) := by
  rintro pins s σ H x xs v us Q I rx rs ⟨sep, p, ts, rfl, rfl, hq, ok, q⟩
  obtain ⟨t, rfl⟩ := rx
  obtain ⟨u, rfl, ru⟩ := rs.one
  cases ru
  obtain ⟨its, rv, pl, hz⟩ := I.list hq
  obtain ⟨l, rfl, e⟩ := strs_of rv
  exact SC.join pl.isList e ok fun t' k => ⟨.str _, H, I.tok k, ⟨t', rfl⟩, q⟩
theorem mt_zfill : MtR X "str.zfill" (fun x xs H Q => ∃ y n, x = .str y ∧ xs = [.int n] ∧ PadOk n = true ∧ Q (.str (Txt.zfill y n)) H) := by
  rintro pins s σ H x xs v us Q I rx rs ⟨y, n, rfl, rfl, hp, q⟩
  obtain ⟨t, rfl⟩ := rx
  obtain ⟨u, rfl, t2, rfl⟩ := rs.one
  exact SC.zfill hp fun t' k => ⟨.str _, H, I.tok k, ⟨t', rfl⟩, q⟩
theorem mt_startswith : MtR X "str.startswith" (fun x xs H Q => ∃ y z, x = .str y ∧ xs = [.str z] ∧ Q (.bl (Txt.startswith y z)) H) := by
  rintro pins s σ H x xs v us Q I rx rs ⟨y, z, rfl, rfl, q⟩
  obtain ⟨t, rfl⟩ := rx
  obtain ⟨u, rfl, t2, rfl⟩ := rs.one
  exact SC.startswith ⟨.bl _, H, I, rfl, q⟩
theorem mt_split : MtR X "str.split" (fun x xs H Q => ∃ y z, x = .str y ∧ xs = [.str z] ∧ (z.length == 0) = false ∧ y.length ≤ 100000 ∧ ∀ p, H p = none → Q (.ref p) (upd H p (.lst ((Txt.split y z).map V.str)))) := by
  rintro pins s σ H x xs v us Q I rx rs ⟨y, z, rfl, rfl, hz, hl, q⟩
  obtain ⟨t, rfl⟩ := rx
  obtain ⟨u, rfl, t2, rfl⟩ := rs.one
  have big : (100002 : Nat) ≤ sizeLine := by decide
  have lay : ∀ (l : List (Str × Tok)) (tk : Nat), l.map (·.1) = Txt.split y z → l.length ≤ sizeLine → EP X pins σ Q (.ref s.heap.objs.size) { s with heap := s.heap.push { cls := .type "list", data := .seq (strValues l).toArray }, toks := tk } := fun l tk e hs => by
    have hv : Vals ((Txt.split y z).map V.str) (strValues l) := by rw [← e]; exact strs_vals l
    have hn : ((Txt.split y z).map V.str).length ≤ sizeLine := by rw [← e]; simpa using hs
    exact ⟨.ref _, _, I.lnew (t' := tk) hv hn, rfl, q _ I.fresh⟩
  have sm : y.length ≤ sizeLine := by omega
  cases h1 : (decide (y.length < z.length) || decide (Builtin.Str.strKind y < Builtin.Str.strKind z))
  · cases hf : (Builtin.Str.occurrences y z 0 y.length (y.length + 1)).isEmpty
    · have e1 : Txt.split y z = Builtin.Str.partsBetween y (Builtin.Str.occurrences y z 0 y.length (y.length + 1)) z.length := (if_neg (ne_true_of_eq_false h1)).trans (if_neg (ne_true_of_eq_false hf))
      have pl := PyProof.Rows.split_le y z
      rw [e1] at pl
      refine call_meets F.slot_str_split (typeIs_str _ _ _) F.entry_str_split (F.args_str_split_2 _ _) (meets_str_split_sep y z t t2 h1 hz hf sm (by omega)) ?_
      refine (show wants (EP X pins σ Q) X.xe _ { s with toks := _, heap := s.heap.push { cls := .type "list", data := .seq (strsFrom s.toks (Builtin.Str.partsBetween y (Builtin.Str.occurrences y z 0 y.length (y.length + 1)) z.length)).toArray } } from ?_)
      rw [strsFrom_eq]
      refine lay (numbered s.toks _) _ ((numbered_texts _ _).trans e1.symm) ?_
      have := congrArg List.length (numbered_texts s.toks (Builtin.Str.partsBetween y (Builtin.Str.occurrences y z 0 y.length (y.length + 1)) z.length))
      rw [List.length_map] at this
      omega
    · exact call_meets F.slot_str_split (typeIs_str _ _ _) F.entry_str_split (F.args_str_split_2 _ _) (meets_str_split_not_found y z t t2 h1 hz hf) (lay [(y, t)] s.toks ((if_neg (ne_true_of_eq_false h1)).trans (if_pos hf)).symm (by show 1 ≤ sizeLine; omega))
  · exact call_meets F.slot_str_split (typeIs_str _ _ _) F.entry_str_split (F.args_str_split_2 _ _) (meets_str_split_cannot_occur y z t t2 h1) (lay [(y, t)] s.toks (if_pos h1).symm (by show 1 ≤ sizeLine; omega))
end
end Dl
namespace Dl
open PySem PySem.Spec PyProof.Rows L2
section
variable {X : Cx} {a b e c : Expr} {es : List Expr} {ta tb te : TEd} {t : TAd} {p pos ap cp sp : Pos} {j : Nat} {x sep : Str} {n : Int}
theorem de_gstr {x y : Str} {t : Tok} {pos : Pos} (hm : X.mg x = some (.str y t)) (hg : Gl X x := by rfl) (hd : (x == ("__debug__" : Str)) = false := by decide) : DE X (.Name x pos) (dC (.str y)) :=
  dc_of (v := .str y) (pe_glob hg hm ⟨t, rfl⟩ hd) fun _ => .str y
theorem de_join (he : DE X e te) (hbase : attributeBase (.Constant (.str sep) j sp) "join" X.env (eval (.Constant (.str sep) j sp) X.env) = eval (.Constant (.str sep) j sp) X.env := by rfl)
    (hfew : ((backTo cp (starEach [e] X.env)).all (fun x => !x.1) && (backToKw cp (keywordEach [] X.env)).all (fun x => x.1.isSome)
      && decide ([e].length + ([] : List Keyword).length + (if ([] : List Keyword).isEmpty then 0 else 1) < 30)) = true := by rfl)
    (hline : (ap.endLine == cp.line) = true := by rfl) (hst : starEach [e] X.env = (false, eval e X.env) :: starEach [] X.env := by rfl) (hplain : (backTo cp (starEach [] X.env)).any (·.1) = false := by rfl) :
    DE X (.Call (.Attribute (.Constant (.str sep) j sp) "join" ap) [e] [] cp) (dJoin sep te) :=
  pe_imp (pe_bm PySem.F.plainAttrs_str PySem.F.slot_str_join PySem.F.type_str_join mt_join pe_str (pa_cons he pa_nil hst) hbase hfew hline hst hplain) fun σ H Q2 hx => hx.el fun n δ G Q R h k =>
    ⟨rfl, n, δ, G, _, R, h, fun v G1 H1 d δ1 R1 s1 d1 ⟨l, el, ts, et, ok, q⟩ => by
      cases d with
      | lst m =>
        cases el
        obtain ⟨r, vs, rfl, hs, hl⟩ := d1.lst_inv
        rw [strsF_some et] at hl
        cases DenL.strs hl
        exact ⟨sep, r, ts, rfl, rfl, R1.sub.seq hs, ok, k _ G1 H1 _ δ1 R1 s1 (.str _) q⟩
      | _ => cases el⟩
theorem de_zf {cj : Nat} {np : Pos} (he : DE X a ta) (hp : PadOk n = true := by decide +kernel) (hbase : attributeBase a "zfill" X.env (eval a X.env) = eval a X.env := by rfl)
    (hfew : ((backTo cp (starEach [.Constant (.int n) cj np] X.env)).all (fun x => !x.1) && (backToKw cp (keywordEach [] X.env)).all (fun x => x.1.isSome)
      && decide ([Expr.Constant (.int n) cj np].length + ([] : List Keyword).length + (if ([] : List Keyword).isEmpty then 0 else 1) < 30)) = true := by rfl)
    (hline : (ap.endLine == cp.line) = true := by rfl) (hst : starEach [.Constant (.int n) cj np] X.env = (false, eval (.Constant (.int n) cj np) X.env) :: starEach [] X.env := by rfl) (hplain : (backTo cp (starEach [] X.env)).any (·.1) = false := by rfl) :
    DE X (.Call (.Attribute a "zfill" ap) [.Constant (.int n) cj np] [] cp) (dZf n ta) :=
  pe_imp (pe_bm PySem.F.plainAttrs_str PySem.F.slot_str_zfill PySem.F.type_str_zfill mt_zfill he (pa_cons pe_int pa_nil hst) hbase hfew hline hst hplain) fun σ H Q2 ⟨m, δ, G, Q, R, h, k⟩ =>
    ⟨m, δ, G, _, R, h, fun v G1 H1 d δ1 R1 s1 d1 h1 => by
      cases d with
      | str y => cases d1.str_inv; exact ⟨rfl, y, n, rfl, rfl, hp, k _ G1 H1 _ δ1 R1 s1 (.str _) h1⟩
      | _ => exact h1.elim⟩
theorem de_split {cj : Nat} {np : Pos} (he : DE X a ta) (hz : (sep.length == 0) = false := by decide +kernel) (hbase : attributeBase a "split" X.env (eval a X.env) = eval a X.env := by rfl)
    (hfew : ((backTo cp (starEach [.Constant (.str sep) cj np] X.env)).all (fun x => !x.1) && (backToKw cp (keywordEach [] X.env)).all (fun x => x.1.isSome)
      && decide ([Expr.Constant (.str sep) cj np].length + ([] : List Keyword).length + (if ([] : List Keyword).isEmpty then 0 else 1) < 30)) = true := by rfl)
    (hline : (ap.endLine == cp.line) = true := by rfl) (hst : starEach [.Constant (.str sep) cj np] X.env = (false, eval (.Constant (.str sep) cj np) X.env) :: starEach [] X.env := by rfl) (hplain : (backTo cp (starEach [] X.env)).any (·.1) = false := by rfl) :
    DE X (.Call (.Attribute a "split" ap) [.Constant (.str sep) cj np] [] cp) (dSplit sep ta) :=
  pe_imp (pe_bm PySem.F.plainAttrs_str PySem.F.slot_str_split PySem.F.type_str_split mt_split he (pa_cons pe_str pa_nil hst) hbase hfew hline hst hplain) fun σ H Q2 ⟨m, δ, G, Q, R, h, k⟩ =>
    ⟨m, δ, G, _, R, h, fun v G1 H1 d δ1 R1 s1 d1 h1 => by
      cases d with
      | str y =>
        cases d1.str_inv
        refine ⟨rfl, y, sep, rfl, rfl, hz, h1.1, fun p hp => ?_⟩
        exact k _ _ _ _ δ1 (R1.laid hp _) (s1.trans (same_upd (R1.sub.free hp) _)) (.lst (SqL.of upd_same) (denL_strs _)) h1.2
      | _ => exact h1.elim⟩
theorem de_sw (he : DE X a ta) (hb : DE X b tb) (hbase : attributeBase a "startswith" X.env (eval a X.env) = eval a X.env := by rfl)
    (hfew : ((backTo cp (starEach [b] X.env)).all (fun x => !x.1) && (backToKw cp (keywordEach [] X.env)).all (fun x => x.1.isSome)
      && decide ([b].length + ([] : List Keyword).length + (if ([] : List Keyword).isEmpty then 0 else 1) < 30)) = true := by rfl)
    (hline : (ap.endLine == cp.line) = true := by rfl) (hst : starEach [b] X.env = (false, eval b X.env) :: starEach [] X.env := by rfl) (hplain : (backTo cp (starEach [] X.env)).any (·.1) = false := by rfl) :
    DE X (.Call (.Attribute a "startswith" ap) [b] [] cp) (dSw ta tb) :=
  pe_imp (pe_bm PySem.F.plainAttrs_str PySem.F.slot_str_startswith PySem.F.type_str_startswith mt_startswith he (pa_cons hb pa_nil hst) hbase hfew hline hst hplain) fun σ H Q2 ⟨m, δ, G, Q, R, h, k⟩ =>
    ⟨m, δ, G, _, R, h, fun v G1 H1 d δ1 R1 s1 d1 h1 => by
      cases d with
      | str y =>
        cases d1.str_inv
        refine ⟨rfl, m, δ1, G1, _, R1, h1, fun w G2 H2 f δ2 R2 s2 d2 h2 => ?_⟩
        cases f with
        | str z => cases d2.str_inv; exact ⟨y, z, rfl, rfl, k _ G2 H2 _ δ2 R2 (s1.trans s2) (.bl _) h2⟩
        | _ => exact h2.elim
      | _ => exact h1.elim⟩
theorem op_inT : OpR X (compareOp .In) (fun v u H Q => ∃ y z, v = .str y ∧ u = .str z ∧ Q (.bl (Txt.contains z y)) H) := by
  rintro pins s σ H x y v u Q I rx ry ⟨a, b, rfl, rfl, q⟩
  obtain ⟨t, rfl⟩ := rx
  obtain ⟨t2, rfl⟩ := ry
  exact SB.contains ⟨.bl _, H, I, rfl, q⟩
theorem de_inT (ha : DE X a ta) (hb : DE X b tb) (hm : behindInMarks .In b = false := by first | exact nomark _ | rfl) : DE X (.Compare a [.In] [b] pos) (dOp rInT ta tb) :=
  de_cmp op_inT (fun G H v u dv du Q Q2 s hv hu h k => by
    unfold rInT at h
    split at h
    · cases hv.str_inv; cases hu.str_inv; exact ⟨_, _, rfl, rfl, k _ G H _ (Ext.refl s) (.bl _) h⟩
    · exact h.elim) ha hb hm
theorem call_intT : CallR X (.type "int") (fun xs H Q => ∃ y n, xs = [.str y] ∧ y.length ≤ 640 ∧ intText? y = some n ∧ Q (.int n) H) := by
  rintro pins s σ H xs us Q I r ⟨y, n, rfl, hl, hn, q⟩
  obtain ⟨u, rfl, t, rfl⟩ := r.one
  exact PySem.W.KIN.call_text hn hl ⟨.int _, H, I.tok _, ⟨_, rfl⟩, q⟩
theorem de_intT (hm : X.mg "int" = none) (ha : DA X (e :: es) t) (hg : Gl X "int" := by rfl) (he : starEach (e :: es) X.env = (false, eval e X.env) :: starEach es X.env := by rfl) (hpl : (backTo pos (starEach es X.env)).any (·.1) = false := by rfl) : DE X (.Call (.Name "int" p) (e :: es) [] pos) (dCall cIntT t) :=
  de_callTy call_intT (fun G H xs ds Q Q2 s hd h k => by
    unfold cIntT at h
    split at h
    · obtain ⟨v, rfl, d1⟩ := denl1 hd
      cases d1.str_inv
      obtain ⟨h1, n, h2, h3⟩ := h
      exact ⟨_, n, rfl, h1, h2, k _ G H _ (Ext.refl s) (.int _) h3⟩
    · exact h.elim) hm (by rfl) ha hg (by decide) (by decide) he hpl
theorem de_lenT (hm : X.mg "len" = none) (ha : DA X (e :: es) t) (hg : Gl X "len" := by rfl) (he : starEach (e :: es) X.env = (false, eval e X.env) :: starEach es X.env := by rfl) (hpl : (backTo pos (starEach es X.env)).any (·.1) = false := by rfl) : DE X (.Call (.Name "len" p) (e :: es) [] pos) (dCall cLenT t) :=
  de_callB call_len_str (fun G H xs ds Q Q2 s hd h k => by
    unfold cLenT at h
    split at h
    · obtain ⟨v, rfl, d1⟩ := denl1 hd
      cases d1.str_inv
      exact ⟨_, rfl, h.1, k _ G H _ (Ext.refl s) (.int _) h.2⟩
    · exact h.elim) hm PySem.boot_len ha hg (by decide) (by decide) he hpl
theorem sl_str : SlR X (fun x lo hi H Q => ∃ y, x = .str y ∧ y.length ≤ sizeLine ∧ Q (.str (slT y lo hi)) H) := by
  intro pins s σ H x v vl vu lo hi sl Q I rx hs pl pu ⟨y, e, hz, q⟩
  subst e
  obtain ⟨t, rfl⟩ := rx
  have part : ∀ {w : Value} {o : Option Int}, IsPart w o → ∃ l : Option (Int × Tok), w = partValue l ∧ o = l.map (·.1) := fun {w o} p => by
    cases p with
    | none => exact ⟨none, rfl, rfl⟩
    | int i t => exact ⟨some (i, t), rfl, rfl⟩
  obtain ⟨l, rfl, rfl⟩ := part pl
  obtain ⟨u, rfl, rfl⟩ := part pu
  refine ⟨"str", _, PySem.F.slot_str_getitem.lookup, typeIs_str _ _ _, wpAny_getItem_str_slice (l := l) (u := u) (st := none) hs rfl ?_⟩
  unfold slT at q
  refine (show (if ((Builtin.Str.strSliceIndices (l.map (·.1)) (u.map (·.1)) 1 y.length).length == y.length) = true then Made.val (.str y t) else .str ⟨((Builtin.Str.strSliceIndices (l.map (·.1)) (u.map (·.1)) 1 y.length).filterMap (y.cps[·]?)).toArray⟩).post _ s from ?_)
  refine post_val_or_made (fun _ => ?_) fun t' k => ⟨.str _, H, I.tok k, ⟨t', rfl⟩, q⟩
  have h1 := sliceIndices_le (l.map (·.1)) (u.map (·.1)) y.length
  have h2 := List.length_filterMap_le (y.cps[·]?) (Builtin.Str.strSliceIndices (l.map (·.1)) (u.map (·.1)) 1 y.length)
  refine (show (List.filterMap _ _).toArray.size ≤ sizeLine from ?_)
  rw [List.size_toArray]; omega
theorem de_slT {lo hi : Option Expr} {tl th : TOd} {p2 : Pos} (he : DE X a ta) (hl : DO X lo tl) (hu : DO X hi th) : DE X (.Subscript a (.Slice lo hi none p2) pos) (dSlT ta tl th) :=
  pe_imp (pe_slice sl_str he hl hu) fun σ H Q2 hx => hx.el fun n δ G Q R h k => ⟨n, δ, G, _, R, h, fun v G1 H1 d δ1 R1 s1 d1 h1 => ⟨n, δ1, G1, _, R1, h1, fun l G2 H2 δ2 R2 s2 h2 => ⟨n, δ2, G2, _, R2, h2, fun u G3 H3 δ3 R3 s3 h3 => by
    cases d with
    | str y => cases d1.str_inv; exact ⟨y, rfl, h3.1, k _ G3 H3 _ δ3 R3 ((s1.trans s2).trans s3) (.str _) h3.2⟩
    | _ => exact h3.elim⟩⟩⟩
noncomputable abbrev TJ := L2.St → Hp → Str → (Str → Hp → Prop) → Prop
noncomputable def PJ (X : Cx) (es : List Expr) (t : TJ) : Prop := ∀ (pins : List (Addr × Obj)) (s : Shared) (σ : L2.St) (H : Hp) (acc : Str) (Q : Str → Hp → Prop), Inv X pins σ H s → t σ H acc Q →
  Joins (model X.prog X.w) X.A X.xe (evalEach es X.env) acc (fun out s' => ∃ H', Inv X pins σ H' s' ∧ Q out H') s
noncomputable def lJ (K : PySem.W.Frag) (t : TJd) : TJ := fun σ H acc Q2 => ∃ (n : En) (δ : Ev) (G : Hp) (Q : Str → Ev → Prop), Rel K n δ σ G H ∧ t δ acc Q ∧ ∀ (out : Str) (G' H' : Hp) (δ' : Ev), Rel K n δ' σ G' H' → Same G G' → Q out δ' → Q2 out H'
theorem lJ.el {K : PySem.W.Frag} {t : TJd} {σ H acc Q2} {P : Prop} (x : lJ K t σ H acc Q2) (k : ∀ (n : En) (δ : Ev) (G : Hp) (Q : Str → Ev → Prop), (Rel K n δ σ G H) → (t δ acc Q) → (∀ (out : Str) (G' H' : Hp) (δ' : Ev), Rel K n δ' σ G' H' → Same G G' → Q out δ' → Q2 out H') → P) : P := by
  obtain ⟨n, δ, G, Q, h0, h1, h2⟩ := x
  exact k n δ G Q h0 h1 h2
noncomputable abbrev DJ (X : Cx) (es : List Expr) (t : TJd) : Prop := PJ X es (lJ X.K t)
theorem dj_nil : DJ X [] jNil := fun pins s σ H acc Q I ⟨n, δ, G, Q', R, h, k⟩ => Joins_nil ⟨H, I, k acc G H δ R (Same.refl _) h⟩
theorem dj_cons {tj : TJd} (he : DE X e te) (hr : DJ X es tj) : DJ X (e :: es) (jCons te tj) := fun pins s σ H acc Q I ⟨n, δ, G, Q', R, h, k⟩ =>
  Joins_cons (wpAny_mono (he pins s σ H (fun v H1 => ∃ y, v = .str y ∧ (acc ++ y).length ≤ sizeLine ∧ lJ X.K tj σ H1 (acc ++ y) Q) I ⟨n, δ, G, _, R, h, fun v G1 H1 d δ1 R1 s1 d1 h1 => by
    cases d with
    | str y => exact ⟨y, d1.str_inv, h1.2.1, n, δ1, G1, _, R1, h1.2.2, fun out G' H' δ' R' s' q => k out G' H' δ' R' (s1.trans s') q⟩
    | _ => exact h1.elim⟩) (fun u s1 ⟨v, H1, I1, rv, y, ev, hz, q⟩ => by
      subst ev
      obtain ⟨t, rfl⟩ := rv
      exact ⟨y, t, rfl, hz, hr pins s1 σ H1 _ _ I1 q⟩) fun _ _ z => z)
theorem dj_fmt {tj : TJd} (he : DE X e te) (hr : DJ X es tj) : DJ X (.FormattedValue e (-1) none p :: es) (jCons te tj) := fun pins s σ H acc Q I ⟨n, δ, G, Q', R, h, k⟩ =>
  Joins_cons (wpAny_FormattedValue_plain (wpAny_mono (he pins s σ H (fun v H1 => ∃ y, v = .str y ∧ y.length ≤ sizeLine ∧ (acc ++ y).length ≤ sizeLine ∧ lJ X.K tj σ H1 (acc ++ y) Q) I ⟨n, δ, G, _, R, h, fun v G1 H1 d δ1 R1 s1 d1 h1 => by
    cases d with
    | str y => exact ⟨y, d1.str_inv, h1.1, h1.2.1, n, δ1, G1, _, R1, h1.2.2, fun out G' H' δ' R' s' q => k out G' H' δ' R' (s1.trans s') q⟩
    | _ => exact h1.elim⟩) (fun u s1 ⟨v, H1, I1, rv, y, ev, hy, hz, q⟩ => by
      subst ev
      obtain ⟨t, rfl⟩ := rv
      exact SB.field_str (fun t' k' => ⟨y, t', rfl, hz, hr pins _ σ H1 _ _ (I1.tok k') q⟩) hy) fun _ _ z => z))
theorem Joins_mono {M : Model} {A : Around} {E : Value → Shared → Prop} {Q Q' : Str → Shared → Prop} (hq : ∀ out s, Q out s → Q' out s) : ∀ {parts : List (Sem Value)} {acc : Str} {s : Shared}, Joins M A E parts acc Q s → Joins M A E parts acc Q' s
  | [], _, _, h => hq _ _ h
  | _ :: _, _, _, h => wpAny_mono h (fun v s1 ⟨y, t, ev, hz, r⟩ => ⟨y, t, ev, hz, Joins_mono hq r⟩) fun _ _ z => z
theorem de_fmt {e1 e2 : Expr} {tj : TJd} (h : DJ X (e1 :: e2 :: es) tj) : DE X (.JoinedStr (e1 :: e2 :: es) pos) (dFmt tj) := fun pins s σ H Q2 I ⟨n, δ, G, Q, R, ht, k⟩ => by
  refine wpAny_JoinedStr ?_
  have z := h pins s σ H Str.empty (fun out H' => out.length ≤ sizeLine ∧ Q2 (.str out) H') I ⟨n, δ, G, _, R, ht, fun out G' H' δ' R' s' q => ⟨q.1, k _ G' H' _ δ' R' s' (.str _) q.2⟩⟩
  exact Joins_mono (fun out s' ⟨H', I', hz, q⟩ => ⟨hz, .str out, H', I'.tok _, ⟨_, rfl⟩, q⟩) z
theorem pi_text {t : TE} {tg : Expr} (he : PE X e t) : PI X tg e (fun σ H R => t σ H fun v H1 => ∃ y, v = .str y ∧ y.cps.all (· < 128) = true ∧ R (Its y) H1) := by
  intro pins s σ H R I h
  refine thn (he pins s σ H _ I h) fun u s1 ⟨v, H1, I1, rv, y, ev, ha, q⟩ => ?_
  subst ev
  obtain ⟨t, rfl⟩ := rv
  refine wpAny_pyIter_ascii ha ?_
  have I2 := I1.tok s1.toks
  refine ⟨_, [_], _, _, H1, rfl, I2.kept (t' := s1.toks) fun b o e => Heap.get?_push_of_some _ e, turn_signs _, ⟨_, Heap.get?_push_size _ rfl, rfl, rfl⟩, fun b hb => ?_, q⟩
  rw [List.mem_singleton.mp hb]
  exact I2.fpOk (Nat.le_refl _) (I2.hok.fresh (Nat.le_refl _))
theorem di_text {tg : Expr} (he : DE X e te) : DI X tg e (diText te) :=
  pi_imp (pi_text he) fun σ H R2 hx => hx.el fun n δ G Q R h k => ⟨n, δ, G, _, R, h, fun v G1 H1 d δ1 R1 s1 d1 h1 => by
    cases d with
    | str y => exact ⟨y, d1.str_inv, h1.1, k _ G1 H1 _ δ1 R1 s1 jok_signs h1.2⟩
    | _ => exact h1.elim⟩
theorem de_joinR {rn : Str} {rp rcp : Pos} (hc : X.calm = true) (hmr : X.mg "reversed" = none) (he : DE X e te)
    (hbase : attributeBase (.Constant (.str sep) j sp) "join" X.env (eval (.Constant (.str sep) j sp) X.env) = eval (.Constant (.str sep) j sp) X.env := by rfl)
    (hfew : ((backTo cp (starEach [.Call (.Name "reversed" rp) [e] [] rcp] X.env)).all (fun x => !x.1) && (backToKw cp (keywordEach [] X.env)).all (fun x => x.1.isSome)
      && decide ([Expr.Call (.Name "reversed" rp) [e] [] rcp].length + ([] : List Keyword).length + (if ([] : List Keyword).isEmpty then 0 else 1) < 30)) = true := by rfl)
    (hline : (ap.endLine == cp.line) = true := by rfl) (hst : starEach [.Call (.Name "reversed" rp) [e] [] rcp] X.env = (false, eval (.Call (.Name "reversed" rp) [e] [] rcp) X.env) :: starEach [] X.env := by rfl) (hplain : (backTo cp (starEach [] X.env)).any (·.1) = false := by rfl)
    (hgr : Gl X "reversed" := by rfl) (hst2 : starEach [e] X.env = (false, eval e X.env) :: starEach [] X.env := by rfl) (hpl2 : (backTo rcp (starEach [] X.env)).any (·.1) = false := by rfl) :
    DE X (.Call (.Attribute (.Constant (.str sep) j sp) "join" ap) [.Call (.Name "reversed" rp) [e] [] rcp] [] cp) (dJoinR sep te) := by
  rintro pins s σ H Q2 I ⟨n, δ, G, Q, R, h, k⟩
  refine wpAny_Call_method_late hbase hfew hline rfl (thn ((pe_str (X := X) (x := sep) (j := j) (pos := sp)) pins s σ H (fun v H1 => v = .str sep ∧ H1 = H) I ⟨rfl, rfl⟩) fun v s1 ⟨x, H1, I1, r1, e1, e2⟩ => ?_)
  subst e1 e2
  obtain ⟨t, rfl⟩ := r1
  refine ⟨"str", _, PySem.F.plainAttrs_str, PySem.F.slot_str_join, PySem.F.type_str_join, typeIs_str _ _ _, (fun _ e => nomatch e), ?_⟩
  rw [hst]
  refine Calls.callWith_builtin (by show (false || (backTo cp (starEach [] X.env)).any (·.1)) = false; rw [hplain] <;> rfl) (Calls.evalArgs_plain ?_)
  refine (show wpAny _ _ (spliced ((false, eval (.Call (.Name "reversed" rp) [e] [] rcp) X.env) :: backTo cp (starEach [] X.env))) _ _ s1 from Calls.spliced_cons ?_)
  refine wpAny_Call_Name_kw (ld_blt I1 hgr hmr PyProof.Rows.boot_reversed ?_ (by decide) (by decide))
  refine PyProof.Rows.callWith_type1 (thn ((pa_cons he pa_nil hst2) rcp pins s1 σ H1 (fun vs H2 => ∃ (p : Addr) (l : List V) (ts : List Str), vs = [.ref p] ∧ l = (ts.map V.str) ∧ SqL X.K H2 p l ∧ JoinOk sep ts.reverse = true ∧ Q2 (.str (Txt.join sep ts.reverse)) H2) I1 ⟨n, δ, G, _, R, h, fun v G2 H2 d δ2 R2 s2 d2 ⟨l, el, ts, et, ok, q⟩ => ?_⟩) fun us s2 ⟨vs, H2, I2, r2, p, l, ts, ev, el, hq, ok, q⟩ => ?_) hst2 hpl2
  · cases d with
    | lst m =>
      cases el
      obtain ⟨r, vs, rfl, hs, hl⟩ := d2.lst_inv
      rw [strsF_some et] at hl
      cases DenL.strs hl
      exact ⟨r, _, ts, rfl, rfl, R2.sub.seq hs, ok, k _ G2 H2 _ δ2 R2 s2 (.str _) q⟩
    | _ => cases el
  · subst ev el
    obtain ⟨u, rfl, ru⟩ := r2.one
    cases ru
    obtain ⟨its, rv, pl, hz⟩ := I2.list hq
    obtain ⟨l, rfl, em⟩ := strs_of rv
    have el : l.length = ts.length := by rw [← em, List.length_map]
    refine call_reversed_list pl.isList (Calls.spliced_nil ?_)
    refine HT.joinRev (I2.ok.hd hc) pl.isList (by rw [el]; simpa using hz) (by rw [em]; exact ok) fun t' h' tk hk => ?_
    rw [em]
    exact ⟨.str _, H2, I2.kept (t' := tk) hk, ⟨t', rfl⟩, q⟩
end
end Dl
namespace Dl
open PySem PySem.Spec PyProof.Rows L2
structure OutE (P : Program) (w : World) (outer : List Env) (H : Hp) (s : Shared) (ea : Addr) (C : Addr) (B : Heap) (H' : Hp) (s' : Shared) : Prop where
  os : s'.os = s.os
  bare : AllBare s'.gens
  un : Un (frs outer) [] H H' s.heap s'.heap
  fly : ∃ t, Heap.FlyingW B outer ea (.ref C) (.ref t) s'.heap
  hok : HOk P w H' B
  keep : ∀ b o, s.heap.get? b = some o → H b = none → b ∉ frs outer → B.get? b = some o
  th : ∀ b o, s.heap.get? b = some o → b ∉ frs outer → ∃ o', B.get? b = some o'
noncomputable def CXE (P : Program) (w : World) : CXT := fun outer H s E e s' => ∃ (ea C : Addr) (B : Heap) (H' : Hp), e = .ref ea ∧ OutE P w outer H s ea C B H' s' ∧ E (.ref C) none H'
noncomputable abbrev noFr (X : Cx) (h : Heap) : Heap := PySem.W.hideAll h (frs X.stack)
section
variable {X : Cx} {pins : List (Addr × Obj)} {σ : L2.St} {H H' : Hp} {s s' : Shared} {ea C : Addr} {vs : List Value} {B h' : Heap}
theorem in_noFr (I : Inv X pins σ H s) {b : Addr} {o : Obj} (e : s.heap.get? b = some o) (n : b ∉ frs X.stack) : (noFr X s.heap).get? b = some o := PySem.W.hideAll_get _ e n
theorem hok_noFr (I : Inv X pins σ H s) : HOk X.prog X.w H (noFr X s.heap) := fun a o e => by
  refine (I.hok a o e).stay (fun b u hb q => in_noFr I q fun z => ?_) (fun _ q => q) fun _ _ q => q
  have hn := I.stkFree b z
  rcases hb with rfl | hb
  · rw [hn] at e; cases e
  · rw [hn] at hb; cases hb
theorem frs_cons {env : Env} {l : List Env} {b : Addr} (h : b ∈ frs (env :: l)) : env.frame = some b ∨ b ∈ frs l := by
  obtain ⟨e, he, hf⟩ := List.mem_filterMap.mp h
  rcases (List.mem_cons.mp he) with rfl | he
  · exact .inl hf
  · exact .inr (List.mem_filterMap.mpr ⟨e, he, hf⟩)
theorem frs_tail {env : Env} {l : List Env} {b : Addr} (h : b ∈ frs l) : b ∈ frs (env :: l) := by
  obtain ⟨e, he, hf⟩ := List.mem_filterMap.mp h
  exact List.mem_filterMap.mpr ⟨e, List.mem_cons_of_mem _ he, hf⟩
theorem ne_stack (I : Inv X pins σ H s) (hst : X.stack = X.env :: X.outer) (hfr : X.env.frame = some X.env.locals) {b : Addr} {o : Obj} (e : X.s₀.heap.get? b = some o) (nb : b ∉ frs X.outer) : b ∉ frs X.stack := fun z => by
  rw [hst] at z
  rcases frs_cons z with z | z
  · rw [hfr] at z; cases z
    exact absurd (Heap.lt_size e) (Nat.not_lt.mpr I.ok.above)
  · exact nb z
theorem un_out {h2 : Heap} (I : Inv X pins σ H s) (hst : X.stack = X.env :: X.outer) (hex : X.ex = []) (hfr : X.env.frame = some X.env.locals) (u : Un (frs X.stack) [] H H' s.heap h2) : Un (frs X.outer) [] X.H₀ H' X.s₀.heap h2 := by
  have b0 : Un (frs X.outer) [] X.H₀ H X.s₀.heap s.heap := by have z := I.base; rw [hex] at z; exact z
  have ne : ∀ b o, X.s₀.heap.get? b = some o → b ∉ frs X.outer → b ∉ frs X.stack := fun b o e nb z => by
    rw [hst] at z
    rcases frs_cons z with z | z
    · rw [hfr] at z; cases z
      exact absurd (Heap.lt_size e) (Nat.not_lt.mpr I.ok.above)
    · exact nb z
  refine ⟨fun b o e n nb nx => u.keep b o (b0.keep b o e n nb nx) (b0.free b o e n nx) (ne b o e nb) nx, fun b o e n hb nx => ?_, fun b o e n nx => ?_, fun b o e nx => ?_, fun b xs q => u.tups b xs (b0.tups b xs q), fun b o v q => u.frzs b o v (b0.frzs b o v q), fun b ps q => ?_⟩
  · obtain ⟨sl, e1⟩ := b0.slot b o e n hb nx
    obtain ⟨sl', e2⟩ := u.slot b _ e1 (b0.free b o e n nx) (by rw [hst]; exact frs_tail hb) nx
    exact ⟨sl', e2⟩
  · obtain ⟨o', e1⟩ := b0.there b o e nx
    exact u.free b o' e1 (b0.free b o e n nx) nx
  · obtain ⟨o', e1⟩ := b0.there b o e nx
    exact u.there b o' e1 nx
  · obtain ⟨m1, e1⟩ := b0.tbls b ps q
    obtain ⟨m2, e2⟩ := u.tbls b _ e1
    exact ⟨m1 ++ m2, by rw [e2, Array.append_assoc]⟩
theorem leave_first (I : Inv X pins σ H s) (hst : X.stack = X.env :: X.outer) (hfr : X.env.frame = some X.env.locals) (hex : X.ex = []) (hx : Heap.MadeExcOf s.heap h' ea (.ref C) vs) {Q : Unit → Shared → Prop} {E : Value → Shared → Prop}
    (hQ : ∀ s'', OutE X.prog X.w X.outer X.H₀ X.s₀ ea C (noFr X s.heap) H s'' → Q () s'') : wpAny (model X.prog X.w) X.A (leaving X.env (.ref ea)) Q E { s with heap := h' } := by
  have hin : ∀ env ∈ X.stack, ∀ b, env.frame = some b → b ∈ frs X.stack := fun env he b hb => List.mem_filterMap.mpr ⟨env, he, hb⟩
  have kb : (noFr X s.heap).StaysIn s.heap := fun b o q => PySem.W.of_hideAll _ q
  have ff : s.heap.FunFrames (noFr X s.heap) (X.env :: X.outer) := by
    have z : s.heap.FunFrames (noFr X s.heap) X.stack := PySem.W.funFrames_hide I.stack hin
    rw [← hst]; exact z
  refine wpAny_leaves_madeW (base := noFr X s.heap) (by rw [I.ok.frames, hst]) hfr kb ff hx fun h'' t x1 x2 x3 x4 => hQ _ ⟨I.os, I.bare, ?_, ⟨t, x1⟩, hok_noFr I, fun b o e n nb => ?_, fun b o e nb => ?_⟩
  · have up : ∀ b o, s.heap.get? b = some o → b ∉ frs X.stack → h''.get? b = some o := fun b o e n => x1.1 b o (in_noFr I e n)
    have u2 : Un (frs X.stack) [] H H s.heap h'' := by
      have sl : ∀ b o, s.heap.get? b = some o → b ∈ frs X.stack → ∃ z, h''.get? b = some { o with slots := z } := fun b o e hb => by
        obtain ⟨_, o', ho', nf⟩ := I.stack.mem hb
        rw [e] at ho'; cases ho'
        exact x4 b o (hx.keeps b o e) nf
      refine ⟨fun b o e _ nb _ => up b o e nb, fun b o e _ hb _ => sl b o e hb, fun _ _ _ n _ => n, fun b o e _ => ?_, fun _ _ q => q, fun _ _ _ q => q, fun _ ps q => ⟨#[], by rw [q]; simp⟩⟩
      by_cases hb : b ∈ frs X.stack
      · obtain ⟨z, hz⟩ := sl b o e hb; exact ⟨_, hz⟩
      · exact ⟨o, up b o e hb⟩
    exact un_out I hst hex hfr u2
  · have e1 := I.base.keep b o e n nb (by rw [hex]; simp)
    refine in_noFr I e1 ?_
    exact ne_stack I hst hfr e nb
  · obtain ⟨o', e1⟩ := I.base.there b o e (by rw [hex]; simp)
    exact ⟨o', in_noFr I e1 (ne_stack I hst hfr e nb)⟩
theorem leave_next (I : Inv X pins σ H s) (hst : X.stack = X.env :: X.outer) (hfr : X.env.frame = some X.env.locals) (hex : X.ex = []) (O : OutE X.prog X.w X.stack H s ea C B H' s') {Q : Unit → Shared → Prop} {E : Value → Shared → Prop}
    (hQ : ∀ s'', OutE X.prog X.w X.outer X.H₀ X.s₀ ea C B H' s'' → Q () s'') : wpAny (model X.prog X.w) X.A (leaving X.env (.ref ea)) Q E s' := by
  obtain ⟨t, fly⟩ := O.fly
  rw [hst] at fly
  refine wpAny_leaves_onW (by rw [I.ok.frames, hst]) hfr fly fun h'' x1 x2 => hQ _ ⟨O.os.trans I.os, O.bare, un_out I hst hex hfr ?_, ⟨t, x1⟩, O.hok, fun b o e n nb => ?_, fun b o e nb => ?_⟩
  · have sl : ∀ b o, s.heap.get? b = some o → H b = none → b ∈ frs X.stack → ∃ z, h''.get? b = some { o with slots := z } := fun b o e n hb => by
      obtain ⟨z, hz⟩ := O.un.slot b o e n hb (by simp)
      obtain ⟨_, o', ho', nf⟩ := I.stack.mem hb
      rw [e] at ho'; cases ho'
      obtain ⟨z', hz'⟩ := x2 b _ hz nf
      exact ⟨z', hz'⟩
    refine ⟨fun b o e n nb _ => x1.1 b o (O.keep b o e n nb), fun b o e n hb _ => sl b o e n hb, O.un.free, fun b o e nx => ?_, O.un.tups, O.un.frzs, O.un.tbls⟩
    by_cases hb : b ∈ frs X.stack
    · obtain ⟨z, hz⟩ := sl b o e (I.stkFree b hb) hb; exact ⟨_, hz⟩
    · cases q : H b with
      | none => exact ⟨o, x1.1 b o (O.keep b o e q hb)⟩
      | some u => obtain ⟨o', ho'⟩ := O.th b o e hb; exact ⟨o', x1.1 b o' ho'⟩
  · have e1 := I.base.keep b o e n nb (by rw [hex]; simp)
    refine O.keep b o e1 (I.base.free b o e n (by rw [hex]; simp)) ?_
    exact ne_stack I hst hfr e nb
  · obtain ⟨o', e1⟩ := I.base.there b o e (by rw [hex]; simp)
    exact O.th b o' e1 (ne_stack I hst hfr e nb)
end
end Dl
namespace Dl
open PySem PySem.Spec PyProof.Rows L2
structure WishM (X : Cx) (n : En) (C : Addr) (P : Ev → Prop) : Prop where
  made : ∀ (pins : List (Addr × Obj)) (σ : L2.St) (H : Hp) (s : Shared) (h' : Heap) (ea : Addr) (vs : List Value), Inv X pins σ H s → (∃ δ G, Rel X.K n δ σ G H ∧ P δ) → Heap.MadeExcOf s.heap h' ea (.ref C) vs → X.xe (.ref ea) { s with heap := h' }
structure Wish (X : Cx) (n : En) (C : Addr) (P : Ev → Prop) : Prop where
  pass : ∀ (pins : List (Addr × Obj)) (σ : L2.St) (H : Hp) (s : Shared) (ea : Addr) (B : Heap) (H' : Hp) (s' : Shared), Inv X pins σ H s → OutE X.prog X.w X.stack H s ea C B H' s' → (∃ δ' σ' G', Rel X.K n δ' σ' G' H' ∧ P δ') → X.xe (.ref ea) s'
noncomputable def lR (K : PySem.W.Frag) (n : En) (r : Ev → Prop) : TE := fun σ H _ => ∃ δ G, Rel K n δ σ G H ∧ r δ
noncomputable def lRA (K : PySem.W.Frag) (n : En) (r : Ev → Prop) : TA := fun σ H _ => ∃ δ G, Rel K n δ σ G H ∧ r δ
noncomputable def lRS (K : PySem.W.Frag) (n : En) (r : Ev → Prop) : TS := fun _ σ H => ∃ δ G, Rel K n δ σ G H ∧ r δ
noncomputable abbrev RE (X : Cx) (n : En) (e : Expr) (r : Ev → Prop) : Prop := PE X e (lR X.K n r)
noncomputable abbrev RA (X : Cx) (n : En) (es : List Expr) (r : Ev → Prop) : Prop := PA X es (lRA X.K n r)
noncomputable abbrev RS (X : Cx) (n : En) (st : Stmt) (r : Ev → Prop) : Prop := PS X st (lRS X.K n r)
noncomputable abbrev RSs (X : Cx) (n : En) (sts : List Stmt) (r : Ev → Prop) : Prop := PSs X sts (lRS X.K n r)
noncomputable def spR (K : PySem.W.Frag) (C : Addr) (S : List D → Prop) : Sp := fun vs H _ E => ∃ (G : Hp) (ds : List D), Same G H ∧ DenL K G vs ds ∧ S ds ∧ ∀ G' H', Ext G H G' H' → E (.ref C) none H'
section
variable {X : Cx} {n : En} {C : Addr} {e a b c : Expr} {es : List Expr} {st : Stmt} {rest : List Stmt} {r ra rb P : Ev → Prop} {pos : Pos}
theorem rss_here (h : RS X n st r) : RSs X n (st :: rest) r :=
  pss_imp (pss_cons h (u := fun _ _ _ => False) fun _ _ _ _ _ _ z => z.elim) fun D σ H z => z
theorem rss_later {t : TSd} (h1 : DS X st t) (h2 : RSs X n rest r) : RSs X n (st :: rest) (fun δ => t { nx := r, rt := fun _ _ => False } δ) :=
  pss_imp (pss_cons h1 h2) fun D σ H ⟨δ, G, R, h⟩ => ⟨n, δ, G, _, R, h, ⟨fun δ' σ' G' H' R' h' => ⟨δ', G', R', h'⟩, fun _ _ _ _ _ _ _ _ z => z.elim, fun _ _ _ _ _ z => z.elim, fun _ _ _ _ _ z => z.elim⟩⟩
theorem rs_if {sa sb : List Stmt} {tc : TTd} (hc : DT X c tc) (ha : RSs X n sa ra) (hb : RSs X n sb rb) : RS X n (.If c sa sb pos) (fun δ => tc δ fun q δ1 => if q = true then ra δ1 else rb δ1) :=
  ps_imp (ps_if hc ha hb) fun D σ H ⟨δ, G, R, h⟩ => ⟨n, δ, G, _, R, h, fun q G1 H1 δ1 R1 s1 h1 => by
    cases q with
    | true => rw [if_pos rfl] at h1; exact iteT ⟨δ1, G1, R1, h1⟩
    | false => rw [if_neg Bool.false_ne_true] at h1; exact iteF ⟨δ1, G1, R1, h1⟩⟩
theorem rss_no {sts : List Stmt} : RSs X n sts (fun _ => False) := fun _ _ _ _ _ _ ⟨_, _, _, z⟩ => z.elim
theorem rs_ret (he : RE X n e r) : RS X n (.Return (some e) pos) r := ps_imp (ps_ret he) fun _ _ _ z => z
theorem re_if {tc : TTd} (hc : DT X c tc) (ha : RE X n a ra) (hb : RE X n b rb) : RE X n (.IfExp c a b pos) (fun δ => tc δ fun q δ1 => if q = true then ra δ1 else rb δ1) :=
  pe_imp (pe_ifExp hc ha hb) fun σ H Q ⟨δ, G, R, h⟩ => ⟨n, δ, G, _, R, h, fun q G1 H1 δ1 R1 s1 h1 => by
    cases q with
    | true => rw [if_pos rfl] at h1; exact iteT ⟨δ1, G1, R1, h1⟩
    | false => rw [if_neg Bool.false_ne_true] at h1; exact iteF ⟨δ1, G1, R1, h1⟩⟩
theorem ra_here (he : RE X n e r) (hs : starEach (e :: es) X.env = (false, eval e X.env) :: starEach es X.env := by rfl) : RA X n (e :: es) r :=
  pa_imp (pa_cons he (t := fun _ _ _ => False) (fun _ _ _ _ _ _ _ z => z.elim) hs) fun _ _ _ z => z
theorem re_call {k : Nat} {f : Addr} {fd : FuncData} {ps : List Str} {S : List D → Prop} {x : Str} {p : Pos} {t : TAd} (W : Wish X n C P) (F : FnOk X.prog X.w X.K X.mg X.base (CXE X.prog X.w) k f fd ps (spR X.K C S)) (hr : Room k X.A) (hm : X.mg x = some (.ref f)) (hk : PySem.W.keepIn X.K (.ref f) = true) (hb : Binds X.K fd ps [])
    (ha : DA X (e :: es) t) (hg : Gl X x := by rfl) (hdb : (x == ("__debug__" : Str)) = false := by decide) (he : starEach (e :: es) X.env = (false, eval e X.env) :: starEach es X.env := by rfl) (hpl : (backTo pos (starEach es X.env)).any (·.1) = false := by rfl) :
    RE X n (.Call (.Name x p) (e :: es) [] pos) (fun δ => t δ fun ds δ1 => S ds ∧ P δ1) := by
  have hx : Passes (CXE X.prog X.w) X (fun cls _ H' => cls = .ref C ∧ ∃ δ' σ' G', Rel X.K n δ' σ' G' H' ∧ P δ') := fun pins σ H s e s' I ⟨ea, C', B, H', ee, O, ec, hR⟩ => by
    cases ec; subst ee
    exact W.pass pins σ H s ea B H' s' I O hR
  exact pe_imp (pe_call F hr hg hm hk hb .nil hx ha hdb he hpl) fun σ H Q ⟨δ, G, R, h⟩ => ⟨n, δ, G, _, R, h, fun vs G1 H1 ds δ1 R1 s1 d1 h1 => by
    show spR X.K C S (vs ++ []) H1 Q _
    rw [List.append_nil]
    exact ⟨G1, ds, R1.sub, d1, h1.1, fun G' H' e => ⟨rfl, δ1, σ, G', R1.ext e, h1.2⟩⟩⟩
end
section
variable {P : Program} {w : World} {K : PySem.W.Frag} {mg : Str → Option Value} {base : Heap}
theorem fnR {x qual : Str} {st : Stmt} {f C : Addr} {fd : FuncData} {N ps : List Str} {k : Nat} {S : List D → Prop} (F : Fun K x qual st f fd) (Sc : FnScope N ps (defScope st)) (len : ∀ ds, S ds → ds.length = ps.length)
    (hbody : ∀ (cdv : Value) (A : Around) (outer : List Env) (s : Shared) (H : Hp) (E : XK) (n : En), Room k (A.deeper (envOfC qual (defScope st) s.heap.objs.size f cdv)) → Wish (cxOf (CXE P w) P w K mg base N qual (defScope st) f cdv A outer s H E) n C (fun _ => True) → WishM (cxOf (CXE P w) P w K mg base N qual (defScope st) f cdv A outer s H E) n C (fun _ => True) →
      ∃ r, RSs (cxOf (CXE P w) P w K mg base N qual (defScope st) f cdv A outer s H E) n (defBody st) r ∧ ∀ ds, S ds → r (startD N ds)) : FnOk P w K mg base (CXE P w) (k + 1) f fd ps (spR K C S) := by
  obtain ⟨oc, od, kV, doc, pm, an, cdv, ct, osl, rfl, lk, hcd⟩ := F.ex
  refine fn_of lk hcd Sc (fun vs H Q E ⟨G, ds, _, dn, h, _⟩ => by rw [dn.length]; exact len ds h) fun A outer s H vs Q E hr ⟨G, ds, sub, dn, h, hE⟩ => ?_
  have W : Wish (cxOf (CXE P w) P w K mg base N qual (defScope st) f cdv A outer s H E) ⟨G, H, fun _ => False⟩ C (fun _ => True) := ⟨fun pins σ H1 s1 ea B H' s' I O ⟨δ', σ', G', R, _⟩ => leave_next I rfl rfl rfl O fun s'' O' => ⟨ea, C, B, H', rfl, O', hE G' H' R.toExt⟩⟩
  have WM : WishM (cxOf (CXE P w) P w K mg base N qual (defScope st) f cdv A outer s H E) ⟨G, H, fun _ => False⟩ C (fun _ => True) := ⟨fun pins σ H1 s1 h' ea vs I ⟨δ, G1, R, _⟩ hx => leave_first I rfl rfl rfl hx fun s'' O => ⟨ea, C, _, H1, rfl, O, hE G1 H1 R.toExt⟩⟩
  obtain ⟨r, hr1, hr2⟩ := hbody cdv A outer s H E ⟨G, H, fun _ => False⟩ hr W WM
  exact ⟨_, hr1, startD N ds, G, rel_start (N := N) sub dn, hr2 ds h⟩
end
end Dl
namespace Dl
open PySem PySem.Spec PyProof.Rows L2
theorem rs_raise {X : Cx} {n : En} {C : Addr} {P : Ev → Prop} {x t : Str} {j : Nat} {np p cpos pos : Pos} {bm : List Value} {B newId initId : String} {name : Str} {scope : Scope} {L a : Addr} {cd : Value} (W : WishM X n C P) (hcalm : X.calm = true) (O : OwnCls x C bm newId X.mg X.base) (EB : ExcBaseFacts B newId initId bm)
    (henv : X.env = envOf name scope L a cd) (hk : scope.kind = .function) (hx : (envOf name scope L a cd).kindOf x = some .globalImplicit) (hd : (x == ("__debug__" : Str)) = false := by decide) :
    RS X n (.Raise (some (.Call (.Name x np) [.Constant (.str t) j p] [] cpos)) none pos) P := by
  intro pins s σ H D I ⟨δ, G, R, hP⟩
  obtain ⟨m, F⟩ := I.fr
  have args : wpAny (model X.prog X.w) X.A (spliced (backTo cpos (starEach [.Constant (.str t) j p] X.env))) (AP X pins σ fun vs H1 => vs = [.str t] ∧ H1 = H) X.xe s :=
    (pa_cons (X := X) (e := .Constant (.str t) j p) (es := []) pe_str pa_nil rfl) cpos pins s σ H _ I ⟨rfl, rfl⟩
  have eL : X.env.locals = L := by rw [henv]; rfl
  rw [eL] at F
  rw [henv] at args ⊢
  refine Raise_own F I.ok.mod.glob O EB (I.ok.hd hcalm) (thn args fun us s2 ⟨vs, H1, I2, rv, e1, e2⟩ => ⟨?_, I2.bk, fun h' ea hm => ?_⟩) rfl rfl hk hx hd
  · subst e1
    rw [← rv.length]
    show 1 ≤ sizeLine
    decide
  · subst e2
    exact W.made pins σ _ s2 h' ea us I2 ⟨δ, G, R, hP⟩ hm
theorem own_in {K : PySem.W.Frag} {h : Heap} {mg : Str → Option Value} {x : Str} {C : Addr} {bmB : List Value} {newId : String} (X : K.In h) (G : h.Ns mainGlobals mg) (e : PySem.W.nsIn K mainGlobals x = some (some (.ref C))) (q : PySem.W.excIn K C bmB newId = true) : OwnCls x C bmB newId mg h := by
  refine ⟨PySem.W.mg_of X G e, ?_⟩
  unfold PySem.W.excIn at q
  split at q
  case h_2 => cases q
  rename_i dct cdt slo hlk
  split at q
  case h_2 => cases q
  rename_i Cc tl a0 a1 a2 a3 nid a5 hmro hsl
  simp only [Bool.and_eq_true, Bool.not_eq_true', beq_iff_eq] at q
  obtain ⟨⟨⟨⟨⟨q1, q2⟩, q3⟩, q4⟩, q5⟩, q6⟩ := q
  subst q1 q2
  obtain ⟨c1, c2, c3, c4, c5, c6, c7, c8, c9, c10, c11⟩ := cdt
  simp only at hmro q3 q5 q6
  subst hmro q3
  have es : slo = #[a0, a1, a2, a3, some (.builtin nid), a5] := by
    rcases slo with ⟨l⟩
    exact congrArg Array.mk hsl
  subst es
  exact ⟨tl, c4, c1, c5, c2, c6, c7, c8, c9, c10, dct, a0, a1, a2, a3, a5, h.nsMap c4, X _ _ hlk, .of_isNs (PySem.W.isNs_of_in X q5), PySem.W.nsMap_none_of_in X q5 q6, PySem.W.tail_of_in X q4⟩
end Dl
namespace Dl
open PySem PySem.Spec PyProof.Rows L2
section
variable {A : Around} {M : Model} {E : Value → Shared → Prop}
variable {nm q nm' q' : Str} {C N R N' : Addr} {bs bm bs' bm' : List Value} {hdct hdct' : Bool} {sn sn' : List Str} {sub sub' : List Value} {ab ab' : Bool} {col col' : Option Bool} {dd dd' : Option Addr} {k0 k1 k2 k3 k5 j0 j1 j2 j3 j5 : Option Value} {newId newId' : String}
theorem excMatches_base {h : Heap} {g : Array GenState} {d : Drawn} {t : Nat} {os : OsState} {e : Addr} {oe : Obj} {Q : Bool → Shared → Prop}
    (hC : h.get? C = some (excClassObj nm q C N bs bm hdct sn sub ab col dd k0 k1 k2 k3 k5 newId)) (hR : h.get? R = some (excClassObj nm' q' R N' bs' bm' hdct' sn' sub' ab' col' dd' j0 j1 j2 j3 j5 newId')) (he : h.get? e = some oe) (hcls : oe.cls = .ref C)
    (hbase : bm'.contains (.type "BaseException") = true) (hin : bm.contains (.ref R) = true) (hq : Q true ⟨h, g, d, t, os⟩) : wpAny M A (excMatches (.ref e) (.ref R)) Q E ⟨h, g, d, t, os⟩ := by
  have c1 : (Value.ref R :: bm').contains (.type "BaseException") = true := by rw [List.contains_cons, hbase, Bool.or_true]
  have c2 : (Value.ref C :: bm).contains (.ref R) = true := by rw [List.contains_cons, hin, Bool.or_true]
  have f := tc_notTuple
  unfold excMatches
  repeat (first | (with_reducible refine wpAny_loadPart_at he ?_; rw [hcls]) | with_reducible refine wpAny_loadPart_at hR ?_ | (with_reducible refine wpAny_isSubtype_exc hR ?_; rw [c1]) | (with_reducible refine wpAny_isSubtype_exc hC ?_; rw [c2]) | wp_step)
  exact hq
end
section
variable {A : Around} {prog : Program} {w : World} {E : Value → Shared → Prop} {s : Shared} {env : Env}
theorem handleBy_base_as {e C R : Addr} {y : Str} {bmR : List Value} {newId newR : String} {mg : Str → Option Value} {t : Expr} {n : Str} {b0 : Stmt} {suite : List Stmt} {pos : Pos} {rest : List ExceptHandler} {Q : Flow → Shared → Prop}
    (hbase : bmR.contains (.type "BaseException") = true)
    (h : wpAny (model prog w) (A.mark (some (.ref e))) (eval t env) (fun c s1 => c = .ref R ∧ OwnCls y R bmR newR mg s1.heap ∧ (∃ bm N nm q bs hdct sn sub ab col dd k0 k1 k2 k3 k5, s1.heap.get? C = some (excClassObj nm q C N bs bm hdct sn sub ab col dd k0 k1 k2 k3 k5 newId) ∧ bm.contains (.ref R) = true) ∧ (∃ oe, s1.heap.get? e = some oe ∧ oe.cls = .ref C) ∧
      wpAny (model prog w) (A.mark (some (.ref e))) (setFlight (.ref e) none) (fun _ s2 =>
          wpAny (model prog w) (A.mark (some (.ref e))) (storeName env n (.ref e)) (fun _ s3 =>
            wpAny (model prog w) (A.mark (some (.ref e))) (execs (b0 :: suite) env)
              (fun f s4 => wpAny (model prog w) A (do bindName env n .none; unbindBehindTheSuite env n pos) (fun _ s5 => Q f s5) E s4)
              (fun _ _ => False) s3) (fun _ _ => False) s2) (fun _ _ => False) s1) (fun _ _ => False) s) :
    wpAny (model prog w) A (handleBy (.ref e) env (.ExceptHandler (some t) (some n) (b0 :: suite) pos :: rest)) Q E s := by
  refine wpAny_handleBy_cons (codeAny_handlers_test (wpAny_mono h (fun c s1 h1 => ?_) fun _ _ z => z.elim)) (by intro z; cases z)
  obtain ⟨rfl, O, ⟨bm, N, nm, q, bs, hdct, sn, sub, ab, col, dd, k0, k1, k2, k3, k5, hC, hin⟩, ⟨oe, he, hcls⟩, hk⟩ := h1
  obtain ⟨bm2, N2, nm2, q2, bs2, hdct2, sn2, sub2, ab2, col2, dd2, j0, j1, j2, j3, j5, mN2, hR, hN2, hni2, T2⟩ := O.obj
  obtain ⟨hh, g, d, tk, os⟩ := s1
  refine excMatches_base hC hR he hcls (T2.hasType hbase) hin (codeAny_handlers_suite_as ?_)
  exact wpAny_mono hk (fun _ s2 h2 => wpAny_mono h2 (fun _ s3 h3 => wpAny_mono h3 (fun f s4 h4 => h4) fun _ _ z => z.elim) fun _ _ z => z.elim) fun _ _ z => z.elim
end
end Dl
namespace Dl
open PySem PySem.Spec PyProof.Rows L2
theorem ObjOk.got {P : Program} {w : World} {H : Hp} {h : Heap} {a : Addr} {o : HO} (x : ObjOk P w H h a o) : ∃ ob, h.get? a = some ob := by
  cases o with
  | lst xs => obtain ⟨_, _, _, _, e⟩ := x; exact ⟨_, e⟩
  | tup xs => obtain ⟨_, _, _, ob, e, _⟩ := x; exact ⟨_, e⟩
  | dK kvs => obtain ⟨_, _, _, _, o, _, _, e, _⟩ := x; exact ⟨_, e⟩
  | dT kvs => obtain ⟨_, _, _, _, o, _, _, e, _⟩ := x; exact ⟨_, e⟩
  | set S n => obtain ⟨o, _, _, _, e, _⟩ := x; exact ⟨_, e⟩
  | ins C dx fs => obtain ⟨_, _, _, e, _⟩ := x; exact ⟨_, e⟩
  | own y => exact x
  | xd fs => obtain ⟨_, ⟨_, _, _, e, _⟩, _⟩ := x; exact ⟨_, e⟩
  | rng lo hi => obtain ⟨_, _, _, e⟩ := x; exact ⟨_, e⟩
  | frz ob u => obtain ⟨e, _⟩ := x; exact ⟨_, e⟩
  | tbl ps => exact ⟨_, (show h.get? a = some _ from x)⟩
  | met f y => exact ⟨_, (show h.get? a = some _ from x)⟩
  | ext φ => obtain ⟨_, e, _⟩ := x; exact e
noncomputable abbrev markX (Y : Cx) (ea : Addr) : Cx := { Y with A := Y.A.mark (some (.ref ea)), calm := false, xe := fun _ _ => False }
section
variable {X : Cx} {pins : List (Addr × Obj)} {σ : L2.St} {H H' : Hp} {s s' : Shared} {ea C : Addr} {B h' : Heap}
theorem Inv.marked (I : Inv X pins σ H s) (ea : Addr) : Inv (markX X ea) pins σ H s :=
  ⟨⟨I.ok.mod, I.ok.kind, I.ok.glob, I.ok.blt, I.ok.above, I.ok.inj, I.ok.has, I.ok.cab, fun z => (by cases z), I.ok.frames, I.ok.stk, I.ok.exf, I.ok.bs, I.ok.bsz, I.ok.noex, I.ok.exfs, I.ok.funs, I.ok.frf⟩, I.os, I.bare, I.base, I.loc, I.cell, I.free, I.freeC, I.pin, I.hok, I.len⟩
theorem Inv.unmarked (ok : X.Ok) (I : Inv (markX X ea) pins σ H s) : Inv X pins σ H s := ⟨ok, I.os, I.bare, I.base, I.loc, I.cell, I.free, I.freeC, I.pin, I.hok, I.len⟩
theorem Inv.anyNames {m' : Str → Option Value} {t' : Nat} (I : Inv X pins σ H s) (hn : h'.Ns X.env.locals m') (hs : Heap.SameBut X.env.locals s.heap h') : Inv X pins (List.replicate X.N.length none) H { s with heap := h', toks := t' } := by
  have same : ∀ b, b ≠ X.env.locals → h'.get? b = s.heap.get? b := fun b hb => hs.2 b hb
  have low : ∀ b o, X.s₀.heap.get? b = some o → b ≠ X.env.locals := fun b o e z => by
    subst z; exact absurd (Heap.lt_size e) (Nat.not_lt.mpr I.ok.above)
  refine ⟨I.ok, I.os, I.bare, ⟨fun b o e n n1 n2 => ?_, fun b o e n n1 n2 => ?_, I.base.free, fun b o e n2 => ?_, I.base.tups, I.base.frzs, I.base.tbls⟩, ⟨m', hn, fun i x v _ e => ?_⟩, fun x c e => ?_, I.free, I.freeC, fun p hp => ?_, fun a o e => ?_, by simp⟩
  · show h'.get? b = _; rw [same b (low b o e)]; exact I.base.keep b o e n n1 n2
  · obtain ⟨sl, e1⟩ := I.base.slot b o e n n1 n2; exact ⟨sl, (same b (low b o e)).trans e1⟩
  · obtain ⟨o', e1⟩ := I.base.there b o e n2; exact ⟨o', (same b (low b o e)).trans e1⟩
  · rw [List.getElem?_replicate] at e; split at e <;> cases e
  · obtain ⟨v, o, ho, hd⟩ := I.cell x c e; exact ⟨v, o, (same c (I.cne x c e)).trans ho, hd⟩
  · obtain ⟨p1, p2, p3, p4, p5⟩ := I.pin p hp; exact ⟨(same _ p3).trans p1, p2, p3, p4, p5⟩
  · refine (I.hok a o e).stay (fun b u hb q => (same b ?_).trans q) (fun _ q => q) fun _ _ q => q
    rintro rfl
    rcases hb with rfl | hb
    · rw [I.free] at e; cases e
    · rw [I.free] at hb; cases hb
theorem un_upto (I : Inv X pins σ H s) (O : OutE X.prog X.w X.stack H s ea C B H' s') (k : B.StaysIn h') (u : s'.heap.UpToSlots h') : Un (frs X.stack) [] H H' s.heap h' := by
  have sl : ∀ b o, s.heap.get? b = some o → H b = none → b ∈ frs X.stack → ∃ z, h'.get? b = some { o with slots := z } := fun b o e n hb => by
    obtain ⟨z, hz⟩ := O.un.slot b o e n hb (by simp)
    obtain ⟨_, o', ho', nf⟩ := I.stack.mem hb
    rw [e] at ho'; cases ho'
    obtain ⟨z', hz'⟩ := u b _ hz nf
    exact ⟨z', hz'⟩
  refine ⟨fun b o e n nb _ => k b o (O.keep b o e n nb), fun b o e n hb _ => sl b o e n hb, O.un.free, fun b o e nx => ?_, O.un.tups, O.un.frzs, O.un.tbls⟩
  by_cases hb : b ∈ frs X.stack
  · obtain ⟨z, hz⟩ := sl b o e (I.stkFree b hb) hb; exact ⟨_, hz⟩
  · obtain ⟨o', ho'⟩ := O.th b o e hb; exact ⟨o', k b o' ho'⟩
theorem Inv.landed (I : Inv X pins σ H s) (O : OutE X.prog X.w X.stack H s ea C B H' s') (k : B.StaysIn h') (u : s'.heap.UpToSlots h') : Inv X pins σ H' { s' with heap := h' } :=
  I.call' (s' := { s' with heap := h' }) (ch := []) O.os (un_upto I O k u) (O.hok.kept k) O.bare (fun b z => absurd z (by simp))
theorem OutE.free (O : OutE X.prog X.w X.stack H s ea C B H' s') : H' ea = none := by
  obtain ⟨t, fly⟩ := O.fly
  cases q : H' ea with
  | none => rfl
  | some o =>
    obtain ⟨ob, e⟩ := ObjOk.got (O.hok ea o q)
    rw [fly.2.1] at e; cases e
end
end Dl
namespace Dl
open PySem PySem.Spec PyProof.Rows L2
noncomputable abbrev pinX (Y : Cx) (pn : List (Addr × Obj)) (xe : Value → Shared → Prop) : Cx := { Y with pn := pn, xe := xe }
section
variable {Y : Cx} {pins pins1 pn : List (Addr × Obj)} {xe xe' : Value → Shared → Prop} {σ : L2.St} {H : Hp} {s : Shared}
theorem ok_pinX (ok : Y.Ok) : (pinX Y pn xe).Ok := ⟨ok.mod, ok.kind, ok.glob, ok.blt, ok.above, ok.inj, ok.has, ok.cab, ok.hd, ok.frames, ok.stk, ok.exf, ok.bs, ok.bsz, ok.noex, ok.exfs, ok.funs, ok.frf⟩
theorem ok_unpinX (ok : (pinX Y pn xe).Ok) : Y.Ok := ⟨ok.mod, ok.kind, ok.glob, ok.blt, ok.above, ok.inj, ok.has, ok.cab, ok.hd, ok.frames, ok.stk, ok.exf, ok.bs, ok.bsz, ok.noex, ok.exfs, ok.funs, ok.frf⟩
theorem Inv.toPin (I : Inv Y pins σ H s) (xe : Value → Shared → Prop) : Inv (pinX Y (Y.pn ++ pins) xe) [] σ H s :=
  ⟨ok_pinX I.ok, I.os, I.bare, I.base, I.loc, I.cell, I.free, I.freeC, fun p hp => I.pin p (by simpa using hp), I.hok, I.len⟩
theorem Inv.ofPin (I : Inv (pinX Y (Y.pn ++ pins) xe) pins1 σ H s) : Inv Y pins σ H s :=
  ⟨ok_unpinX I.ok, I.os, I.bare, I.base, I.loc, I.cell, I.free, I.freeC, fun p hp => I.pin p (List.mem_append_left _ hp), I.hok, I.len⟩
end
noncomputable def SuiteOk (Y : Cx) (i : Nat) (C : Addr) (suite : List Stmt) (d : D) : Prop :=
  ∀ (ea : Addr) (oe : Obj) (pins : List (Addr × Obj)) (σ : L2.St) (H G : Hp) (s : Shared), oe.cls = .ref C → Same G H → Inv (markX Y ea) ((ea, oe) :: pins) σ H s → σ[i]? = some (some (.ref ea)) →
    wpAny (model Y.prog Y.w) (Y.A.mark (some (.ref ea))) (execs suite Y.env) (fun f s4 => ∃ u v σ' H' G', f = .ret u ∧ RelV v u ∧ Inv (markX Y ea) pins σ' H' s4 ∧ Ext G H G' H' ∧ Den Y.K G' v d) (fun _ _ => False) s
noncomputable def dTry (tb : TSd) (r : (Ev → Prop) → Ev → Prop) (d : D) : TSd := fun E δ => tb E δ ∨ ∃ P : Ev → Prop, r P δ ∧ ∀ δ', P δ' → E.rt d δ'
noncomputable def hndl (Y : Cx) (hs : List ExceptHandler) (Q : Flow → Shared → Prop) : Value → Shared → Prop := fun e s1 =>
  wpAny (model Y.prog Y.w) Y.A (noteFrame e Y.env) (fun _ s2 => wpAny (model Y.prog Y.w) Y.A (setFlight e none) (fun _ s3 => wpAny (model Y.prog Y.w) Y.A (handleBy e Y.env hs) Q (fun _ _ => False) s3) (fun _ _ => False) s2) (fun _ _ => False) s1
structure Base2 (Y : Cx) (C R : Addr) (rn : Str) : Prop where
  rb : ∃ bmR newR, OwnCls rn R bmR newR Y.mg Y.base ∧ bmR.contains (.type "BaseException") = true
  cb : ∃ newC bm N nm q bs hdct sn sub ab col dd k0 k1 k2 k3 k5, Y.base.get? C = some (excClassObj nm q C N bs bm hdct sn sub ab col dd k0 k1 k2 k3 k5 newC) ∧ bm.contains (.ref R) = true
section
variable {Y : Cx} {C R : Addr} {rn nme : Str} {i : Nat} {np hp pos : Pos} {body suite : List Stmt} {b0 : Stmt} {tb : TSd} {r : (Ev → Prop) → Ev → Prop} {d : D}
theorem caught {pins : List (Addr × Obj)} {σ : L2.St} {H H' : Hp} {s s' : Shared} {ea : Addr} {B : Heap} {F : Ends} (hst : Y.stack = Y.env :: Y.outer) (hfr : Y.env.frame = some Y.env.locals) (BB : Base2 Y C R rn) (hS : SuiteOk Y i C (b0 :: suite) d)
    (hN : Y.N.Nodup) (hi : Y.N[i]? = some nme) (hl : Y.env.scope.names.lookup nme = some .local) (hk : Y.env.kindOf nme = some .local) (hg : Gl Y rn) (hdb : (rn == ("__debug__" : Str)) = false) (J1 : Inv Y pins σ H s) (O : OutE Y.prog Y.w Y.stack H s ea C B H' s')
    {G : Hp} (hG : Same G H') (hF : ∀ v G' H'', Ext G H' G' H'' → Den Y.K G' v d → F.rt v H'') : hndl Y [.ExceptHandler (some (.Name rn np)) (some nme) (b0 :: suite) hp] (SP Y.nox pins F) (.ref ea) s' := by
  obtain ⟨bmR, newR, OR, hbR⟩ := BB.rb
  obtain ⟨newC, bm, N, nm, q, bs, hdct, sn, sub, ab, col, dd, k0, k1, k2, k3, k5, hC, hin⟩ := BB.cb
  obtain ⟨t, fly⟩ := O.fly
  rw [hst] at fly
  refine wpAny_looks_onW (by rw [J1.ok.frames, hst]) hfr fly fun h4 held4 sm4 => ?_
  refine wpAny_landsW held4 fun h5 fly5 sm5 => ?_
  have J5 : Inv Y pins σ H' { s' with heap := h5 } := Inv.landed (X := Y) J1 O fly5.1 (sm4.trans sm5)
  refine handleBy_base_as (C := C) (y := rn) (newId := newC) (mg := Y.mg) hbR (ld_glob (Inv.marked J5 ea) hg OR.bound ⟨rfl, OR.keeps J5.bk, ⟨bm, N, nm, q, bs, hdct, sn, sub, ab, col, dd, k0, k1, k2, k3, k5, J5.bk _ _ hC, hin⟩, fly5.there, ?_⟩ hdb)
  refine lands_againW fly5 fun h7 fly7 sm7 => ?_
  have J7 : Inv Y pins σ H' { s' with heap := h7 } := Inv.landed (X := Y) J1 O fly7.1 ((sm4.trans sm5).trans sm7)
  obtain ⟨oe, vs, T, oT, ts, he, ⟨hcls, _⟩, hdat, _⟩ := fly7.2.2.2
  have nf' : ea ∉ frs (Y.env :: Y.outer) := fun hb => by
    obtain ⟨_, o, ho, nfl⟩ := fly7.2.2.1.mem hb
    rw [he] at ho; cases ho
    exact nfl vs hdat
  have nl : ea ≠ Y.env.locals := fun z => nf' (List.mem_filterMap.mpr ⟨Y.env, List.mem_cons_self, by rw [hfr, z]⟩)
  have M7 : Inv (markX Y ea) ((ea, oe) :: pins) σ H' { s' with heap := h7 } := (Inv.marked J7 ea).pins_of fun p hp => by
    rcases (List.mem_cons.mp hp) with rfl | hp
    · exact ⟨he, OutE.free (X := Y) O, nl, fun z => nf' (frs_tail z), fun v z => by rw [hdat] at z; cases z⟩
    · exact J7.pin p (List.mem_append_right _ hp)
  refine store_ok (X := markX Y ea) (v := .ref ea) M7 hN hi (Or.inl hl) rfl (fun s8 I8 => ?_) (.inr hl)
  have hiσ : i < σ.length := by rw [J1.len]; exact (List.getElem?_eq_some_iff.mp hi).1
  refine wpAny_mono (hS ea oe pins _ H' G s8 hcls hG I8 (List.getElem?_set_self hiσ)) (fun f s9 ⟨u, v, σ9, H9, G9, ef, rv, I9, e9, d9⟩ => ?_) fun _ _ z => z
  subst ef
  have K9 : Inv Y pins _ H9 s9 := Inv.unmarked J1.ok I9
  obtain ⟨m9, hn9, _⟩ := K9.loc
  refine wpAny_nameGoes hk hn9 (by rw [J1.ok.kind]; rfl) fun h10 m10 hn10 hs10 => ?_
  exact ⟨v, _, H9, (Inv.anyNames K9 hn10 hs10).wish _, rv, hF v G9 H9 e9 d9⟩
theorem ds_try (hst : Y.stack = Y.env :: Y.outer) (hfr : Y.env.frame = some Y.env.locals) (BB : Base2 Y C R rn)
    (hb : DSs Y.nox body tb) (hr : ∀ (n : En) (pn : List (Addr × Obj)) (xe : Value → Shared → Prop) (P : Ev → Prop), Wish (pinX Y pn xe) n C P → RSs (pinX Y pn xe) n body (r P)) (hS : SuiteOk Y i C (b0 :: suite) d)
    (hN : Y.N.Nodup) (hi : Y.N[i]? = some nme) (hl : Y.env.scope.names.lookup nme = some .local) (hk : Y.env.kindOf nme = some .local) (hg : Gl Y rn) (hdb : (rn == ("__debug__" : Str)) = false := by decide) :
    DS Y.nox (.Try body [.ExceptHandler (some (.Name rn np)) (some nme) (b0 :: suite) hp] [] [] pos) (dTry tb r d) := by
  intro pins s σ H F I ⟨n, δ, G, E, R0, h, k⟩
  refine wpAny_Try_except ?_
  rcases h with h | ⟨P, h, hd⟩
  · refine wpAny_mono (hb pins s σ H F I ⟨n, δ, G, E, R0, h, k⟩) (fun f s1 hs => ?_) fun e s1 z => z.elim
    cases f with
    | next => obtain ⟨σ1, H1, I1, q⟩ := hs; exact pss_nil pins s1 σ1 H1 F I1 q
    | ret u => exact hs
    | brk => exact hs
    | cont => exact hs
  · have IY : Inv Y pins σ H s := I.unwish
    have W : Wish (pinX Y (Y.pn ++ pins) (hndl Y [.ExceptHandler (some (.Name rn np)) (some nme) (b0 :: suite) hp] (SP Y.nox pins F))) n C P := ⟨fun pins1 σ1 H1 s1 ea B H' s' I1 O ⟨δ', σ', G', R', hP⟩ => by
      refine caught hst hfr BB hS hN hi hl hk hg hdb (Inv.ofPin I1) O R'.sub fun v G2 H2 e dv => ?_
      exact k.rt v d δ' σ' G2 H2 (Rel.ext R' e) dv (hd δ' hP)⟩
    refine wpAny_mono (hr n (Y.pn ++ pins) _ P W [] s σ H ⟨fun _ _ => False, fun _ _ => False, fun _ _ => False, fun _ _ => False⟩ (Inv.toPin IY _) ⟨δ, G, R0, h⟩) (fun f s1 hs => ?_) fun e s1 z => z
    cases f with
    | next => obtain ⟨_, _, _, q⟩ := hs; exact q.elim
    | ret u => obtain ⟨_, _, _, _, _, q⟩ := hs; exact q.elim
    | brk => obtain ⟨_, _, _, q⟩ := hs; exact q.elim
    | cont => obtain ⟨_, _, _, q⟩ := hs; exact q.elim
end
end Dl
namespace Dl
open PySem PySem.Spec PyProof.Rows L2
section
variable {X : Cx} {o : Expr} {ta : TEd}
end
end Dl
namespace Dl
open PySem PySem.Spec PySem.Calls PyProof.Rows L2
section
variable {A : Around} {E : Value → Shared → Prop} {prog : Program} {w : World} {h : Heap} {g : Array GenState} {d : Drawn} {t : Nat} {os : OsState} {o : Obj} {a : Addr}
  {nm q : Str} {C N : Addr} {bs bm : List Value} {hdct : Bool} {sn : List Str} {sub : List Value} {ab : Bool} {col : Option Bool} {dd : Option Addr} {k0 k1 k2 k3 k5 : Option Value} {newId : String}
theorem owner_class : ".".intercalate ("object.__class__".cutAt '.').dropLast = "object" := by decide +kernel
theorem cls_get {R : Result → Shared → Prop} (hC : h.get? C = some (excClassObj nm q C N bs bm hdct sn sub ab col dd k0 k1 k2 k3 k5 newId)) (hb : bm.contains (.type "object") = true)
    (px : h.get? a = some o) (pc : o.cls = .ref C) (hq : R (.ok (.ret (.ref C))) ⟨h, g, d, t, os⟩) :
    codeAny (model prog w) A (.call (.builtin "getset_descriptor.__get__") ⟨[.builtin "object.__class__", .ref a, .ref C], []⟩) R ⟨h, g, d, t, os⟩ := by
  have tdesc : (⟨h, g, d, t, os⟩ : Shared).TypeIs (.builtin "object.__class__") "getset_descriptor" := F.typeOf_object_class
  have hcB : (Value.ref C :: bm).contains (.type (".".intercalate ("object.__class__".cutAt '.').dropLast)) = true := by
    rw [owner_class, List.contains_cons, hb]; exact Bool.or_true _
  refine codeAny_call_builtin F.slot_gs_get.plain F.entry_gs_get (F.slot_gs_get.check _ _ _ _ _ _ _ _ tdesc (F.args_gs_get _ _ _) ?_)
  repeat (any_goals (first | assumption | done | (with_reducible refine wpAny_loadPart_at px ?_; rw [pc]) | (with_reducible refine wpAny_isSubtype_exc hC ?_; rw [hcB]) | wp_step))
  refine ⟨Code.quiet_builtin (_) (by decide +kernel), codeAny_builtin F.entry_object_class ?_⟩
  repeat (any_goals (first | assumption | done | (with_reducible refine wpAny_loadPart_at px ?_; rw [pc]) | wp_step))
theorem cls_entry {tk : Tok} {Q : Fin → Shared → Prop} (LC : PySem.W.Looks (model prog w) h (typeLookup (.ref C) "__class__") (some (.builtin "object.__class__"))) (hC : h.get? C = some (excClassObj nm q C N bs bm hdct sn sub ab col dd k0 k1 k2 k3 k5 newId)) (hb : bm.contains (.type "object") = true)
    (px : h.get? a = some o) (pc : o.cls = .ref C) (hq : Q (.done (.ret (.ref C))) ⟨h, g, d, t, os⟩) :
    wpAny (model prog w) A (Builtin.«object.__getattribute__» ⟨[.ref a, .str ("__class__") tk], []⟩) Q E ⟨h, g, d, t, os⟩ := by
  have tdesc : (⟨h, g, d, t, os⟩ : Shared).TypeIs (.builtin "object.__class__") "getset_descriptor" := F.typeOf_object_class
  have gs5 := F.typeOf_object_class
  have gs6 := F.slot_gs_get.lookup
  have gs7 := F.slot_gs_set.lookup
  repeat (any_goals (first | assumption | done | (with_reducible refine wpAny_loadPart_at px ?_; rw [pc]) | with_reducible refine LC.at ?_ | wp_step))
  refine cls_get hC hb px pc ?_
  repeat (any_goals (first | assumption | done | wp_step))
theorem cls_check {M : Model} {nameV : Value} {Q : Unit → Shared → Prop} (hC : h.get? C = some (excClassObj nm q C N bs bm hdct sn sub ab col dd k0 k1 k2 k3 k5 newId)) (hb : bm.contains (.type "BaseException") = true)
    (px : h.get? a = some o) (pc : o.cls = .ref C) (hq : Q () ⟨h, g, d, t, os⟩) : wpAny M A (checkBuiltinCall "BaseException.__getattribute__" ⟨[.ref a, nameV], []⟩) Q E ⟨h, g, d, t, os⟩ := by
  have kind : builtinKind "BaseException.__getattribute__" = some .slot := by decide +kernel
  have cut : splitId "BaseException.__getattribute__" = some ("BaseException", "__getattribute__") := by decide +kernel
  have hcB : (Value.ref C :: bm).contains (.type "BaseException") = true := by rw [List.contains_cons, hb]; exact Bool.or_true _
  have args := F.args_bexc_ga (.ref a) nameV
  simp only [checkBuiltinCall, kind, cut]
  refine wpAny_bind ?_
  · unfold isInstance
    repeat (first | done | (with_reducible refine wpAny_loadPart_at px ?_; rw [pc]) | (with_reducible refine wpAny_isSubtype_exc hC ?_; rw [hcB]) | wp_step)
    exact hq
theorem cls_by {tk : Tok} {Q : Value → Shared → Prop} (FB : ExcAttrFacts "ValueError") (LG : PySem.W.Looks (model prog w) h (typeLookup (.ref C) "__getattribute__") (some (.builtin "BaseException.__getattribute__"))) (LN : PySem.W.Looks (model prog w) h (typeLookup (.ref C) "__getattr__") none)
    (LC : PySem.W.Looks (model prog w) h (typeLookup (.ref C) "__class__") (some (.builtin "object.__class__"))) (hC : h.get? C = some (excClassObj nm q C N bs bm hdct sn sub ab col dd k0 k1 k2 k3 k5 newId)) (hb : bm.contains (.type "object") = true) (hb2 : bm.contains (.type "BaseException") = true)
    (px : h.get? a = some o) (pc : o.cls = .ref C) (hq : Q (.ref C) ⟨h, g, d, t, os⟩) : wpAny (model prog w) A (getAttrBy (.ref a) (.str "__class__" tk) false) Q E ⟨h, g, d, t, os⟩ := by
  have bnd := FB.ga.bind (.ref a)
  have ne : (Value.builtin "BaseException.__getattribute__" == Value.builtin "object.__getattribute__") = false := by decide +kernel
  have ne1 : (onTheHeap (Value.ref C) && Value.builtin "BaseException.__getattribute__" == Value.builtin "object.__getattribute__") = false := by rw [ne]; rfl
  repeat (any_goals (first | assumption | done | (with_reducible refine wpAny_loadPart_at px ?_; rw [pc]) | with_reducible refine LG.at ?_ | with_reducible refine LN.at ?_ | wp_step))
  refine codeAny_call_builtin FB.ga.plain F.entry_bexc_ga (cls_check hC hb2 px pc (cls_entry LC hC hb px pc ?_))
  repeat (any_goals (first | assumption | done | wp_step))
theorem cls_attr {Q : Option Value → Shared → Prop} (FB : ExcAttrFacts "ValueError") (LG : PySem.W.Looks (model prog w) h (typeLookup (.ref C) "__getattribute__") (some (.builtin "BaseException.__getattribute__"))) (LN : PySem.W.Looks (model prog w) h (typeLookup (.ref C) "__getattr__") none)
    (LC : PySem.W.Looks (model prog w) h (typeLookup (.ref C) "__class__") (some (.builtin "object.__class__"))) (hC : h.get? C = some (excClassObj nm q C N bs bm hdct sn sub ab col dd k0 k1 k2 k3 k5 newId)) (hb : bm.contains (.type "object") = true) (hb2 : bm.contains (.type "BaseException") = true)
    (px : h.get? a = some o) (pc : o.cls = .ref C) (hq : Q (some (.ref C)) ⟨h, g, d, t + 1, os⟩) : wpAny (model prog w) A (getAttr? (.ref a) "__class__") Q E ⟨h, g, d, t, os⟩ := by
  unfold getAttr? getAttrBy?
  repeat (any_goals (first | assumption | done | with_reducible apply cls_by FB LG LN LC hC hb hb2 px pc | wp_step))
end
end Dl
namespace Dl
open PySem PySem.Spec PySem.Calls PyProof.Rows L2
theorem own_obj {K : PySem.W.Frag} {h : Heap} {C : Addr} {bmB : List Value} {newId : String} (X : K.In h) (q : PySem.W.excIn K C bmB newId = true) :
    ∃ bm N nm qq bs hdct sn sub ab col dd k0 k1 k2 k3 k5, h.get? C = some (excClassObj nm qq C N bs bm hdct sn sub ab col dd k0 k1 k2 k3 k5 newId) ∧ OwnTail h bmB bm := by
  unfold PySem.W.excIn at q
  split at q
  case h_2 => cases q
  rename_i dct cdt slo hlk
  split at q
  case h_2 => cases q
  rename_i Cc tl a0 a1 a2 a3 nid a5 hmro hsl
  simp only [Bool.and_eq_true, Bool.not_eq_true', beq_iff_eq] at q
  obtain ⟨⟨⟨⟨⟨q1, q2⟩, q3⟩, q4⟩, q5⟩, q6⟩ := q
  subst q1 q2
  obtain ⟨c1, c2, c3, c4, c5, c6, c7, c8, c9, c10, c11⟩ := cdt
  simp only at hmro q3 q5 q6
  subst hmro q3
  have es : slo = #[a0, a1, a2, a3, some (.builtin nid), a5] := by
    rcases slo with ⟨l⟩
    exact congrArg Array.mk hsl
  subst es
  exact ⟨tl, c4, c1, c5, c2, c6, c7, c8, c9, c10, dct, a0, a1, a2, a3, a5, X _ _ hlk, PySem.W.tail_of_in X q4⟩
structure ExcC (K : PySem.W.Frag) (C : Addr) : Prop where
  ex : ∃ bmB newId, PySem.W.excIn K C bmB newId = true ∧ bmB.contains (.type "object") = true ∧ bmB.contains (.type "BaseException") = true
  ga : PySem.W.findIn K (.ref C) "__getattribute__" = some (some (.builtin "BaseException.__getattribute__"))
  gn : PySem.W.findIn K (.ref C) "__getattr__" = some none
  cl : PySem.W.findIn K (.ref C) "__class__" = some (some (.builtin "object.__class__"))
theorem kitx_exc {K : PySem.W.Frag} {ea C : Addr} {oe : Obj} (hcls : oe.cls = .ref C) (X : ExcC K C) : PySem.W.KitX K (.ref ea) (.ref C) (fun h => h.get? ea = some oe) where
  ty := fun M h _ p => by
    intro A Q E s k q
    show wpAny M A (do let z ← loadPart ea (some headPart); pure z.cls) Q E s
    exact wpAny_bind (wpAny_loadPart (k _ _ p) (wpAny_pure (by rw [hcls]; exact q)))
  it := fun M h KX _ => by
    obtain ⟨bmB, newId, hq, _⟩ := X.ex
    obtain ⟨bm, N, nm, qq, bs, hdct, sn, sub, ab, col, dd, k0, k1, k2, k3, k5, hC, _⟩ := own_obj KX hq
    intro A Q E s k q
    unfold isType loadHead
    exact wpAny_bind (wpAny_loadPart (k _ _ hC) (wpAny_pure q))
  ne := fun h tp dd its n sl KX htp => by
    obtain ⟨bmB, newId, hq, _⟩ := X.ex
    obtain ⟨bm, N, nm, qq, bs, hdct, sn, sub, ab, col, dd, k0, k1, k2, k3, k5, hC, _⟩ := own_obj KX hq
    refine Bool.eq_false_iff.mpr fun z => ?_
    have e : C = tp := Value.ref.inj (beq_iff_eq.mp z)
    subst e
    have z : Value.type "type" = Value.type "tuple" := congrArg Obj.cls (Option.some.inj (hC.symm.trans htp))
    exact absurd (Value.type.inj z) (by decide)
  ca := fun {prog w A E Q s} KX p k => by
    obtain ⟨bmB, newId, hq, hb1, hb2⟩ := X.ex
    obtain ⟨bm, N, nm, qq, bs, hdct, sn, sub, ab, col, dd, k0, k1, k2, k3, k5, hC, T⟩ := own_obj KX hq
    obtain ⟨h, g, d, t, os⟩ := s
    exact cls_attr PySem.F.attr_ValueError (PySem.W.looks_findIn KX X.ga) (PySem.W.looks_findIn KX X.gn) (PySem.W.looks_findIn KX X.cl) hC (T.hasType hb1) (T.hasType hb2) p hcls k
section
variable {X : Cx} {ea C : Addr} {oe : Obj} {c : Value} {cv : V} {b : Bool}
theorem call_isE (hp : (ea, oe) ∈ X.pn) (hcls : oe.cls = .ref C) (E : ExcC X.K C) (hr : RelV cv c) (hc : ∀ u, RelV cv u → u = c) (e : PySem.W.kitOne X.K (.ref C) c = some b) : CallR X (.builtin "isinstance") (fun xs H Q => xs = [.ref ea, cv] ∧ Q (.bl b) H) := by
  rintro pins s σ H xs us Q I r ⟨rfl, q⟩
  cases r with
  | cons r1 r2 => cases r2 with
    | cons r2 r3 =>
      cases r3
      rename_i u1 u2
      cases (show u1 = Value.ref ea from r1)
      cases hc _ r2
      exact PySem.W.kia_one (kitx_exc hcls E) I.kIn (I.pin _ (List.mem_append_left _ hp)).1 e (by intro z; cases z) fun tk => ⟨.bl b, H, I.tok _, rfl, q⟩
end
end Dl
namespace Dl
open PySem PySem.Spec PyProof.Rows L2
end Dl
namespace Dl
open PySem PySem.Spec PyProof.Rows L2
noncomputable def dIsE (j ea : Nat) (b : Bool) : TEd := fun δ Q => δ[j]? = some (.pt ea) ∧ Q (.bl b) δ
theorem de_isE {X : Cx} {ea C : Addr} {oe : Obj} {c : Value} {cv : V} {b : Bool} (j : Nat) {en : Str} {p p1 pos : Pos} {ce : Expr} (hp : (ea, oe) ∈ X.pn) (hcls : oe.cls = .ref C) (E : ExcC X.K C) (hr : RelV cv c) (hc : ∀ u, RelV cv u → u = c) (e : PySem.W.kitOne X.K (.ref C) c = some b) (hce : PE X ce (tC cv))
    (hm : X.mg "isinstance" = none) (hN : X.N[j]? = some en := by rfl) (hv : Vis X.env.scope en := by first | exact Or.inl rfl | exact Or.inr (Or.inl rfl) | exact Or.inr (Or.inr rfl)) (hd : (en == ("__debug__" : Str)) = false := by decide) (hcd : (en == ("__classdict__" : Str)) = false := by decide) (hg : Gl X "isinstance" := by rfl)
    (h1 : starEach [.Name en p1, ce] X.env = (false, eval (.Name en p1) X.env) :: starEach [ce] X.env := by rfl) (h2 : starEach [ce] X.env = (false, eval ce X.env) :: starEach [] X.env := by rfl) (hpl : (backTo pos (starEach [ce] X.env)).any (·.1) = false := by rfl) :
    DE X (.Call (.Name "isinstance" p) [.Name en p1, ce] [] pos) (dIsE j ea b) :=
  pe_imp (pe_callB (call_isE hp hcls E hr hc e) hg hm (by rfl) (pa_cons (pe_var hN hv hd hcd) (pa_cons hce pa_nil h2) h1) (by decide) (by decide) h1 hpl) fun σ H Q2 ⟨n, δ, G, Q, R, ⟨h, q⟩, k⟩ => by
    have z : σ[j]? = some (some (.ref ea)) := R.sl j _ h
    exact ⟨.ref ea, z, rfl, k _ G H _ δ R (Same.refl _) (.bl b) q⟩
end Dl
namespace Dl
open PySem PySem.Spec PyProof.Rows L2
theorem base_in {K : PySem.W.Frag} {h : Heap} {C R : Addr} {bmB : List Value} {newId : String} (X : K.In h) (q : PySem.W.excIn K C bmB newId = true) (m : PySem.W.mroIn K C (.ref R) = some true) (ne0 : C ≠ R) :
    ∃ newC bm N nm qq bs hdct sn sub ab col dd k0 k1 k2 k3 k5, h.get? C = some (excClassObj nm qq C N bs bm hdct sn sub ab col dd k0 k1 k2 k3 k5 newC) ∧ bm.contains (.ref R) = true := by
  obtain ⟨bm, N, nm, qq, bs, hdct, sn, sub, ab, col, dd, k0, k1, k2, k3, k5, hC, _⟩ := own_obj X q
  refine ⟨newId, bm, N, nm, qq, bs, hdct, sn, sub, ab, col, dd, k0, k1, k2, k3, k5, hC, ?_⟩
  unfold PySem.W.mroIn PySem.W.clsIn at m
  split at m
  · rename_i c d cd sl hl
    have z := (X _ _ hl).symm.trans hC
    have e2 : Data.cls cd = (excClassObj nm qq C N bs bm hdct sn sub ab col dd k0 k1 k2 k3 k5 newId).data := congrArg Obj.data (Option.some.inj z)
    have e3 : cd.mro = Value.ref C :: bm := by
      have := Data.cls.inj e2
      rw [this]
    have m2 : ¬ cd.mro = [] ∧ Value.ref R ∈ cd.mro := by simpa using m
    have m' : cd.mro.contains (.ref R) = true := by simpa using m2.2
    rw [e3, List.contains_cons] at m'
    have ne : (Value.ref R == Value.ref C) = false := beq_eq_false_iff_ne.mpr fun z => ne0 (Value.ref.inj z).symm
    rw [ne, Bool.false_or] at m'
    exact m'
  · cases m
theorem rss_if {X : Cx} {n : En} {c : Expr} {a rest : List Stmt} {pos : Pos} {tc : TTd} {ra r : Ev → Prop} (hc : DT X c tc) (ha : RSs X n a ra) (h2 : RSs X n rest r) : RSs X n (.If c a [] pos :: rest) (fun δ => tc δ fun q δ1 => if q = true then ra δ1 else r δ1) :=
  pss_imp (pss_cons (ps_if hc ha pss_nil) h2) fun D σ H ⟨δ, G, R, h⟩ => ⟨n, δ, G, _, R, h, fun q G1 H1 δ1 R1 s1 h1 => by
    cases q with
    | true => rw [if_pos rfl] at h1; exact iteT ⟨δ1, G1, R1, h1⟩
    | false => rw [if_neg Bool.false_ne_true] at h1; exact iteF ⟨δ1, G1, R1, h1⟩⟩
theorem units3 {k : Nat} {A : Around} (r : Room k A) : A.units + 3 + 64 < cLine := by have := r.un; omega
end Dl
namespace Dl
open PySem PySem.Spec PyProof.Rows L2
structure OutH (X : Cx) (L ea C : Addr) (B : Heap) (H' : Hp) (s' : Shared) : Prop where
  os : s'.os = X.s₀.os
  bare : AllBare s'.gens
  un : Un (frs X.stack) [] X.H₀ H' X.s₀.heap s'.heap
  fly : ∃ t, Heap.HeldW B X.stack ea (.ref C) (.ref t) L s'.heap
  hok : HOk X.prog X.w H' B
  keep : ∀ b o, X.s₀.heap.get? b = some o → X.H₀ b = none → b ∉ frs X.stack → B.get? b = some o
  th : ∀ b o, X.s₀.heap.get? b = some o → b ∉ frs X.stack → ∃ o', B.get? b = some o'
structure WishH (X : Cx) (n : En) (C : Addr) (P : Ev → Prop) : Prop where
  held : ∀ (L ea : Addr) (B : Heap) (H' : Hp) (s' : Shared), X.env.frame = some L → OutH X L ea C B H' s' → (∃ δ' σ' G', Rel X.K n δ' σ' G' H' ∧ P δ') → X.xe (.ref ea) s'
section
variable {M : Model} {A : Around} {E : Value → Shared → Prop} {s : Shared}
theorem leaves_held {base : Heap} {env : Env} {outer : List Env} {L e : Addr} {cls a0 : Value} {Q : Unit → Shared → Prop} (hf : env.frame = some L)
    (hh : Heap.HeldW base (env :: outer) e cls a0 L s.heap) (hQ : ∀ h', Heap.FlyingW base outer e cls a0 h' → s.heap.UpToSlots h' → Q () { s with heap := h' }) : wpAny M A (leaving env (.ref e)) Q E s := by
  unfold leaving
  refine wpAny_bind (wpAny_noteFrame_againW hf hh.2.2.2 ?_)
  refine wpAny_landsW hh fun h' hfl up => ?_
  obtain ⟨k1, k2, ⟨_, _, k3⟩, k4⟩ := hfl
  exact hQ h' ⟨k1, k2, k3, k4⟩ up
theorem flight_same {base : Heap} {l : List Env} {e L : Addr} {cls a0 : Value} {α : Type} {what : String} {env : Env} {Q : α → Shared → Prop} (hf : env.frame = some L) (hh : Heap.HeldW base l e cls a0 L s.heap)
    (h : ∀ h', Heap.HeldW base l e cls a0 L h' → (∀ b o, s.heap.get? b = some o → (∀ vs, o.data ≠ .fields vs) → h'.get? b = some o) → E (.ref e) { s with heap := h' }) :
    wpAny M A (PySem.passOn what (.ref e) env) Q E s := by
  obtain ⟨hkb, hen, hl, oe, vs, T, oT, ts, he, hcls, hd, h1, hnT, hTe, hT, hdT, h3⟩ := hh
  have hsz3 : 3 < ts.size := (Array.getElem?_eq_some_iff.mp h3).1
  have other : ∀ b, b ≠ T → (s.heap.update T (Obj.mapFields (·.setIfInBounds 3 (rawInt L)))).get? b = s.heap.get? b := fun b hb => Heap.get?_update_other _ _ (Ne.symm hb)
  have noRecord : ∀ b o, s.heap.get? b = some o → (∀ vs, o.data ≠ .fields vs) → b ≠ T := fun b o hb hnf q => by
    rw [q, hT] at hb; injection hb with hb; subst hb; exact hnf ts hdT
  have nT : ¬ ((Value.ref T == Value.none) = true) := by simp
  unfold PySem.passOn
  refine wpAny_bind (wpAny_field he hd h1 ?_)
  rw [if_neg nT]
  refine wpAny_bind ?_
  unfold setFlight
  refine wpAny_bind (wpAny_field he hd h1 ?_)
  rw [if_pos (show (Value.ref T != Value.none) = true from by simp), hf]
  refine wpAny_setField hT hdT hsz3 (wpAny_throw (h _ ⟨fun b o hbo => (other b fun q => by rw [q, hnT] at hbo; cases hbo).trans (hkb b o hbo), hen, hl.of_keeps fun b o hb hnf => ⟨o, (other b (noRecord b o hb hnf)).trans hb, rfl⟩, ?_⟩ fun b o hb hnf => (other b (noRecord b o hb hnf)).trans hb))
  exact ⟨oe, vs, T, _, _, (other e (Ne.symm hTe)).trans he, hcls, hd, h1, hnT, hTe, Heap.get?_update_self _ hT (Obj.isFreed_of_fields (Obj.data_mapFields hdT _)), Obj.data_mapFields hdT _, by simp [hsz3]⟩
theorem held_but {base h h' : Heap} {l : List Env} {e L C : Addr} {cls a0 : Value} {oC : Obj} (hC : base.get? C = some oC) (hx : Heap.HeldW base l e cls a0 L h) (hs : Heap.SameBut C h h') : Heap.HeldW (PySem.W.hideAll base [C]) l e cls a0 L h' := by
  obtain ⟨hkb, hen, hl, oe, vs, T, oT, ts, he, hcls, hd, h1, hnT, hTe, hT, hdT, h3⟩ := hx
  have nb : ∀ b o, (PySem.W.hideAll base [C]).get? b = some o → b ≠ C := fun b o q z => by
    subst z
    have : (PySem.W.hideAll base [b]).get? b = none := Heap.hide_self base b
    rw [this] at q; cases q
  have of : ∀ b, base.get? b = none → (PySem.W.hideAll base [C]).get? b = none := fun b hb => by
    cases q : (PySem.W.hideAll base [C]).get? b with
    | none => rfl
    | some o => have := PySem.W.of_hideAll _ q; rw [hb] at this; cases this
  have ne : ∀ b, base.get? b = none → b ≠ C := fun b hb z => by rw [z, hC] at hb; cases hb
  refine ⟨fun b o q => (hs.2 b (nb b o q)).trans (hkb b o (PySem.W.of_hideAll _ q)), of e hen, ?_, oe, vs, T, oT, ts, (hs.2 e (ne e hen)).trans he, hcls, hd, h1, of T hnT, hTe, (hs.2 T (ne T hnT)).trans hT, hdT, h3⟩
  clear he hT
  induction l with
  | nil => trivial
  | cons env r ih =>
    obtain ⟨hk, ⟨L', o, hf, hn, ho, hd'⟩, hr⟩ := hl
    exact ⟨hk, ⟨L', o, hf, of L' hn, (hs.2 L' (ne L' hn)).trans ho, hd'⟩, ih hr⟩
end
section
variable {X : Cx} {pins : List (Addr × Obj)} {σ : L2.St} {H H' : Hp} {s s' : Shared} {ea C L : Addr} {B : Heap}
theorem leave_held (hst : X.stack = X.env :: X.outer) (hfr : X.env.frame = some L) (hab : X.s₀.heap.objs.size ≤ L) (O : OutH X L ea C B H' s') {Q : Unit → Shared → Prop} {E : Value → Shared → Prop}
    (hQ : ∀ s'', OutE X.prog X.w X.outer X.H₀ X.s₀ ea C B H' s'' → Q () s'') : wpAny (model X.prog X.w) X.A (leaving X.env (.ref ea)) Q E s' := by
  obtain ⟨t, fly⟩ := O.fly
  rw [hst] at fly
  have nL : ∀ b o, X.s₀.heap.get? b = some o → b ∉ frs X.outer → b ∉ frs X.stack := fun b o e nb z => by
    rw [hst] at z
    rcases frs_cons z with z | z
    · rw [hfr] at z; cases z
      exact absurd (Heap.lt_size e) (Nat.not_lt.mpr hab)
    · exact nb z
  have inS : ∀ b, b ∈ frs X.outer → b ∈ frs X.stack := fun b hb => by rw [hst]; exact frs_tail hb
  refine leaves_held hfr fly fun h'' x1 x2 => hQ _ ⟨O.os, O.bare, ?_, ⟨t, x1⟩, O.hok, fun b o e n nb => O.keep b o e n (nL b o e nb), fun b o e nb => O.th b o e (nL b o e nb)⟩
  have sl : ∀ b o, X.s₀.heap.get? b = some o → X.H₀ b = none → b ∈ frs X.outer → ∃ z, h''.get? b = some { o with slots := z } := fun b o e n hb => by
    obtain ⟨z, hz⟩ := O.un.slot b o e n (inS b hb) (by simp)
    obtain ⟨_, o', ho', nf⟩ := fly.2.2.1.mem (show b ∈ frs (X.env :: X.outer) from frs_tail hb)
    rw [hz] at ho'; cases ho'
    obtain ⟨z', hz'⟩ := x2 b _ hz nf
    exact ⟨z', hz'⟩
  refine ⟨fun b o e n nb _ => x1.1 b o (O.keep b o e n (nL b o e nb)), fun b o e n hb _ => sl b o e n hb, O.un.free, fun b o e nx => ?_, O.un.tups, O.un.frzs, O.un.tbls⟩
  by_cases hb : b ∈ frs X.outer
  · obtain ⟨o', ho'⟩ := O.un.there b o e nx
    obtain ⟨_, o2, ho2, nf⟩ := fly.2.2.1.mem (show b ∈ frs (X.env :: X.outer) from frs_tail hb)
    rw [ho'] at ho2; cases ho2
    obtain ⟨z', hz'⟩ := x2 b _ ho' nf
    exact ⟨_, hz'⟩
  · obtain ⟨o', ho'⟩ := O.th b o e (nL b o e hb); exact ⟨o', x1.1 b o' ho'⟩
end
noncomputable def cxX (Y : Cx) (xe : Value → Shared → Prop) : Cx := { Y with xe := xe }
theorem inv_xe {Y : Cx} {xe : Value → Shared → Prop} {pins : List (Addr × Obj)} {σ : L2.St} {H : Hp} {s : Shared} (J : Inv Y pins σ H s) : Inv (cxX Y xe) pins σ H s :=
  ⟨⟨J.ok.mod, J.ok.kind, J.ok.glob, J.ok.blt, J.ok.above, J.ok.inj, J.ok.has, J.ok.cab, J.ok.hd, J.ok.frames, J.ok.stk, J.ok.exf, J.ok.bs, J.ok.bsz, J.ok.noex, J.ok.exfs, J.ok.funs, J.ok.frf⟩, J.os, J.bare, J.base, J.loc, J.cell, J.free, J.freeC, J.pin, J.hok, J.len⟩
theorem inv_ex {Y : Cx} {xe : Value → Shared → Prop} {pins : List (Addr × Obj)} {σ : L2.St} {H : Hp} {s : Shared} (J : Inv (cxX Y xe) pins σ H s) : Inv Y pins σ H s :=
  ⟨⟨J.ok.mod, J.ok.kind, J.ok.glob, J.ok.blt, J.ok.above, J.ok.inj, J.ok.has, J.ok.cab, J.ok.hd, J.ok.frames, J.ok.stk, J.ok.exf, J.ok.bs, J.ok.bsz, J.ok.noex, J.ok.exfs, J.ok.funs, J.ok.frf⟩, J.os, J.bare, J.base, J.loc, J.cell, J.free, J.freeC, J.pin, J.hok, J.len⟩
section
variable {M : Model} {A : Around} {E : Value → Shared → Prop} {s : Shared} {env : Env}
noncomputable def compErr (M : Model) (A : Around) (E : Value → Shared → Prop) (C : Addr) (fr : Option Addr) (r : Result) (s' : Shared) : Prop := match r with
  | .ok _ => False
  | .error x => ∃ m, s'.heap.Ns C m ∧ ∀ h', Heap.SameBut C s'.heap h' → ∀ cenv : Env, cenv.locals = C → cenv.frame = fr → wpAny M A (PySem.passOn "comprehension.variables-let-go" x cenv : Sem Value) (fun _ _ => False) E { s' with heap := h' }
theorem comp_freeE {e : Expr} {scope : Scope} {pos : Pos} {newAcc first : Sem Value} {g : Comprehension} {gs : List Comprehension} {cl : List (Str × Addr)} {Q : Value → Shared → Prop}
    (hcl : clausesOf e = g :: gs) (hs : ∀ x, foldedSetIterable g.iter env x = pure x) (hclos : closureFor scope env = pure cl)
    (hkind : scope.kind = .function) (hnames : ∀ x ∈ scope.names, x.2 = .local → scope.names.lookup x.1 = some .local)
    (h : wpAny M A first (fun x s₁ => wpAny M A (pyIter x) (fun it s₂ => wpAny M A newAcc (fun acc s₃ =>
      wpAny M A (newFunctionEnv scope env.globals cl [] env.qual none .none (some env)) (fun cenv s₄ =>
        codeAny M A (.compStart e 0 it acc { cenv with scope := relabel scope env }) (compErr M A E cenv.locals cenv.frame) s₄) E s₃) E s₂) E s₁) E s) :
    wpAny M A (comprehension e scope env pos newAcc false first none) Q E s := by
  unfold comprehension
  rw [hclos, hcl]
  refine wpAny_bind (wpAny_mono h (fun x s₁ h₁ => wpAny_bind (wpAny_standAt (wpAny_bind (wpAny_of_eq (hs x) (wpAny_bind (wpAny_holding (wpAny_mono h₁ (fun it s₂ h₂ =>
    wpAny_standIf (wpAny_bind (wpAny_mono h₂ (fun acc s₃ h₃ => wpAny_bind (wpAny_pure (wpAny_bind (wpAny_mono h₃ (fun cenv s₄ h₄ => ?_) fun _ _ h' => h')))) fun _ _ h' => h')))
      fun _ _ h' => h'))))))) fun _ _ h' => h')
  dsimp only
  have hv : ∀ x ∈ (scope.names.filter fun x => (x.2 == .local || x.2 == .cell) && x.1 != (".0" : Str)).reverse, x.2 = .local →
      Env.kindOf { cenv with scope := relabel scope env } x.1 = some .local := fun x hx hl => lookup_relabel_local (hnames x (List.mem_filter.mp (List.mem_reverse.mp hx)).1 hl)
  refine wpAny_holding (wpAny_bind (wpAny_attempt (wpAny_holding (wpAny_run (codeAny_mono h₄ fun r s' hr => ?_)))))
  cases r with
  | ok f => exact hr.elim
  | error x =>
    obtain ⟨m, hn, hr⟩ := hr
    exact wpAny_bind (wpAny_holding (wpAny_comp_letGo (cenv := { cenv with scope := relabel scope env }) hkind _ s' m hv hn fun h' m' _ hs' => wpAny_mono (hr h' hs' _ rfl rfl) (fun _ _ f => f.elim) fun _ _ y => y))
end
section
variable {A : Around} {prog : Program} {w : World} {s : Shared} {R : Result → Shared → Prop}
theorem compLoop_err {el tg itr : Expr} {sc : Scope} {ps : Pos} {itv ac : Value} {en : PySem.Env} (I : Nat → Shared → Prop)
    (turn : ∀ n s, I n s → wpAny (model prog w) A (pyNext itv) (fun r s₁ => match r with
      | none => False
      | some v => wpAny (model prog w) A (letOwnedTupleGo tg itv v) (fun _ s₁' => wpAny (model prog w) A (assign tg en v) (fun _ s₂ =>
          wpAny (model prog w) A (eval el en) (fun x s₄ =>
              wpAny (model prog w) A (call (.builtin "list.append") [ac, x]) (fun _ s₅ => ∃ m, m < n ∧ I m s₅) (fun _ _ => False) s₄) (notedBy (model prog w) A en fun x s' => R (.error x) s') s₂) (fun _ _ => False) s₁') (fun _ _ => False) s₁) (fun _ _ => False) s)
    (n : Nat) (h : I n s) : codeAny (model prog w) A (.compLoop (.ListComp el [⟨tg, itr, [], 0⟩] sc ps) 0 itv ac en) R s := by
  refine codeAny_loop rfl I (fun n s hn => ?_) n h
  show wpAny _ A ((compTurn (.ListComp el [⟨tg, itr, [], 0⟩] sc ps) 0 itv ac en).onRaise (fun x => do noteFrame x en; theTreesLotGoes x)) _ _ s
  refine wpAny_noted ?_
  rw [compTurn_list]
  refine wpAny_bind (wpAny_standAt (wpAny_bind (wpAny_mono (turn n s hn) (fun r s₁ h₁ => ?_) fun _ _ z => False.elim z)))
  cases r with
  | none => exact h₁.elim
  | some v =>
    refine wpAny_bind (wpAny_mono h₁ (fun _ s₁' h₁' => ?_) fun _ _ z => False.elim z)
    refine wpAny_bind (wpAny_mono h₁' (fun _ s₂ h₂ => wpAny_bind (wpAny_tests_nil ?_)) fun _ _ z => False.elim z)
    exact wpAny_bind (wpAny_bind (wpAny_mono h₂ (fun x s₄ h₄ => wpAny_bind (wpAny_mono h₄ (fun _ s₅ h₅ => wpAny_pure (wpAny_pure ⟨rfl, h₅⟩)) fun _ _ z => False.elim z)) fun _ _ z => z))
end
end Dl
namespace Dl
open PySem PySem.Spec PyProof.Rows L2
noncomputable def rComp (k : Nat) (ti : TId) (g : TGd) (te : TEd) (re : Ev → Prop) : Ev → Prop := fun δ => ti δ fun items δ1 => ∃ (F : D → Option D) (j : Nat) (d : D), items[j]? = some d ∧ j < sizeLine ∧
  (∀ e ∈ items.take j, g e (dropOw δ1 ++ List.replicate k .no) fun δ2 => te δ2 fun y _ => F e = some y) ∧ g d (dropOw δ1 ++ List.replicate k .no) re
noncomputable def Passed (X Y : Cx) (n : En) (C : Addr) : Value → Shared → Prop := fun x s' => ∃ (ea : Addr) (pins : List (Addr × Obj)) (σ : L2.St) (H : Hp) (s : Shared) (B : Heap) (H' : Hp), x = .ref ea ∧ Inv Y pins σ H s ∧ OutE X.prog X.w X.stack H s ea C B H' s' ∧ ∃ δ' σ' G', Rel X.K n δ' σ' G' H'
theorem comp_err {X : Cx} {elt iter target : Expr} {scope : Scope} {pos : Pos} {N' : List Str} (k : Nat) {ti : TId} {g : TGd} {te : TEd} {re : Ev → Prop} {n : En} {Cc : Addr} (hc : X.calm = true) (hst : X.stack = X.env :: X.outer) (hfrm : X.env.frame = some X.env.locals) (hex : X.ex = [])
    (W : WishH X n Cc (fun _ => True)) (hi : DIh X target iter ti)
    (hb : ∀ (cl : List (Str × Addr)) (C : Addr) (ex : List Addr) (s : Shared) (H : Hp), DG (cxComp X N' scope cl C ex s H) target g ∧ DE (cxComp X N' scope cl C ex s H) elt te ∧
      ∀ (xe : Value → Shared → Prop) (n' : En), Wish (cxX (cxComp X N' scope cl C ex s H) xe) n' Cc (fun _ => True) → RE (cxX (cxComp X N' scope cl C ex s H) xe) n' elt re)
    (hkind : scope.kind = .function) (hnames : ∀ y ∈ scope.names, y.2 = .local → scope.names.lookup y.1 = some .local) (hnc : ∀ x, (x, NameKind.free) ∈ scope.names → (x, NameKind.cell) ∉ scope.names) (hN : N'.length = X.N.length + k)
    (hcap : ∀ (i : Nat) (x : Str), N'[i]? = some x → i < X.N.length → Vis (relabel scope X.env) x → X.N[i]? = some x ∧ scope.names.lookup x = some .free ∧ X.env.scope.names.lookup x = some .cell)
    (hfr : ∀ x ∈ scope.names, x.2 = NameKind.free → X.env.scope.names.lookup x.1 = some .cell)
    (hs : ∀ x, foldedSetIterable iter X.env x = pure x) {Qf : Value → Shared → Prop} {pins : List (Addr × Obj)} {s : Shared} {σ : L2.St} {H G : Hp} {δ : Ev} {p : Pos} (I : Inv X pins σ H s) (R : Rel X.K n δ σ G H) (h : rComp k ti g te re δ) :
    wpAny (model X.prog X.w) X.A (comprehension (.ListComp elt [⟨target, iter, [], 0⟩] scope pos) scope X.env p (newList []) false (eval iter X.env) none) Qf X.xe s := by
  obtain ⟨cl, hclos, hcl1, hcl2⟩ := clos_of (env := X.env) (scope := scope) (fun x hx hf => I.ok.has x.1 (.inl (hfr x hx hf)))
  refine comp_freeE rfl hs hclos hkind hnames (wpAny_mono (hi pins s σ H _ I ⟨n, δ, G, _, R, h, fun J G' H' l δ' R' s' j' q' => (show ∃ G' l δ', Rel X.K n δ' σ G' H' ∧ Same G G' ∧ JOkH X.K G' H' J l ∧
    (∃ (F : D → Option D) (j : Nat) (d : D), l[j]? = some d ∧ j < sizeLine ∧ (∀ e ∈ l.take j, g e (dropOw δ' ++ List.replicate k .no) fun δ2 => te δ2 fun y _ => F e = some y) ∧ g d (dropOw δ' ++ List.replicate k .no) re) from ⟨G', l, δ', R', s', j', q'⟩)⟩)
    (fun xv s₁ h₁ => wpAny_mono h₁ (fun itv s₂ h₂ => ?_) fun _ _ z => z) fun _ _ z => z)
  obtain ⟨it, fp, tn, J, H2, rfl, I2, T, st2, f2, G2, items, δ1, R2, sG2, j2, F, jr, dr, hjr, hjs, hF, hRr⟩ := h₂
  have hjl : jr < items.length := (List.getElem?_eq_some_iff.mp hjr).1
  refine wpAny_newObj_type (wpAny_compEnv ?_)
  rw [cf_app]
  dsimp only
  have hD : H2 s₂.heap.objs.size = none := I2.fresh
  have I3 : Inv X pins σ (upd H2 s₂.heap.objs.size (.lst [])) { s₂ with heap := s₂.heap.push { cls := .type "list", dict := none, data := .seq ([] : List Value).toArray } } := I2.lnew (t' := s₂.toks) .nil (Nat.zero_le _)
  have R3 : Rel X.K n δ1 σ G2 (upd H2 s₂.heap.objs.size (.lst [])) := R2.other (R2.sub.free hD) (R2.al _ hD) (R2.notOwn hD) _
  have f3 : ∀ b ∈ fp, FpOk X pins (upd H2 s₂.heap.objs.size (.lst [])) b := fun b hb => by
    have lt : b < s₂.heap.objs.size := by obtain ⟨o, ho, _⟩ := T.obj _ _ st2 b hb; exact Heap.lt_size ho
    refine ⟨?_, (f2 b hb).2⟩
    rw [upd_ne (Nat.ne_of_lt lt)]; exact (f2 b hb).1
  have fo3 : ∀ b ∈ fp, b < (s₂.heap.push { cls := .type "list", dict := none, data := .seq ([] : List Value).toArray }).objs.size := fun b hb => by
    obtain ⟨o, ho, _⟩ := T.obj _ _ st2 b hb
    rw [Heap.size_push]
    exact Nat.lt_succ_of_lt (Heap.lt_size ho)
  have up3 : ∀ b o, s₂.heap.get? b = some o → (s₂.heap.push { cls := .type "list", dict := none, data := .seq ([] : List Value).toArray }).get? b = some o := fun b o e => Heap.get?_push_of_some _ e
  generalize hH3 : upd H2 s₂.heap.objs.size (.lst []) = H3 at I3 R3 f3
  have hD3 : H3 s₂.heap.objs.size = some (.lst []) := by rw [← hH3]; exact upd_same
  have gD3 : G2 s₂.heap.objs.size = none := R2.sub.free hD
  have own3 : Rel X.K n δ1 σ G2 (del H3 s₂.heap.objs.size) := by rw [← hH3, del_upd, del_none hD]; exact R2
  have kp3 : Same H2 H3 := by rw [← hH3]; exact same_upd hD _
  generalize s₂.heap.objs.size = D₀ at hD hD3 gD3 own3 ⊢
  have tn3 : ∀ h', (∀ b o, (s₂.heap.push { cls := .type "list", dict := none, data := .seq ([] : List Value).toArray }).get? b = some o → h'.get? b = some o) → tn 0 h' := fun h' k' => T.keep 0 _ _ st2 fun b _ o e => k' b o (up3 b o e)
  generalize hs3 : ({ s₂ with heap := s₂.heap.push { cls := .type "list", dict := none, data := .seq ([] : List Value).toArray } } : Shared) = s₃ at I3
  have eh3 : s₃.heap = s₂.heap.push { cls := .type "list", dict := none, data := .seq ([] : List Value).toArray } := by rw [← hs3]
  rw [← eh3] at fo3 tn3 ⊢
  have ow := ownC_of (h := s₃.heap) hnc
  have hns₁ : (pushCells (s₃.heap.push { cls := .type "dict", data := .dict #[] }) scope.names).Ns s₃.heap.objs.size fun _ => none := (Heap.Ns.new s₃.heap (.type "dict")).keeps (pushCells_keeps _ _)
  have hk3 : ∀ b o, s₃.heap.get? b = some o → (pushCells (s₃.heap.push { cls := .type "dict", data := .dict #[] }) scope.names).get? b = some o := fun b o e => pushCells_keeps _ _ b o (Heap.get?_push_of_some _ e)
  generalize cellsFrom (s₃.heap.objs.size + 1) scope.names [] = own at ow ⊢
  generalize hh1 : pushCells (s₃.heap.push { cls := .type "dict", data := .dict #[] }) scope.names = h₁ at ow hns₁ hk3 ⊢
  have es4 : ({ s₂ with heap := h₁ } : Shared) = { s₃ with heap := h₁, toks := s₃.toks } := by rw [← hs3]
  have I4 : Inv (cxComp X N' scope (own ++ cl) s₃.heap.objs.size fp s₃ H3) [] (σ ++ List.replicate k none) H3 { s₃ with heap := h₁, toks := s₃.toks } := comp_inv I3 hkind hcl1 hcl2 ow hN hcap f3 fo3 hns₁ hk3
  have reset : ∀ {pins' : List (Addr × Obj)} {σ' : L2.St} {H' : Hp} {s' : Shared}, Inv (cxComp X N' scope (own ++ cl) s₃.heap.objs.size fp s₃ H3) pins' σ' H' s' → Inv (cxComp X N' scope (own ++ cl) s₃.heap.objs.size fp s₃ H3) pins' (σ ++ List.replicate k none) H' s' :=
    fun J' => comp_reset I3 hcl1 hcl2 ow.free hN hcap J'
  generalize own ++ cl = cl at I4 reset ⊢
  have fpok : ∀ {H' : Hp}, (∀ b ∈ fp, H' b = none) → ∀ b ∈ fp, FpOk (cxComp X N' scope cl s₃.heap.objs.size fp s₃ H3) [] H' b := fun hn b hb =>
    ⟨hn b hb, Nat.ne_of_lt (fo3 b hb), I4.ok.exfs b hb, .inl hb, (I4.ok.exf b hb).2, fun p hp => absurd (show p ∈ ([] : List (Addr × Obj)) from hp) (by simp)⟩
  obtain ⟨hG, hE, hR⟩ := hb cl s₃.heap.objs.size fp s₃ H3
  have out : ∀ (n7 : En), (∀ {δ' : Ev} {σ' : L2.St} {G' H' : Hp}, Rel X.K n7 δ' σ' G' H' → ∃ δ'' σ'' G'', Rel X.K n δ'' σ'' G'' H') → ∀ (x : Value) (s' : Shared), Passed X (cxComp X N' scope cl s₃.heap.objs.size fp s₃ H3) n7 Cc x s' →
      notedBy (model X.prog X.w) X.A (compEnvC scope cl s₃.heap.objs.size X.env) (fun x s'' => compErr (model X.prog X.w) X.A X.xe s₃.heap.objs.size X.env.frame (.error x) s'') x s' := by
    rintro n7 hrel x s' ⟨ea, pins6, σ6, H6, s6, B, H7, rfl, I6, O, δr, σr, Gr, Rr⟩
    have IX : Inv X pins σ H6 s6 := I3.call' (s' := s6) (ch := fp) I6.os (show Un (frs X.stack) fp H3 H6 s₃.heap s6.heap from I6.base) I6.hok I6.bare fun b hb => ⟨(f3 b hb).2.2.2.1, (f3 b hb).2.1, (f3 b hb).2.2.2.2.1, (f3 b hb).2.2.2.2.2⟩
    have fC : FpOk X pins H6 s₃.heap.objs.size := I3.fpOk (Nat.le_refl _) I6.free
    have nC : s₃.heap.objs.size ∉ frs X.stack := fun z => by
      rcases List.mem_cons.mp (I3.stkSub _ z) with e | e
      · exact fC.2.1 e
      · exact fC.2.2.1 e
    obtain ⟨t, fly⟩ := O.fly
    obtain ⟨m, ⟨oC, es, ep, hoC, hnsr⟩, _⟩ := I6.loc
    have bC : B.get? s₃.heap.objs.size = some oC := O.keep _ _ hoC I6.free nC
    have fly' : Heap.FlyingW B (X.env :: X.outer) ea (.ref Cc) (.ref t) s'.heap := hst ▸ fly
    show wpAny _ _ (noteFrame (.ref ea) X.env) _ _ _
    refine wpAny_looks_onW (by rw [IX.ok.frames, hst]) hfrm fly' fun h1 hh1 up1 => ?_
    refine ⟨m, ⟨oC, es, ep, hh1.1 _ _ bC, hnsr⟩, fun h2 hs2 cenv hl hf => ?_⟩
    have hh2 := held_but bC hh1 hs2
    refine flight_same (by rw [hf, hfrm]) hh2 fun h3 hh3 kp3' => ?_
    have zC : X.s₀.heap.objs.size ≤ s₃.heap.objs.size := I3.sz
    have neC : ∀ b o, X.s₀.heap.get? b = some o → b ≠ s₃.heap.objs.size := fun b o e z => absurd (Heap.lt_size e) (Nat.not_lt.mpr (by rw [z]; exact zC))
    have nfs : ∀ b, b ∉ frs X.stack → b ∉ X.fs := fun b nb z => nb (by rw [hst]; exact frs_tail z)
    have inB : ∀ b o, X.s₀.heap.get? b = some o → X.H₀ b = none → b ∉ frs X.stack → B.get? b = some o := fun b o e n nb =>
      O.keep b o (IX.base.keep b o e n (nfs b nb) (by rw [hex]; simp)) (IX.base.free b o e n (by rw [hex]; simp)) nb
    have hid : ∀ b o, b ≠ s₃.heap.objs.size → B.get? b = some o → (PySem.W.hideAll B [s₃.heap.objs.size]).get? b = some o := fun b o nb q => PySem.W.hideAll_get _ q (by simpa using nb)
    have kp : ∀ b o, X.s₀.heap.get? b = some o → X.H₀ b = none → b ∉ frs X.stack → (PySem.W.hideAll B [s₃.heap.objs.size]).get? b = some o := fun b o e n nb => hid b o (neC b o e) (inB b o e n nb)
    have th : ∀ b o, X.s₀.heap.get? b = some o → b ∉ frs X.stack → ∃ o', (PySem.W.hideAll B [s₃.heap.objs.size]).get? b = some o' := fun b o e nb => by
      obtain ⟨o1, e1⟩ := IX.base.there b o e (by rw [hex]; simp)
      obtain ⟨o2, e2⟩ := O.th b o1 e1 nb
      exact ⟨o2, hid b o2 (neC b o e) e2⟩
    have sl : ∀ b o, X.s₀.heap.get? b = some o → X.H₀ b = none → b ∈ frs X.stack → ∃ z, h3.get? b = some { o with slots := z } := fun b o e n hb => by
      have hb' : b ∈ X.fs := by
        rw [hst] at hb
        rcases frs_cons hb with z | z
        · rw [hfrm] at z; cases z
          exact absurd (Heap.lt_size e) (Nat.not_lt.mpr IX.ok.above)
        · exact z
      obtain ⟨z1, e1⟩ := IX.base.slot b o e n hb' (by rw [hex]; simp)
      obtain ⟨z2, e2⟩ := O.un.slot b _ e1 (IX.base.free b o e n (by rw [hex]; simp)) hb (by simp)
      obtain ⟨_, o', ho', nf⟩ := fly.2.2.1.mem hb
      rw [e2] at ho'; cases ho'
      obtain ⟨z3, e3⟩ := up1 b _ e2 nf
      exact ⟨z3, kp3' b _ ((hs2.2 b (neC b o e)).trans e3) nf⟩
    refine W.held X.env.locals ea _ H7 _ hfrm ⟨O.os.trans IX.os, O.bare, ⟨fun b o e n nb _ => hh3.1 b o (kp b o e n nb), fun b o e n hb _ => sl b o e n hb, fun b o e n nx => ?_, fun b o e nx => ?_, fun b xs q => O.un.tups b xs (IX.base.tups b xs q), fun b o v q => O.un.frzs b o v (IX.base.frzs b o v q), fun b ps q => ?_⟩, ⟨t, by rw [hst]; exact hh3⟩, fun a o e => ?_, kp, th⟩ ?_
    · obtain ⟨o', e1⟩ := IX.base.there b o e (by rw [hex]; simp)
      exact O.un.free b o' e1 (IX.base.free b o e n (by rw [hex]; simp)) (by simp)
    · by_cases hb : b ∈ frs X.stack
      · have hb' : b ∈ X.fs := by
          rw [hst] at hb
          rcases frs_cons hb with z | z
          · rw [hfrm] at z; cases z
            exact absurd (Heap.lt_size e) (Nat.not_lt.mpr IX.ok.above)
          · exact z
        obtain ⟨z, hz⟩ := sl b o e (IX.ok.frf b hb') hb; exact ⟨_, hz⟩
      · obtain ⟨o', ho'⟩ := th b o e hb; exact ⟨o', hh3.1 b o' ho'⟩
    · obtain ⟨m1, e1⟩ := IX.base.tbls b ps q
      obtain ⟨m2, e2⟩ := O.un.tbls b _ e1
      exact ⟨m1 ++ m2, by rw [e2, Array.append_assoc]⟩
    · have cn : H7 s₃.heap.objs.size = none := O.un.free _ oC hoC I6.free (by simp)
      refine (O.hok a o e).stay (fun b u hb q => hid b u (fun z => ?_) q) (fun _ q => q) fun _ _ q => q
      subst z
      rcases hb with hb | hb
      · rw [← hb, cn] at e; cases e
      · rw [cn] at hb; cases hb
    · obtain ⟨δ2, σ2, G2', R2'⟩ := hrel Rr
      exact ⟨δ2, σ2, G2', R2', trivial⟩
  have loop : ∀ s₄ : Shared, s₄ = { s₃ with heap := h₁, toks := s₃.toks } →
      codeAny (model X.prog X.w) X.A (.compLoop (.ListComp elt [⟨target, iter, [], 0⟩] scope pos) 0 (.ref it) (.ref D₀) (compEnvC scope cl s₃.heap.objs.size X.env)) (compErr (model X.prog X.w) X.A X.xe s₃.heap.objs.size X.env.frame) s₄ := by
    rintro s₄ rfl
    refine compLoop_err (fun m s => ∃ (i : Nat) (H : Hp) (G : Hp) (ws : List V), i ≤ jr ∧ m = items.length - i ∧ Inv (cxComp X N' scope cl s₃.heap.objs.size fp s₃ H3) [] (σ ++ List.replicate k none) H s ∧ tn i s.heap ∧ (∀ b ∈ fp, H b = none) ∧
      Rel X.K n δ1 σ G (del H D₀) ∧ Same H2 H ∧ Same G2 G ∧ H D₀ = some (.lst ws) ∧ G D₀ = none ∧ ws.length = i) ?_ items.length
      ⟨0, H3, G2, [], Nat.zero_le _, rfl, I4, tn3 _ hk3, fun b hb => (f3 b hb).1, own3, kp3, Same.refl _, hD3, gD3, rfl⟩
    rintro m s5 ⟨i, H5, G5, ws, hi', rfl, I5, st5, fr5, R5', kp5, sG5, hD5, gD5, dl5⟩
    have R5 := R5'.undel hD5
    have hlt : i < items.length := by omega
    refine thn (T.item (cxComp X N' scope cl s₃.heap.objs.size fp s₃ H3) rfl rfl rfl hc i [] s5 _ H5 _ I5 (fpok fr5) st5 (j2.go i G5 H5 sG5 R5.sub kp5 hlt)) fun r s6 ⟨u, hr, h6⟩ => ?_
    subst hr
    refine thn h6 fun _ s7 ⟨x, H7, I7, rx, y7, st7, fr7⟩ => ?_
    obtain ⟨G7, d, e7, hd, dx⟩ := j2.yl i G5 H5 x H7 sG5 R5.sub kp5 hlt y7
    have R7 := R5.ext e7
    have Rin := R7.inner k
    have I7' := I7.pinned (fpok fr7) (T.obj _ _ st7)
    have gD7 : ∀ {G' H' : Hp}, Ext G7 H7 G' H' → G' D₀ = none := fun {G' H'} e => by
      cases q : G' D₀ with
      | none => rfl
      | some o =>
        have z := (e7.trans e).fr D₀ o q gD5
        rw [hD5] at z; cases z
    have keep : ∀ {σ' : L2.St} {H' : Hp} {s' : Shared}, Inv (cxComp X N' scope cl s₃.heap.objs.size fp s₃ H3) ([] ++ pinsAt fp s7.heap) σ' H' s' → tn (i + 1) s'.heap ∧ (∀ b ∈ fp, H' b = none) ∧ Inv (cxComp X N' scope cl s₃.heap.objs.size fp s₃ H3) [] (σ ++ List.replicate k none) H' s' := fun {σ' H' s'} J' => by
      refine ⟨T.keep _ _ _ st7 fun b hb o e => (J'.pin (b, o) (List.mem_append_right _ (List.mem_append_right _ (mem_pinsAt hb e)))).1, fun b hb => ?_, reset J'.unpinned⟩
      obtain ⟨o, e, _⟩ := T.obj _ _ st7 b hb
      exact (J'.pin (b, o) (List.mem_append_right _ (List.mem_append_right _ (mem_pinsAt hb e)))).2.1
    by_cases hij : i = jr
    ·
      subst hij
      rw [hjr] at hd; cases hd
      refine thn (hG _ s7 _ H7 x u (fun σ8 H8 => H8 = H7 ∧ ∃ δ8, Rel X.K ⟨G7, H7, fun _ => False⟩ δ8 σ8 G7 H7 ∧ re δ8) I7' rx ⟨_, _, G7, dr, _, Rin, dx, hRr, fun δ8 σ8 R8 q8 => ⟨rfl, δ8, R8, q8⟩⟩) fun _ s8 ⟨σ8, H8, I8, e8, δ8, R8, q8⟩ => ?_
      subst e8
      have W7 : Wish (cxX (cxComp X N' scope cl s₃.heap.objs.size fp s₃ H3) (Passed X (cxComp X N' scope cl s₃.heap.objs.size fp s₃ H3) ⟨G7, H8, fun _ => False⟩ Cc)) ⟨G7, H8, fun _ => False⟩ Cc (fun _ => True) :=
        ⟨fun pins σ H s ea B H' s' I O ⟨δ', σ', G', R', _⟩ => ⟨ea, pins, σ, H, s, B, H', rfl, inv_ex I, O, δ', σ', G', R'⟩⟩
      refine wpAny_mono (hR _ _ W7 _ s8 σ8 H8 (fun _ _ => False) (inv_xe I8) ⟨δ8, G7, R8, q8⟩) (fun _ _ ⟨_, _, _, _, z⟩ => z.elim) fun x' s' hx => out ⟨G7, H8, fun _ => False⟩ (fun {δ' σ' G' H'} Rr => ⟨δ1, σ, G', R7.ext Rr.toExt⟩) x' s' hx
    · have hij' : i < jr := by omega
      have hm : d ∈ items.take jr := List.mem_iff_getElem?.mpr ⟨i, by rw [List.getElem?_take_of_lt hij']; exact hd⟩
      refine thn (hG _ s7 _ H7 x u (fun σ8 H8 => H8 = H7 ∧ ∃ δ8, Rel X.K ⟨G7, H7, fun _ => False⟩ δ8 σ8 G7 H7 ∧ te δ8 fun y _ => F d = some y) I7' rx ⟨_, _, G7, d, _, Rin, dx, hF d hm, fun δ8 σ8 R8 q8 => ⟨rfl, δ8, R8, q8⟩⟩) fun _ s8 ⟨σ8, H8, I8, e8, δ8, R8, q8⟩ => ?_
      subst e8
      refine wpAny_mono (hE _ s8 σ8 H8 (fun v H10 => ∃ G10 y, (∃ δ10, Rel X.K ⟨G7, H8, fun _ => False⟩ δ10 σ8 G10 H10) ∧ Den X.K G10 v y) I8 ⟨_, δ8, G7, _, R8, q8, fun v G10 H10 y δ10 R10 _ d10 _ => ⟨G10, y, ⟨δ10, R10⟩, d10⟩⟩) (fun xv s10 ⟨v, H10, I10, rv, G10, y, ⟨δ10, R10⟩, dv⟩ => ?_) fun _ _ z => False.elim z
      have e10 := R10.toExt
      have hD10 : H10 D₀ = some (.lst ws) := e10.hh _ _ (e7.hh _ _ hD5)
      refine thn (mt_append (X := cxComp X N' scope cl s₃.heap.objs.size fp s₃ H3) _ s10 σ8 H10 (.ref D₀) [v] (.ref D₀) [xv] (fun _ H' => H' = upd H10 D₀ (.lst (ws ++ [v]))) I10 rfl (.cons rv .nil) ⟨D₀, ws, v, rfl, rfl, hD10, by omega, rfl⟩) fun _ s11 ⟨_, H11, I11, _, e11⟩ => ?_
      subst e11
      obtain ⟨k1, k2, k3⟩ := keep I11
      exact ⟨items.length - (i + 1), by omega, i + 1, _, G10, ws ++ [v], by omega, rfl, k3, k1, k2, (by rw [del_upd]; exact R5'.ext ((e7.trans e10).del (gD7 e10))), (fun b o z => by rw [upd_ne (ne_of_none z hD)]; exact (kp5.trans (e7.trans e10).hh) b o z), sG5.trans (e7.gg.trans e10.gg), upd_same, gD7 e10, by simp [dl5]⟩
  rw [es4]
  exact codeAny_compStart_list (loop _ rfl) (T.self _ 0 _ _ _ (tn3 _ hk3) (loop _ rfl))
end Dl
namespace Dl
open PySem PySem.Spec PyProof.Rows L2
section
variable {X : Cx} {n : En} {C : Addr} {e : Expr} {es : List Expr} {r r1 r2 : Ev → Prop} {pos p : Pos}
theorem re_or (h1 : RE X n e r1) (h2 : RE X n e r2) : RE X n e (fun δ => r1 δ ∨ r2 δ) := fun pins s σ H Q I ⟨δ, G, R, h⟩ => by
  rcases h with h | h
  · exact h1 pins s σ H Q I ⟨δ, G, R, h⟩
  · exact h2 pins s σ H Q I ⟨δ, G, R, h⟩
theorem re_compI {elt iter target : Expr} {ifs : List Expr} {scope : Scope} (he : RE X n iter r) : RE X n (.ListComp elt [⟨target, iter, ifs, 0⟩] scope pos) r := by
  rintro pins s σ H Q I q
  rw [eval_ListComp]
  unfold comprehension
  exact wpAny_bind (wpAny_mono (he pins s σ H (fun _ _ => False) I q) (fun _ _ ⟨_, _, _, _, z⟩ => z.elim) fun _ _ z => z)
theorem re_callTy {x : Str} {T : String} (hm : X.mg x = none) (hv : bootBuiltins x = some (.type T)) (ha : RA X n (e :: es) r) (hg : Gl X x := by rfl) (hn : x ≠ "__name__" := by decide) (hdb : (x == ("__debug__" : Str)) = false := by decide)
    (he : starEach (e :: es) X.env = (false, eval e X.env) :: starEach es X.env := by rfl) (hpl : (backTo pos (starEach es X.env)).any (·.1) = false := by rfl) : RE X n (.Call (.Name x p) (e :: es) [] pos) r :=
  pe_imp (pe_callTy (r := fun _ _ _ => False) (fun _ _ _ _ _ _ _ _ _ z => z.elim) hg hm hv ha hn hdb he hpl) fun _ _ _ z => z
theorem re_compK {elt iter target : Expr} {scope : Scope} (N' : List Str) (k : Nat) {ti : TId} {g : TGd} {te : TEd} {re : Ev → Prop} {Cc : Addr} (hc : X.calm = true) (hst : X.stack = X.env :: X.outer) (hfrm : X.env.frame = some X.env.locals) (hex : X.ex = [])
    (W : WishH X n Cc (fun _ => True)) (hi : DI X target iter ti)
    (hb : ∀ (cl : List (Str × Addr)) (C : Addr) (ex : List Addr) (s : Shared) (H : Hp), DG (cxComp X N' scope cl C ex s H) target g ∧ DE (cxComp X N' scope cl C ex s H) elt te ∧
      ∀ (xe : Value → Shared → Prop) (n' : En), Wish (cxX (cxComp X N' scope cl C ex s H) xe) n' Cc (fun _ => True) → RE (cxX (cxComp X N' scope cl C ex s H) xe) n' elt re)
    (ok : compOk X.N X.env.scope N' scope k = true) (hs : ∀ x, foldedSetIterable iter X.env x = pure x := by intro _; rfl) : RE X n (.ListComp elt [⟨target, iter, [], 0⟩] scope pos) (rComp k ti g te re) := by
  unfold compOk at ok
  simp only [Bool.and_eq_true, List.all_eq_true, Bool.or_eq_true, bne_iff_ne, ne_eq, beq_iff_eq] at ok
  obtain ⟨⟨⟨⟨⟨h1, h2⟩, h30⟩, h4⟩, h5⟩, h6⟩ := ok
  have h3 : ∀ x, (x, NameKind.free) ∈ scope.names → (x, NameKind.cell) ∉ scope.names := fun x hx hc => by
    have z := (h30 _ hx).resolve_left fun z => z rfl
    have w : (scope.names.any fun z => z.1 == x && z.2 == .cell) = true := List.any_eq_true.mpr ⟨_, hc, by simp⟩
    rw [w] at z; cases z
  rintro pins s σ H Q I ⟨δ, G, R, h⟩
  rw [eval_ListComp]
  refine comp_err k hc hst hfrm hex W (di_h hi) hb (by cases q : scope.kind <;> rw [q] at h1 <;> first | rfl | cases h1) (fun y hy hl => (h2 y hy).resolve_left fun z => z hl) h3 h4 (fun i x e hi hv => ?_) (fun x hx hf => (h5 x hx).resolve_left fun z => z hf) hs I R h
  have h6' := h6 i (List.mem_range.mpr hi)
  rw [e] at h6'
  dsimp only at h6'
  have hv' : ∃ kd, scope.names.lookup x = some kd ∧ (kd = .local ∨ kd = .cell ∨ kd = .free) := by
    have kin : (relabel scope X.env).names.lookup x = _ := lookup_relabel
    unfold Vis at hv
    rw [kin] at hv
    cases q : scope.names.lookup x with
    | none => rw [q] at hv; simp at hv
    | some kd =>
      refine ⟨kd, rfl, ?_⟩
      rw [q] at hv
      cases kd <;> simp at hv ⊢
  obtain ⟨kd, hk, hkd⟩ := hv'
  rw [hk] at h6'
  rcases hkd with rfl | rfl | rfl
  · simp at h6'
  · simp at h6'
  · have e1 : X.N[i]? = some x := by simpa using h6'
    exact ⟨e1, hk, (h5 _ (mem_of_look hk)).resolve_left fun z => z rfl⟩
end
section
variable {P : Program} {w : World} {K : PySem.W.Frag} {mg : Str → Option Value} {base : Heap}
theorem fnRH {x qual : Str} {st : Stmt} {f C : Addr} {fd : FuncData} {N ps : List Str} {k : Nat} {S : List D → Prop} (F : Fun K x qual st f fd) (Sc : FnScope N ps (defScope st)) (len : ∀ ds, S ds → ds.length = ps.length)
    (hbody : ∀ (cdv : Value) (A : Around) (outer : List Env) (s : Shared) (H : Hp) (E : XK) (n : En), Room k (A.deeper (envOfC qual (defScope st) s.heap.objs.size f cdv)) → Wish (cxOf (CXE P w) P w K mg base N qual (defScope st) f cdv A outer s H E) n C (fun _ => True) → WishH (cxOf (CXE P w) P w K mg base N qual (defScope st) f cdv A outer s H E) n C (fun _ => True) →
      ∃ r, RSs (cxOf (CXE P w) P w K mg base N qual (defScope st) f cdv A outer s H E) n (defBody st) r ∧ ∀ ds, S ds → r (startD N ds)) : FnOk P w K mg base (CXE P w) (k + 1) f fd ps (spR K C S) := by
  obtain ⟨oc, od, kV, doc, pm, an, cdv, ct, osl, rfl, lk, hcd⟩ := F.ex
  refine fn_of lk hcd Sc (fun vs H Q E ⟨G, ds, _, dn, h, _⟩ => by rw [dn.length]; exact len ds h) fun A outer s H vs Q E hr ⟨G, ds, sub, dn, h, hE⟩ => ?_
  have W : Wish (cxOf (CXE P w) P w K mg base N qual (defScope st) f cdv A outer s H E) ⟨G, H, fun _ => False⟩ C (fun _ => True) := ⟨fun pins σ H1 s1 ea B H' s' I O ⟨δ', σ', G', R, _⟩ => leave_next I rfl rfl rfl O fun s'' O' => ⟨ea, C, B, H', rfl, O', hE G' H' R.toExt⟩⟩
  have WH : WishH (cxOf (CXE P w) P w K mg base N qual (defScope st) f cdv A outer s H E) ⟨G, H, fun _ => False⟩ C (fun _ => True) := ⟨fun L ea B H' s' hL O ⟨δ', σ', G', R, _⟩ => leave_held rfl hL (by cases hL; exact Nat.le_refl _) O fun s'' O' => ⟨ea, C, B, H', rfl, O', hE G' H' R.toExt⟩⟩
  obtain ⟨r, hr1, hr2⟩ := hbody cdv A outer s H E ⟨G, H, fun _ => False⟩ hr W WH
  exact ⟨_, hr1, startD N ds, G, rel_start (N := N) sub dn, hr2 ds h⟩
end
noncomputable def onlyPt (len i ea : Nat) : Ev := (List.replicate len Sl.no).set i (.pt ea)
theorem rel_only {K : PySem.W.Frag} {G H : Hp} {ea i : Nat} {σ : L2.St} (hσ : σ[i]? = some (some (.ref ea))) (s : Same G H) : Rel K ⟨G, H, fun _ => False⟩ (onlyPt σ.length i ea) σ G H := by
  refine ⟨s, Same.refl _, fun b o e _ => e, fun b e => e, fun b o e (e0 : G b = none) => (by rw [e0] at e; cases e), ⟨fun _ => none, ⟨fun _ _ z => by cases z⟩, fun j sl hs => ?_⟩, by simp [onlyPt]⟩
  unfold onlyPt at hs
  by_cases hj : j = i
  · subst hj
    have hl : j < σ.length := (List.getElem?_eq_some_iff.mp hσ).1
    rw [List.getElem?_set_self (by simpa using hl)] at hs
    cases hs; exact hσ
  · rw [List.getElem?_set_ne (fun z => hj z.symm), List.getElem?_replicate] at hs
    split at hs
    · cases hs; trivial
    · cases hs
noncomputable abbrev cxS (Y : Cx) (ea : Addr) (oe : Obj) : Cx := markX (pinX Y ((ea, oe) :: Y.pn) Y.xe) ea
theorem suite_in {Y : Cx} {C : Addr} {i : Nat} {d : D} {sts : List Stmt} (hbody : ∀ (ea : Addr) (oe : Obj), oe.cls = .ref C → ∃ t, DSs (cxS Y ea oe) sts t ∧ t { nx := fun _ => False, rt := fun d' _ => d' = d } (onlyPt Y.N.length i ea)) : SuiteOk Y i C sts d := by
  intro ea oe pins σ H G s hcls hG I hσ
  have I0 : Inv (cxS Y ea oe) pins σ H s := ⟨⟨I.ok.mod, I.ok.kind, I.ok.glob, I.ok.blt, I.ok.above, I.ok.inj, I.ok.has, I.ok.cab, I.ok.hd, I.ok.frames, I.ok.stk, I.ok.exf, I.ok.bs, I.ok.bsz, I.ok.noex, I.ok.exfs, I.ok.funs, I.ok.frf⟩, I.os, I.bare, I.base, I.loc, I.cell, I.free, I.freeC, fun z hz => I.pin z (by
    rcases List.mem_append.mp hz with hz | hz
    · rcases List.mem_cons.mp hz with rfl | hz
      · exact List.mem_append_right _ List.mem_cons_self
      · exact List.mem_append_left _ hz
    · exact List.mem_append_right _ (List.mem_cons_of_mem _ hz)), I.hok, I.len⟩
  obtain ⟨t, ht, hq⟩ := hbody ea oe hcls
  have R0 := rel_only (K := Y.K) hσ hG
  rw [I.len] at R0
  refine wpAny_mono (ht pins s σ H ⟨fun _ _ => False, fun v H' => ∃ G', Ext G H G' H' ∧ Den Y.K G' v d, fun _ _ => False, fun _ _ => False⟩ I0 ⟨_, _, G, _, R0, hq, ⟨fun _ _ _ _ _ z => z, fun v d' δ σ' G' H' R' dv ed => by subst ed; exact ⟨G', R'.toExt, dv⟩, fun _ _ _ _ _ z => z, fun _ _ _ _ _ z => z⟩⟩) (fun f s4 hs => ?_) fun _ _ z => z
  cases f with
  | ret u =>
    obtain ⟨v, σ', H', J, rv, G', e4, d4⟩ := hs
    refine ⟨u, v, σ', H', G', rfl, rv, ⟨⟨J.ok.mod, J.ok.kind, J.ok.glob, J.ok.blt, J.ok.above, J.ok.inj, J.ok.has, J.ok.cab, J.ok.hd, J.ok.frames, J.ok.stk, J.ok.exf, J.ok.bs, J.ok.bsz, J.ok.noex, J.ok.exfs, J.ok.funs, J.ok.frf⟩, J.os, J.bare, J.base, J.loc, J.cell, J.free, J.freeC, fun z hz => J.pin z ?_, J.hok, J.len⟩, e4, d4⟩
    rcases List.mem_append.mp hz with hz | hz
    · exact List.mem_append_left _ (List.mem_cons_of_mem _ hz)
    · exact List.mem_append_right _ hz
  | next => obtain ⟨_, _, _, q⟩ := hs; exact q.elim
  | brk => obtain ⟨_, _, _, q⟩ := hs; exact q.elim
  | cont => obtain ⟨_, _, _, q⟩ := hs; exact q.elim
end Dl
namespace Dl
open PySem PySem.Spec PyProof.Rows L2
noncomputable def rNinT : RD := fun d e Q => match d, e with
  | .str y, .str z => Q (.bl (!(Txt.contains z y)))
  | _, _ => False
section
variable {X : Cx} {a b : Expr} {ta tb : TEd} {pos : Pos}
theorem op_ninT : OpR X (compareOp .NotIn) (fun v u H Q => ∃ y z, v = .str y ∧ u = .str z ∧ Q (.bl (!(Txt.contains z y))) H) := by
  rintro pins s σ H x y v u Q I rx ry ⟨a, b, rfl, rfl, q⟩
  obtain ⟨t, rfl⟩ := rx
  obtain ⟨t2, rfl⟩ := ry
  exact notIn_str ⟨.bl _, H, I, rfl, q⟩
theorem cs_ninT {K : PySem.W.Frag} : ∀ (G H : Hp) (v u : V) (dv du : D) (Q : D → Prop) (Q2 : VK), Same G H → Den K G v dv → Den K G u du → rNinT dv du Q → (∀ (w : V) (G' H' : Hp) (d : D), Ext G H G' H' → Den K G' w d → Q d → Q2 w H') → ∃ y z, v = .str y ∧ u = .str z ∧ Q2 (.bl (!(Txt.contains z y))) H := fun G H v u dv du Q Q2 s hv hu h k => by
  unfold rNinT at h
  split at h
  · cases hv.str_inv; cases hu.str_inv; exact ⟨_, _, rfl, rfl, k _ G H _ (Ext.refl s) (.bl _) h⟩
  · exact h.elim
theorem dt_ninT (ha : DE X a ta) (hb : DE X b tb) (hm : behindInMarks .NotIn b = false := by first | exact nomark _ | rfl) : DT X (.Compare a [.NotIn] [b] pos) (dB (dOp rNinT ta tb)) := dt_cmp op_ninT cs_ninT ha hb hm
end
end Dl
namespace Dl
open PySem PySem.Spec PyProof.Rows L2
noncomputable def dRevL (te : TEd) : TEd := fun δ Q => te δ fun x δ1 => match x with
  | .lst l => Q (.lst l.reverse) δ1
  | _ => False
section
variable {X : Cx} {a : Expr} {ta : TEd} {p pos p2 cp : Pos} {j : Nat}
theorem vals_revL : ∀ {xs : List V} {us : List Value}, Vals xs us → Vals xs.reverse us.reverse
  | _, _, .nil => .nil
  | _, _, .cons h t => by rw [List.reverse_cons, List.reverse_cons]; exact (vals_revL t).append (.cons h .nil)
theorem DenL.revL {K : PySem.W.Frag} {G : Hp} : ∀ {vs : List V} {ds : List D}, DenL K G vs ds → DenL K G vs.reverse ds.reverse
  | _, _, .nil => .nil
  | _, _, .cons h t => by rw [List.reverse_cons, List.reverse_cons]; exact (DenL.revL t).append (.cons h .nil)
theorem pe_revL {te : TE} (he : PE X a te) : PE X (.Subscript a (.Slice none none (some (.UnaryOp .USub (.Constant (.int 1) j cp) p)) p2) pos) (fun σ H Q => te σ H fun x H1 => ∃ b xs, x = .ref b ∧ SqL X.K H1 b xs ∧ ∀ r, H1 r = none → Q (.ref r) (upd H1 r (.lst xs.reverse))) := by
  intro pins s σ H Q I h
  refine Subscript_ (thn (he pins s σ H _ I h) fun v s1 ⟨x, H1, I1, r1, b, xs, ex, hx, q⟩ => ?_)
  subst ex
  cases r1
  refine wpAny_Slice ?_
  rw [evalPart_none, evalPart_some]
  refine wpAny_pure (wpAny_pure ?_)
  have hn : PE X (.UnaryOp .USub (.Constant (.int 1) j cp) p) (tUn (rU fun i => .int (-i)) (tC (.int 1))) := pe_un un_neg pe_int
  refine thn (hn pins s1 σ H1 (fun v H2 => v = .int (-1) ∧ H2 = H1) I1 ⟨1, rfl, rfl, rfl⟩) fun st s3 ⟨v3, H3, I3, r3, e3, eH⟩ => ?_
  subst e3 eH
  obtain ⟨u, rfl⟩ := r3
  have I2 := I3.kept (t' := s3.toks) (h' := s3.heap.push { cls := .type "slice", data := .fields #[.none, .none, .int (-1) u] }) fun b ob q => Heap.get?_push_of_some _ q
  obtain ⟨its, r, ht, hz⟩ := I2.list hx
  have hl := r.length
  refine tail_any (ops := [.ref b, .ref s3.heap.objs.size]) ht.isList.typeIs slot_list_getitem.lookup (wpAny_getItem_list_slice ht.isList (Heap.IsSliceOf.new ..) .none .none (.int _ _) (by decide) ?_ (by rw [List.size_toArray, ← hl]; exact hz)) (by with_unfolding_all rfl)
  rw [PySem.W.krv_pick]
  exact ⟨.ref _, _, I2.lnew (t' := s3.toks) (vals_revL r) (by rw [List.length_reverse]; exact hz), rfl, q _ I2.fresh⟩
theorem de_revL (he : DE X a ta) : DE X (.Subscript a (.Slice none none (some (.UnaryOp .USub (.Constant (.int 1) j cp) p)) p2) pos) (dRevL ta) :=
  pe_imp (pe_revL he) fun σ H Q2 hx => hx.el fun n δ G Q R h k => ⟨n, δ, G, _, R, h, fun v G1 H1 d δ1 R1 s1 d1 h1 => by
    cases d with
    | lst l =>
      obtain ⟨b, vs, rfl, hq, hl⟩ := d1.lst_inv
      exact ⟨b, vs, rfl, R1.sub.seq hq, fun r hr => k _ _ _ _ δ1 (R1.laid hr _) (s1.trans (same_upd (R1.sub.free hr) _)) (.lst (SqL.of upd_same) ((DenL.revL hl).up (same_upd (R1.sub.free hr) _))) h1⟩
    | _ => exact h1.elim⟩
end
end Dl
local macro_rules | `(tactic| simp! only [$as,*] $[$loc]?) => `(tactic| simp only [$as,*, Dl.rNinT, Dl.onlyPt, Dl.dRevL, Dl.dJoin, Dl.dJoinR, Dl.dZf, Dl.dSplit, Dl.dSw, Dl.rInT, Dl.cIntT, Dl.cLenT, Dl.dSlT, Dl.jNil, Dl.jCons, Dl.dFmt, List.tail_cons, List.head?_cons, eq_self, decide_true, Bool.and_self, and_self, Dl.dSeq, Dl.dNext, Dl.dIfS, Dl.dB, Dl.dOp, Dl.dVar, Dl.dC, Dl.dLst, Dl.dNil, Dl.dCons, Dl.dRet, Dl.dCall, Dl.cLen, Dl.dSet, Dl.dOwn, Dl.dFrz, Dl.dApp, Dl.dAnd, Dl.dOr, Dl.dNot, Dl.dAndV, Dl.dIf, Dl.dNever, Dl.truD, Dl.rAddD, Dl.rII, Dl.rIC, Dl.rIxD, Dl.rEqD, Dl.rNeD, Dl.rIsN, Dl.dPart, Dl.dNoPart, Dl.dUn, Dl.rNegD, Dl.dChain, Dl.gdTup2, Dl.dSlG, Dl.cAll, Dl.diEnum, Dl.dSign, Dl.cStrI, Dl.atS_int, Dl.dYes, Dl.dropOw, Dl.diRange1, Dl.gdName, Dl.startD, List.map_cons, List.map_nil, List.length_cons, List.length_nil, List.cons_append, List.nil_append, List.replicate_zero, List.replicate_succ, Nat.reduceAdd, Nat.reduceSub, List.getElem?_cons_zero, List.getElem?_cons_succ, List.set_cons_zero, List.set_cons_succ, Bool.not_true, Bool.not_false, if_true, if_false, ite_true, ite_false, reduceCtorEq, Bool.false_eq_true, Dl.rF, Dl.cLenF, Dl.diSeqF, Dl.dTruF, Option.some.injEq, Dl.eqD_non_non, Dl.eqD_non_bl, Dl.eqD_non_int, Dl.eqD_non_str, Dl.eqD_non_tup, Dl.eqD_non_lst, Dl.eqD_bl_non, Dl.eqD_bl_bl, Dl.eqD_bl_int, Dl.eqD_bl_str, Dl.eqD_bl_tup, Dl.eqD_bl_lst, Dl.eqD_int_non, Dl.eqD_int_bl, Dl.eqD_int_int, Dl.eqD_int_str, Dl.eqD_int_tup, Dl.eqD_int_lst, Dl.eqD_str_non, Dl.eqD_str_bl, Dl.eqD_str_int, Dl.eqD_str_str, Dl.eqD_str_tup, Dl.eqD_str_lst, Dl.eqD_tup_non, Dl.eqD_tup_bl, Dl.eqD_tup_int, Dl.eqD_tup_str, Dl.eqD_tup_tup, Dl.eqD_tup_lst, Dl.eqD_lst_non, Dl.eqD_lst_bl, Dl.eqD_lst_int, Dl.eqD_lst_str, Dl.eqD_lst_tup, Dl.eqD_lst_lst, Dl.eqDL_nil_nil, Dl.eqDL_nil_cons, Dl.eqDL_cons_nil, Dl.eqDL_cons_cons, Dl.isNonD_non, Dl.isNonD_int, Dl.isNonD_bl, Dl.isNonD_str, Dl.isNonD_tup, Dl.isNonD_lst, Dl.addF_int, Dl.addF_tup, Dl.addF_lst, Dl.addF_str, Dl.ixF_tup, Dl.ixF_lst, Dl.seqF_tup, Dl.seqF_lst, Dl.lstF_lst, Dl.truF_non, Dl.truF_bl, Dl.truF_int, Dl.truF_tup, Dl.truF_lst, Dl.slF_lst, Dl.slF_tup, exists_eq_left', Dl.atI_0, Dl.atI_1, Dl.atI_2, Dl.atI_3, Dl.atI_4, Dl.atI_5, false_and, exists_false, decide_eq_true_eq, Bool.not_eq_true, true_and, and_true, Bool.true_and, Bool.false_and, Bool.and_true, Bool.and_false, Dl.okEq_non_non, Dl.okEq_non_bl, Dl.okEq_non_int, Dl.okEq_bl_non, Dl.okEq_bl_bl, Dl.okEq_bl_int, Dl.okEq_int_non, Dl.okEq_int_bl, Dl.okEq_int_int, beq_iff_eq, beq_self_eq_true, beq_eq_false_iff_ne, Bool.not_eq_true', ne_eq, ite_not, decide_eq_false_iff_not, Dl.sz0, Dl.sz1, Dl.sz2, Dl.sz3, Dl.sz4, Dl.sz5, Dl.sz6, Dl.sz7, Dl.sz8, Dl.sz9, Dl.sz10, Dl.sz11, Dl.sz12, Dl.sz13, Dl.sz14, Dl.sz15, Dl.sz16, Dl.sz17, Dl.sz18, Dl.sz19, Dl.sz20, Dl.sz21, Dl.sz22, Dl.sz23, Dl.sz24, Dl.sz25, Dl.sz26, Dl.sz27, Dl.sz28, Dl.sz29, Dl.sz30] $[$loc]?)
namespace Law
open PySem L2 Dl
theorem okL_ints : ∀ ns : List Int, D.okL (ns.map D.int) = true
  | [] => rfl
  | _ :: r => okL_ints r
theorem depL_ints : ∀ ns : List Int, D.depL (ns.map D.int) = 0
  | [] => rfl
  | _ :: r => by show max 0 (D.depL (r.map D.int)) = 0; rw [depL_ints r]; rfl
theorem atI_map {α : Type} {xs : List α} {i : Int} (f : α → D) (h0 : 0 ≤ i) (h1 : i < xs.length) : atI (xs.map f) i = some (f (xs[i.toNat]'(by omega))) := by
  have e : i = ((i.toNat : Nat) : Int) := by omega
  have q : atI (xs.map f) ((i.toNat : Nat) : Int) = some (f (xs[i.toNat]'(by omega))) := atI_nat (by rw [List.getElem?_map, List.getElem?_eq_getElem (by omega)]; rfl)
  rw [← e] at q
  exact q
noncomputable def cell (ns : List Int) (k : Int) : Int := if ns = [] then 7 * k else ns.getD (k % ns.length).toNat 0 + 6553 * (k / ns.length)
noncomputable def drawn (ns : List Int) (k m : Int) : Int :=
  (((cell ns k % 2147483563 * 69069 + 104723 * (k + 1)) % 2147483563 * ((cell ns k % 2147483563 * 69069 + 104723 * (k + 1)) % 2147483563) + (cell ns k % 2147483563 * 69069 + 104723 * (k + 1)) % 2147483563 / 3) % 2147483399 *
    (((cell ns k % 2147483563 * 69069 + 104723 * (k + 1)) % 2147483563 * ((cell ns k % 2147483563 * 69069 + 104723 * (k + 1)) % 2147483563) + (cell ns k % 2147483563 * 69069 + 104723 * (k + 1)) % 2147483563 / 3) % 2147483399) +
    ((cell ns k % 2147483563 * 69069 + 104723 * (k + 1)) % 2147483563 * ((cell ns k % 2147483563 * 69069 + 104723 * (k + 1)) % 2147483563) + (cell ns k % 2147483563 * 69069 + 104723 * (k + 1)) % 2147483563 / 3) % 2147483399 / 7) % 2147483647 / 11 % m
theorem drawn_lo {ns : List Int} {k m : Int} (hm : 0 < m) : 0 ≤ drawn ns k m := Int.emod_nonneg _ (by omega)
theorem drawn_hi {ns : List Int} {k m : Int} (hm : 0 < m) : drawn ns k m < m := Int.emod_lt_of_pos _ hm
noncomputable abbrev scr (ns : List Int) : D := .lst (ns.map D.int)
noncomputable def S_law_cell : SpD := fun ds Q => ∃ (ns : List Int) (k : Int), ds = [scr ns, .int k] ∧ ns.length ≤ 63 ∧ 0 ≤ k ∧ Q (.int (cell ns k))
theorem l_law_cell : ∀ ds Q, S_law_cell ds Q → ds.length = 2 := by rintro ds Q ⟨ns, k, rfl, _⟩; rfl
noncomputable def S_law_drawn : SpD := fun ds Q => ∃ (ns : List Int) (k m : Int), ds = [scr ns, .int k, .int m] ∧ ns.length ≤ 63 ∧ 0 ≤ k ∧ 0 < m ∧ Q (.int (drawn ns k m))
theorem l_law_drawn : ∀ ds Q, S_law_drawn ds Q → ds.length = 3 := by rintro ds Q ⟨ns, k, m, rfl, _⟩; rfl
noncomputable def t_law_cell : TSd := dSeq (dIfS (dB (dOp rEqD ((dVar 0)) ((dLst (dNil))))) (dRet ((dOp (rIC CMul fun i j => .int (i * j)) (dC (.int 7)) ((dVar 1))))) (dNext)) (dRet ((dOp (rF addF) ((dOp (rF ixF) ((dVar 0)) ((dOp (rIC (fun _ j => 0 < j) fun i j => .int (i % j)) ((dVar 1)) ((dCall cLenF ((dCons ((dVar 0)) (dNil))))))))) ((dOp (rIC CMul fun i j => .int (i * j)) (dC (.int 6553)) ((dOp (rIC CDiv fun i j => .int (i / j)) ((dVar 1)) ((dCall cLenF ((dCons ((dVar 0)) (dNil))))))))))))
theorem r_law_cell : ∀ ds Q, S_law_cell ds Q → t_law_cell { nx := fun _ => Q .non, rt := fun d _ => Q d } (startD ["_law_script", "_law_k"] ds) := by
  rintro ds Q ⟨ns, k, rfl, hl, hk, q⟩
  have he : okEq (scr ns) (.lst []) := ⟨okL_ints ns, rfl, by show min _ 1 ≤ 60; omega⟩
  cases ns with
  | nil =>
    simp only [cell, if_true] at q
    simp! only [t_law_cell]
    exact ⟨he, .inl (by decide), q⟩
  | cons n r =>
    have hp : (0 : Int) < ((n :: r).length : Int) := by simp only [List.length_cons]; omega
    have h0 : 0 ≤ k % ((n :: r).length : Int) := Int.emod_nonneg _ (by omega)
    have h1 : k % ((n :: r).length : Int) < ((n :: r).length : Int) := Int.emod_lt_of_pos _ hp
    have e : atI ((n :: r).map D.int) (k % (((n :: r).map D.int).length : Int)) = some (.int ((n :: r).getD (k % ((n :: r).length : Int)).toNat 0)) := by
      rw [List.length_map, atI_map D.int h0 h1]
      rw [List.getD_eq_getElem?_getD, List.getElem?_eq_getElem (by omega)]
      rfl
    simp only [cell, if_neg (List.cons_ne_nil n r)] at q
    have hs : ((n :: r).length : Int) ≤ 63 := by omega
    simp! only [t_law_cell, List.length_map] at e q hs hp ⊢
    exact ⟨he, hp, _, e, ⟨hp, by omega⟩, .inl ⟨by decide, by decide⟩, _, rfl, q⟩
noncomputable def t_law_drawn : TSd := dSeq (dSet 3 ((dOp (rIC (fun _ j => 0 < j) fun i j => .int (i % j)) ((dOp (rF addF) ((dOp (rIC CMul fun i j => .int (i * j)) ((dOp (rIC (fun _ j => 0 < j) fun i j => .int (i % j)) ((dCall S_law_cell ((dCons ((dVar 0)) ((dCons ((dVar 1)) (dNil))))))) (dC (.int 2147483563)))) (dC (.int 69069)))) ((dOp (rIC CMul fun i j => .int (i * j)) (dC (.int 104723)) ((dOp (rF addF) ((dVar 1)) (dC (.int 1)))))))) (dC (.int 2147483563))))) (dSeq (dSet 3 ((dOp (rIC (fun _ j => 0 < j) fun i j => .int (i % j)) ((dOp (rF addF) ((dOp (rIC CMul fun i j => .int (i * j)) ((dVar 3)) ((dVar 3)))) ((dOp (rIC CDiv fun i j => .int (i / j)) ((dVar 3)) (dC (.int 3)))))) (dC (.int 2147483399))))) (dRet ((dOp (rIC (fun _ j => 0 < j) fun i j => .int (i % j)) ((dOp (rIC CDiv fun i j => .int (i / j)) ((dOp (rIC (fun _ j => 0 < j) fun i j => .int (i % j)) ((dOp (rF addF) ((dOp (rIC CMul fun i j => .int (i * j)) ((dVar 3)) ((dVar 3)))) ((dOp (rIC CDiv fun i j => .int (i / j)) ((dVar 3)) (dC (.int 7)))))) (dC (.int 2147483647)))) (dC (.int 11)))) ((dVar 2))))))
theorem mod_in {i m : Int} (h0 : 0 < m) (h1 : m < 2 ^ 64) : -(2 ^ 64) < i % m ∧ i % m < 2 ^ 64 := by
  have a := Int.emod_nonneg i (show m ≠ 0 by omega)
  have b := Int.emod_lt_of_pos i h0
  omega
theorem r_law_drawn : ∀ ds Q, S_law_drawn ds Q → t_law_drawn { nx := fun _ => Q .non, rt := fun d _ => Q d } (startD ["_law_script", "_law_k", "_law_many", "_law_cell_here"] ds) := by
  rintro ds Q ⟨ns, k, m, rfl, hl, hk, hm, q⟩
  simp! only [t_law_drawn]
  refine ⟨ns, k, rfl, hl, hk, by decide, .inl (mod_in (by decide) (by decide)), .inl ⟨by decide, by decide⟩, by decide, .inl (mod_in (by decide) (by decide)), ⟨by decide, by decide⟩, by decide,
    .inl (mod_in (by decide) (by decide)), ⟨by decide, by decide⟩, by decide, ⟨by decide, by decide⟩, hm, ?_⟩
  exact q
noncomputable def S_law : SpD := fun ds Q => ∃ ns : List Int, ds = [scr ns] ∧ ns.length ≤ 63 ∧ Q (.bl true)
theorem l_law : ∀ ds Q, S_law ds Q → ds.length = 1 := by rintro ds Q ⟨_, rfl, _⟩; rfl
theorem use_drawn {ns : List Int} {k m : Int} {Q : D → Prop} (hl : ns.length ≤ 63) (hk : 0 ≤ k) (hm : 0 < m) (q : ∀ x, 0 ≤ x → x < m → Q (.int x)) : S_law_drawn [scr ns, .int k, .int m] Q :=
  ⟨ns, k, m, rfl, hl, hk, hm, q _ (drawn_lo hm) (drawn_hi hm)⟩
theorem rangeL_get {lo : Int} {n i : Nat} {d : D} (h : (rangeL lo n)[i]? = some d) : d = .int (lo + i) ∧ i < n := by
  unfold rangeL at h
  rw [List.getElem?_map] at h
  cases q : (List.range n)[i]? with
  | none => rw [q] at h; cases h
  | some j =>
    rw [q] at h
    have hj := List.getElem?_eq_some_iff.mp q
    obtain ⟨h1, h2⟩ := hj
    rw [List.length_range] at h1
    rw [List.getElem_range] at h2
    subst h2
    exact ⟨(Option.some.inj h).symm, h1⟩
theorem atI_mem {l : List D} {z : Int} (h0 : 0 ≤ z) (h1 : z < l.length) : ∃ d, atI l z = some d ∧ d ∈ l := by
  have e : z = ((z.toNat : Nat) : Int) := by omega
  have hl : z.toNat < l.length := by omega
  refine ⟨l[z.toNat], ?_, List.getElem_mem hl⟩
  have q : atI l ((z.toNat : Nat) : Int) = some l[z.toNat] := atI_nat (by rw [List.getElem?_eq_getElem hl])
  rw [← e] at q
  exact q
noncomputable def oi : Option Int → D
  | none => .non
  | some s => .int s
theorem oi_none : oi none = .non := rfl
theorem oi_some {s : Int} : oi (some s) = .int s := rfl
end Law
namespace Law
open PySem L2 Dl
theorem dComp_at (items : List D) (F : D → Option D) {k : Nat} {ti : TId} {g : TGd} {tt : TTd} {te : TEd} {δ : Ev} {Q : D → Ev → Prop} (h0 : ∀ Q : List D → Ev → Prop, Q items δ → ti δ Q)
    (hF : ∀ d ∈ items, g d (dropOw δ ++ List.replicate k .no) fun δ2 => tt δ2 fun b δ3 => if b = true then te δ3 fun y _ => F d = some y else F d = none)
    (hl : (items.filterMap F).length ≤ sizeLine) (q : Q (.lst (items.filterMap F)) δ) : dComp k ti g tt te δ Q := h0 _ ⟨F, hF, hl, q⟩
theorem fm_map {α β : Type} {g : α → Option β} {h : α → β} : ∀ {l : List α}, (∀ a ∈ l, g a = some (h a)) → l.filterMap g = l.map h
  | [], _ => rfl
  | x :: l, H => by rw [List.filterMap_cons_some (H x List.mem_cons_self), fm_map fun a ha => H a (List.mem_cons_of_mem _ ha)]; rfl
theorem ok_lstI {l m : List Int} : okEq (.lst (l.map D.int)) (.lst (m.map D.int)) := ⟨okL_ints l, okL_ints m, by show min (D.depL _ + 1) (D.depL _ + 1) ≤ 60; rw [depL_ints, depL_ints]; decide⟩
theorem cut_take {l : List D} {m : Int} (h : 0 ≤ m) : cutD l none (some m) = l.take m.toNat := by
  unfold cutD HT.sIx
  simp only [List.drop_zero, Nat.sub_zero]
  rw [if_neg (by omega)]
  by_cases z : m.toNat ≤ l.length
  · rw [Nat.min_eq_left z]
  · rw [Nat.min_eq_right (by omega), List.take_of_length_le (Nat.le_refl _), List.take_of_length_le (by omega)]
theorem atI_last {α : Type} {l : List α} {x : α} (h : l[l.length - 1]? = some x) : atI l (-1) = some x := by
  have hl : l.length - 1 < l.length := (List.getElem?_eq_some_iff.mp h).1
  unfold atI ixN
  rw [if_neg (by decide), if_pos (by omega), show (-1 + (l.length : Int)).toNat = l.length - 1 by omega]
  exact h
end Law
namespace Law
open PySem L2 Dl
noncomputable abbrev tl (x : Str) : List Nat := x.cps.toList
theorem str_ext {x y : Str} (h : tl x = tl y) : x = y := Str.ext' (Array.toList_inj.mp h)
theorem tl_app (x y : Str) : tl (x ++ y) = tl x ++ tl y := by show (x.cps ++ y.cps).toList = _; simp
theorem tl_len (x : Str) : x.length = (tl x).length := rfl
theorem tl_one (c : Nat) : tl ⟨#[c]⟩ = [c] := rfl
noncomputable def jl (c : Nat) : List (List Nat) → List Nat
  | [] => []
  | [a] => a
  | a :: b :: r => a ++ c :: jl c (b :: r)
theorem jl_join (c : Nat) : ∀ ps : List Str, tl (Str.join ⟨#[c]⟩ ps) = jl c (ps.map tl)
  | [] => rfl
  | [_] => rfl
  | a :: b :: r => by
    show tl (a ++ (⟨#[c]⟩ : Str) ++ Str.join ⟨#[c]⟩ (b :: r)) = tl a ++ c :: jl c ((b :: r).map tl)
    rw [tl_app, tl_app, tl_one, jl_join c (b :: r)]
    simp
theorem cut_inj {c : Nat} : ∀ {a b x y : List Nat}, c ∉ a → c ∉ b → a ++ c :: x = b ++ c :: y → a = b ∧ x = y
  | [], [], _, _, _, _, h => by simpa using h
  | [], b :: bs, _, _, _, hb, h => by simp at h; exact absurd h.1 (fun z => hb (by simp [z]))
  | a :: as, [], _, _, ha, _, h => by simp at h; exact absurd h.1.symm (fun z => ha (by simp [z]))
  | a :: as, b :: bs, _, _, ha, hb, h => by
    simp at h ha hb
    obtain ⟨h1, h2⟩ := cut_inj ha.2 hb.2 h.2
    exact ⟨by rw [h.1, h1], h2⟩
theorem jl_inj {c : Nat} : ∀ {ps qs : List (List Nat)}, ps ≠ [] → qs ≠ [] → (∀ p ∈ ps, c ∉ p) → (∀ q ∈ qs, c ∉ q) → jl c ps = jl c qs → ps = qs
  | [], _, h, _, _, _, _ => absurd rfl h
  | _ :: _, [], _, h, _, _, _ => absurd rfl h
  | [a], [b], _, _, _, _, h => by rw [show a = b from h]
  | [a], b :: b' :: r, _, _, hp, _, h => by
    have z : a = b ++ c :: jl c (b' :: r) := h
    exact absurd (by rw [z]; simp) (hp a (by simp))
  | a :: a' :: r, [b], _, _, _, hq, h => by
    have z : a ++ c :: jl c (a' :: r) = b := h
    exact absurd (by rw [← z]; simp) (hq b (by simp))
  | a :: a' :: r, b :: b' :: r', _, _, hp, hq, h => by
    obtain ⟨h1, h2⟩ := cut_inj (hp a (by simp)) (hq b (by simp)) (show a ++ c :: jl c (a' :: r) = b ++ c :: jl c (b' :: r') from h)
    have h3 := jl_inj (by simp) (by simp) (fun p hm => hp p (List.mem_cons_of_mem _ hm)) (fun q hm => hq q (List.mem_cons_of_mem _ hm)) h2
    rw [h1, h3]
theorem tl_inj : ∀ {ps qs : List Str}, ps.map tl = qs.map tl → ps = qs
  | [], [], _ => rfl
  | [], _ :: _, h => by simp at h
  | _ :: _, [], h => by simp at h
  | a :: r, b :: s, h => by
    simp only [List.map_cons, List.cons.injEq] at h
    rw [str_ext h.1, tl_inj h.2]
theorem split_join {c : Nat} {ps : List Str} (h0 : ps ≠ []) (hp : ∀ p ∈ ps, c ∉ tl p) : Txt.split (Str.join ⟨#[c]⟩ ps) ⟨#[c]⟩ = ps := by
  have e := StrLaws.join_split (Str.join ⟨#[c]⟩ ps) ⟨#[c]⟩
  have e1 := congrArg tl e
  rw [jl_join, jl_join] at e1
  refine tl_inj (jl_inj ?_ ?_ ?_ ?_ e1)
  · have := PyProof.Rows.split_pos (Str.join ⟨#[c]⟩ ps) ⟨#[c]⟩
    intro z
    have l := congrArg List.length z
    rw [List.length_map] at l
    simp at l
    rw [l] at this
    simp at this
  · simpa using h0
  · intro p hm
    obtain ⟨q, hq, rfl⟩ := List.mem_map.mp hm
    exact StrLaws.split_free _ c q hq
  · intro p hm
    obtain ⟨q, hq, rfl⟩ := List.mem_map.mp hm
    exact hp q hq
noncomputable abbrev numT (n : Int) : Str := Str.ofString (toString n)
noncomputable def digs (x : Str) : Prop := ∀ c ∈ tl x, 48 ≤ c ∧ c ≤ 57
theorem numT_digs {n : Int} (h : 0 ≤ n) : digs (numT n) := by
  obtain ⟨m, rfl⟩ := Int.eq_ofNat_of_zero_le h
  intro c hc
  have hc' : c ∈ (Str.ofString (toString ((m : Nat) : Int))).cps.toList := hc
  rw [PySem.W.KIN.signs_num] at hc'
  obtain ⟨ch, hch, e⟩ := List.mem_map.mp hc'
  have r := PyProof.Rows.digit_range (Nat.isDigit_of_mem_toDigits (by decide) (by decide) hch)
  rw [← e]
  exact r
theorem numT_pos {n : Int} (h : 0 ≤ n) : 1 ≤ (numT n).length := by
  obtain ⟨m, rfl⟩ := Int.eq_ofNat_of_zero_le h
  show 1 ≤ ((Str.ofString (toString ((m : Nat) : Int))).cps.toList).length
  rw [PySem.W.KIN.signs_num, List.length_map]
  exact PySem.toDigits_len_ge 10 m
theorem numT_len {n : Int} {k : Nat} (h : 0 ≤ n) (hk : 0 < k) (h1 : n < 10 ^ k) : (numT n).length ≤ k := PyProof.Rows.toString_length_le h hk h1
noncomputable def p2 (n : Int) : Str := Txt.zfill (numT n) 2
theorem p2_all : ∀ n : Fin 60, Txt.mul (Str.ofString "0") (2 - ((numT (n.val : Int)).length : Int)) ++ numT (n.val : Int) = p2 (n.val : Int) ∧ intText? (p2 (n.val : Int)) = some (n.val : Int) ∧ (p2 (n.val : Int)).length = 2 ∧ ((tl (p2 (n.val : Int))).all fun c => decide (48 ≤ c) && decide (c ≤ 57)) = true ∧ (numT (n.val : Int)).length ≤ 2 := by decide +kernel
theorem p2_at {n : Int} (h0 : 0 ≤ n) (h1 : n < 60) : Txt.mul (Str.ofString "0") (2 - ((numT n).length : Int)) ++ numT n = p2 n ∧ intText? (p2 n) = some n ∧ (p2 n).length = 2 ∧ digs (p2 n) ∧ (numT n).length ≤ 2 := by
  obtain ⟨m, rfl⟩ := Int.eq_ofNat_of_zero_le h0
  obtain ⟨a, b, c, d, e⟩ := p2_all ⟨m, by omega⟩
  refine ⟨a, b, c, fun x hx => ?_, e⟩
  have := List.all_eq_true.mp d x hx
  simpa using this
noncomputable def timeT (s : Int) : Str := numT (s / 3600) ++ (":" : Str) ++ p2 (s % 3600 / 60) ++ (":" : Str) ++ p2 (s % 60)
theorem colon : (":" : Str) = ⟨#[58]⟩ := by decide +kernel
theorem feed : ("\n" : Str) = ⟨#[10]⟩ := by decide +kernel
theorem timeT_join (s : Int) : timeT s = Str.join ⟨#[58]⟩ [numT (s / 3600), p2 (s % 3600 / 60), p2 (s % 60)] := by
  refine str_ext ?_
  unfold timeT
  rw [jl_join, colon]
  simp only [tl_app, tl_one, List.map_cons, List.map_nil, jl]
  simp
section
variable {s : Int}
theorem parts_of (h : 0 ≤ s) : 0 ≤ s / 3600 ∧ (0 ≤ s % 3600 / 60 ∧ s % 3600 / 60 < 60) ∧ 0 ≤ s % 60 ∧ s % 60 < 60 := by omega
theorem digs_free {x : Str} {c : Nat} (h : digs x) (hc : c < 48 ∨ 57 < c) : c ∉ tl x := fun z => by have := h c z; omega
theorem timeT_split (h : 0 ≤ s) : Txt.split (timeT s) (":" : Str) = [numT (s / 3600), p2 (s % 3600 / 60), p2 (s % 60)] := by
  obtain ⟨a, b, c⟩ := parts_of h
  rw [timeT_join, colon]
  refine split_join (by simp) fun p hp => ?_
  simp only [List.mem_cons, List.not_mem_nil, or_false] at hp
  rcases hp with rfl | rfl | rfl
  · exact digs_free (numT_digs a) (.inr (by decide))
  · exact digs_free (p2_at b.1 b.2).2.2.2.1 (.inr (by decide))
  · exact digs_free (p2_at c.1 c.2).2.2.2.1 (.inr (by decide))
theorem timeT_len (h : 0 ≤ s) (h1 : s < 36000000000) : (timeT s).length ≤ 20 := by
  obtain ⟨a, b, c⟩ := parts_of h
  have e1 := numT_len (n := s / 3600) (k := 7) a (by decide) (by omega)
  have e2 := (p2_at b.1 b.2).2.2.1
  have e3 := (p2_at c.1 c.2).2.2.1
  have e4 : (":" : Str).length = 1 := by decide +kernel
  unfold timeT
  simp only [Str.length_append, e2, e3, e4]
  omega
theorem ok_digs {x : Str} (h : ∀ c ∈ tl x, c < 128) : (D.str x).ok = true := by
  show (x.cps.all (· < 0x110000)) = true
  rw [← Array.all_toList]
  refine List.all_eq_true.mpr fun c hc => decide_eq_true ?_
  have := h c hc
  omega
theorem timeT_low (h : 0 ≤ s) : ∀ c ∈ tl (timeT s), c < 128 ∧ c ≠ 10 := by
  obtain ⟨a, b, d⟩ := parts_of h
  intro c hc
  unfold timeT at hc
  rw [colon] at hc
  simp only [tl_app, tl_one, List.mem_append, List.mem_singleton] at hc
  rcases hc with (((hc | rfl) | hc) | rfl) | hc
  · have := numT_digs a c hc; omega
  · decide
  · have := (p2_at b.1 b.2).2.2.2.1 c hc; omega
  · decide
  · have := (p2_at d.1 d.2).2.2.2.1 c hc; omega
end
theorem okEqT {x y : Str} (h : ∀ c ∈ tl x, c < 128) (h2 : ∀ c ∈ tl y, c < 128) : okEq (.str x) (.str y) := ⟨ok_digs h, ok_digs h2, by show min 0 0 ≤ 60; decide⟩
theorem fig_in {c : Nat} (h : 48 ≤ c ∧ c ≤ 57) : Txt.contains ("0123456789" : Str) ⟨#[c]⟩ = true := by
  unfold Txt.contains
  rw [StrLaws.found_one]
  have e : ("0123456789" : Str).cps.toList = [48, 49, 50, 51, 52, 53, 54, 55, 56, 57] := by decide +kernel
  rw [e]
  refine decide_eq_true ?_
  have : c = 48 ∨ c = 49 ∨ c = 50 ∨ c = 51 ∨ c = 52 ∨ c = 53 ∨ c = 54 ∨ c = 55 ∨ c = 56 ∨ c = 57 := by omega
  simpa using this
end Law
namespace Law
open PySem L2 Dl
noncomputable def S_figures_of : SpD := fun ds Q => ∃ n : Int, ds = [.int n] ∧ 0 ≤ n ∧ n < 1000000000 ∧ Q (.str (numT n))
noncomputable def S_two_figures : SpD := fun ds Q => ∃ n : Int, ds = [.int n] ∧ 0 ≤ n ∧ n < 60 ∧ Q (.str (p2 n))
noncomputable def S_time_text : SpD := fun ds Q => ∃ s : Int, ds = [.int s] ∧ 0 ≤ s ∧ s < 36000000000 ∧ Q (.str (timeT s))
theorem l_figures_of : ∀ ds Q, S_figures_of ds Q → ds.length = 1 := by rintro ds Q ⟨_, rfl, _⟩; rfl
theorem l_two_figures : ∀ ds Q, S_two_figures ds Q → ds.length = 1 := by rintro ds Q ⟨_, rfl, _⟩; rfl
theorem l_time_text : ∀ ds Q, S_time_text ds Q → ds.length = 1 := by rintro ds Q ⟨_, rfl, _⟩; rfl
theorem join_one (x : Str) : Txt.join ("" : Str) [x] = x := by
  unfold Txt.join; rw [StrLaws.glued_eq_join]; rfl
theorem joinOk_of {sep : Str} {ts : List Str} (B : Nat) (hB : ∀ y ∈ ts, y.length ≤ B) (h : ts.length * B + ts.length * sep.length ≤ 16777216) : JoinOk sep ts = true := by
  unfold JoinOk; rw [StrLaws.joinFits hB h]; rfl
theorem ten64 : (10 : Int) ^ Int.toNat 64 = 10000000000000000000000000000000000000000000000000000000000000000 := by decide +kernel
noncomputable def t_figures_of : TSd := dSeq (dSet 1 ((dVar 0))) (dSeq (dOwn 2 (dNil)) (dSeq (dWhile (dB (dOp (rII fun i j => .bl (decide (j ≤ i))) ((dVar 1)) ((dOp (rIC CPow fun i j => .int (i ^ j.toNat)) (dC (.int 10)) (dC (.int 64)))))) (dSeq (dApp 2 ((dZf 64 ((dCall cStrI ((dCons ((dOp (rIC (fun _ j => 0 < j) fun i j => .int (i % j)) ((dVar 1)) ((dOp (rIC CPow fun i j => .int (i ^ j.toNat)) (dC (.int 10)) (dC (.int 64)))))) (dNil)))))))) (dSet 1 ((dOp (rIC CDiv fun i j => .int (i / j)) ((dVar 1)) ((dOp (rIC CPow fun i j => .int (i ^ j.toNat)) (dC (.int 10)) (dC (.int 64))))))))) (dSeq (dApp 2 ((dCall cStrI ((dCons ((dVar 1)) (dNil)))))) (dFrz 2 (dRet ((dJoinR "" ((dVar 2)))))))))
theorem r_figures_of : ∀ ds Q, S_figures_of ds Q → t_figures_of { nx := fun _ => Q .non, rt := fun d _ => Q d } (startD ["number", "left", "blocks"] ds) := by
  rintro ds Q ⟨n, rfl, h0, h1, q⟩
  simp! only [t_figures_of]
  refine ⟨fun _ δ => δ = [.sh (.int n), .sh (.int n), .ow []], ⟨0, rfl⟩, ?_⟩
  rintro m δ rfl
  simp! only [Dl.dSeq]
  refine ⟨⟨by decide, by decide, by decide⟩, ite2 (fun h => absurd h (by rw [ten64]; omega)) fun _ => ?_⟩
  simp! only [Dl.dSeq]
  refine ⟨by omega, by decide, [numT n], rfl, ?_, ?_⟩
  · refine joinOk_of 9 (fun y hy => ?_) (by show 1 * 9 + 1 * 0 ≤ 16777216; decide)
    rw [List.mem_singleton.mp hy]
    exact numT_len (n := n) (k := 9) h0 (by decide) h1
  · show Q (.str (Txt.join ("" : Str) [numT n]))
    rw [join_one]; exact q
noncomputable def t_two_figures : TSd := dRet ((dZf 2 ((dCall cStrI ((dCons ((dVar 0)) (dNil)))))))
theorem r_two_figures : ∀ ds Q, S_two_figures ds Q → t_two_figures { nx := fun _ => Q .non, rt := fun d _ => Q d } (startD ["number"] ds) := by
  rintro ds Q ⟨n, rfl, h0, h1, q⟩
  simp! only [t_two_figures]
  exact ⟨by omega, q⟩
noncomputable def t_time_text : TSd := dSeq (dSet 1 ((dCall S_figures_of ((dCons ((dOp (rIC CDiv fun i j => .int (i / j)) ((dVar 0)) ((dC (.int 3600))))) (dNil)))))) (dSeq (dSet 2 ((dCall S_two_figures ((dCons ((dOp (rIC CDiv fun i j => .int (i / j)) ((dOp (rIC (fun _ j => 0 < j) fun i j => .int (i % j)) ((dVar 0)) ((dC (.int 3600))))) ((dC (.int 60))))) (dNil)))))) (dSeq (dSet 3 ((dCall S_two_figures ((dCons ((dOp (rIC (fun _ j => 0 < j) fun i j => .int (i % j)) ((dVar 0)) ((dC (.int 60))))) (dNil)))))) (dRet ((dFmt ((jCons ((dVar 1)) ((jCons (dC (.str ":")) ((jCons ((dVar 2)) ((jCons (dC (.str ":")) ((jCons ((dVar 3)) (jNil))))))))))))))))
theorem r_time_text : ∀ ds Q, S_time_text ds Q → t_time_text { nx := fun _ => Q .non, rt := fun d _ => Q d } (startD ["seconds", "hours", "minutes", "rest"] ds) := by
  rintro ds Q ⟨s, rfl, h0, h1, q⟩
  obtain ⟨a, b, c⟩ := parts_of h0
  simp! only [t_time_text]
  refine ⟨⟨by decide, by decide⟩, _, rfl, a, by omega, ?_⟩
  simp! only [Dl.dSeq]
  refine ⟨by decide, ⟨by decide, by decide⟩, _, rfl, b.1, b.2, ?_⟩
  simp! only [Dl.dSeq]
  refine ⟨by decide, _, rfl, c.1, c.2, ?_⟩
  simp! only [Dl.dSeq]
  have e1 := numT_len (n := s / 3600) (k := 7) a (by decide) (by omega)
  have e2 := (p2_at b.1 b.2).2.2.1
  have e3 := (p2_at c.1 c.2).2.2.1
  have e4 : (":" : Str).length = 1 := by decide +kernel
  have e5 : Str.empty.length = 0 := rfl
  have big : (1000 : Nat) ≤ sizeLine := by decide
  simp only [Str.length_append, e2, e3, e4, e5]
  refine ⟨by omega, by omega, by omega, by omega, by omega, by omega, by omega, by omega, by omega, by omega, by omega, ?_⟩
  rw [Str.empty_append]
  exact q
noncomputable def startT (k : Int) : Str := numT (k + 1) ++ (" " : Str)
noncomputable def S_lap_start : SpD := fun ds Q => ∃ k : Int, ds = [.int k] ∧ 0 ≤ k ∧ k < 1000 ∧ Q (.str (startT k))
noncomputable def lineT (k s : Int) : Str := startT k ++ timeT s
noncomputable def linesT : Int → List Int → List Str
  | _, [] => []
  | k, s :: r => lineT k s :: linesT (k + 1) r
noncomputable def lapsT (k : Int) (ss : List Int) : Str := Str.join ⟨#[]⟩ ((linesT k ss).map fun x => x ++ ("\n" : Str))
noncomputable def smalls (ss : List Int) : Prop := ss.length ≤ 100 ∧ ∀ s ∈ ss, 0 ≤ s ∧ s < 3600000000
noncomputable def S_laps_text : SpD := fun ds Q => ∃ ss : List Int, ds = [.lst (ss.map D.int)] ∧ smalls ss ∧ Q (.str (lapsT 0 ss))
theorem l_lap_start : ∀ ds Q, S_lap_start ds Q → ds.length = 1 := by rintro ds Q ⟨_, rfl, _⟩; rfl
theorem l_laps_text : ∀ ds Q, S_laps_text ds Q → ds.length = 1 := by rintro ds Q ⟨_, rfl, _⟩; rfl
noncomputable def t_lap_start : TSd := dRet ((dOp (rF addF) ((dCall cStrI ((dCons ((dOp (rF addF) ((dVar 0)) (dC (.int 1)))) (dNil))))) (dC (.str " "))))
theorem r_lap_start : ∀ ds Q, S_lap_start ds Q → t_lap_start { nx := fun _ => Q .non, rt := fun d _ => Q d } (startD ["place"] ds) := by
  rintro ds Q ⟨k, rfl, h0, h1, q⟩
  have big : (1000 : Nat) ≤ sizeLine := by decide
  have u1 : (" " : Str).length = 1 := by decide +kernel
  have l := numT_len (n := k + 1) (k := 9) (by omega) (by decide) (by omega)
  simp! only [t_lap_start]
  exact ⟨by omega, _, if_pos (show (numT (k + 1)).length + (" " : Str).length ≤ sizeLine by omega), q⟩
theorem tl_glue : ∀ ps : List Str, tl (Str.join ⟨#[]⟩ ps) = (ps.map tl).flatten
  | [] => rfl
  | [a] => by show tl a = [tl a].flatten; simp
  | a :: b :: r => by
    show tl (a ++ (⟨#[]⟩ : Str) ++ Str.join ⟨#[]⟩ (b :: r)) = _
    rw [tl_app, tl_app, tl_glue (b :: r)]
    simp
theorem startT_low {k : Int} (h : 0 ≤ k) : ∀ c ∈ tl (startT k), c < 128 ∧ c ≠ 10 := by
  intro c hc
  unfold startT at hc
  rw [show (" " : Str) = ⟨#[32]⟩ by decide +kernel] at hc
  simp only [tl_app, tl_one, List.mem_append, List.mem_singleton] at hc
  rcases hc with hc | rfl
  · have := numT_digs (n := k + 1) (by omega) c hc; omega
  · decide
theorem lineT_low {k s : Int} (h : 0 ≤ k) (h0 : 0 ≤ s) : ∀ c ∈ tl (lineT k s), c < 128 ∧ c ≠ 10 := by
  intro c hc
  unfold lineT at hc
  rw [tl_app, List.mem_append] at hc
  rcases hc with hc | hc
  · exact startT_low h c hc
  · exact timeT_low h0 c hc
theorem startT_len {k : Int} (h : 0 ≤ k) (h1 : k < 1000) : (startT k).length ≤ 10 := by
  have l := numT_len (n := k + 1) (k := 9) (by omega) (by decide) (by omega)
  have u1 : (" " : Str).length = 1 := by decide +kernel
  unfold startT
  rw [Str.length_append, u1]; omega
theorem lineT_len {k s : Int} (h : 0 ≤ k) (h1 : k < 1000) (h0 : 0 ≤ s) (h2 : s < 3600000000) : (lineT k s).length ≤ 30 := by
  have a := startT_len h h1
  have b := timeT_len h0 (by omega)
  unfold lineT
  rw [Str.length_append]; omega
theorem lines_get : ∀ (ss : List Int) (k : Int) (i : Nat), (linesT k ss)[i]? = (ss[i]?).map (lineT (k + i))
  | [], k, i => by simp [linesT]
  | s :: r, k, 0 => by simp [linesT]
  | s :: r, k, i + 1 => by
    simp only [linesT, List.getElem?_cons_succ]
    rw [lines_get r (k + 1) i]
    congr 2
    omega
theorem lines_len : ∀ (ss : List Int) (k : Int), (linesT k ss).length = ss.length
  | [], _ => rfl
  | _ :: r, k => by simp [linesT, lines_len r]
theorem lines_mem {ss : List Int} (h : smalls ss) : ∀ x ∈ linesT 0 ss, ∃ k s : Int, x = lineT k s ∧ 0 ≤ k ∧ k < 1000 ∧ 0 ≤ s ∧ s < 3600000000 := by
  intro x hx
  obtain ⟨i, hi⟩ := List.mem_iff_getElem?.mp hx
  rw [lines_get] at hi
  cases q : ss[i]? with
  | none => rw [q] at hi; cases hi
  | some s =>
    rw [q] at hi; cases hi
    have hlt := (List.getElem?_eq_some_iff.mp q).1
    have hs := h.2 s (List.mem_of_getElem? q)
    have := h.1
    exact ⟨0 + i, s, rfl, by omega, by omega, hs.1, hs.2⟩
noncomputable def lapF : D → Option D
  | .tup [.int k, .int s] => some (.str (lineT k s ++ ("\n" : Str)))
  | _ => none
theorem enum_at {l : List D} {i : Nat} {d : D} (h : (enumL l)[i]? = some d) : ∃ e, l[i]? = some e ∧ d = .tup [.int (i : Nat), e] := by
  unfold enumL at h
  rw [List.getElem?_map] at h
  cases q : (List.range l.length)[i]? with
  | none => rw [q] at h; cases h
  | some j =>
    rw [q] at h
    have hj := List.getElem?_eq_some_iff.mp q
    have hi : i < l.length := by simpa using hj.1
    have : j = i := by have := hj.2; simpa using this.symm
    subst this
    cases h
    refine ⟨l[j], List.getElem?_eq_getElem hi, ?_⟩
    simp [List.getD_eq_getElem?_getD, List.getElem?_eq_getElem hi]
theorem laps_map (ss : List Int) : (enumL (ss.map D.int)).filterMap lapF = ((linesT 0 ss).map fun x => x ++ ("\n" : Str)).map D.str := by
  have hl : (enumL (ss.map D.int)).length = ss.length := by unfold enumL; simp
  rw [fm_map (h := fun d => (lapF d).getD .non)]
  · apply List.ext_getElem?
    intro i
    rw [List.getElem?_map, List.getElem?_map, List.getElem?_map, lines_get]
    cases q : (enumL (ss.map D.int))[i]? with
    | none =>
      have : ss[i]? = none := List.getElem?_eq_none (by have := List.getElem?_eq_none_iff.mp q; omega)
      rw [this]; rfl
    | some d =>
      obtain ⟨e, he, rfl⟩ := enum_at q
      rw [List.getElem?_map] at he
      cases q2 : ss[i]? with
      | none => rw [q2] at he; cases he
      | some s =>
        rw [q2] at he; cases he
        simp [lapF]
  · intro d hd
    obtain ⟨i, hi⟩ := List.mem_iff_getElem?.mp hd
    obtain ⟨e, he, rfl⟩ := enum_at hi
    rw [List.getElem?_map] at he
    cases q2 : ss[i]? with
    | none => rw [q2] at he; cases he
    | some s => rw [q2] at he; cases he; rfl
noncomputable def t_laps_text : TSd := dRet ((dJoin "" ((dComp 2 (diEnum ((dCons ((dVar 0)) (dNil)))) (gdTup2 1 2) (dYes) ((dOp (rF addF) ((dOp (rF addF) ((dCall S_lap_start ((dCons ((dVar 1)) (dNil))))) ((dCall S_time_text ((dCons ((dVar 2)) (dNil))))))) (dC (.str "\n"))))))))
theorem r_laps_text : ∀ ds Q, S_laps_text ds Q → t_laps_text { nx := fun _ => Q .non, rt := fun d _ => Q d } (startD ["sizes"] ds) := by
  rintro ds Q ⟨ss, rfl, h, q⟩
  simp! only [t_laps_text]
  have big : (1000 : Nat) ≤ sizeLine := by decide
  have u1 : ("\n" : Str).length = 1 := by decide +kernel
  refine dComp_at (enumL (ss.map D.int)) lapF (fun Q q => ?_) (fun d hd => ?_) ?_ ?_
  · simp! only [Dl.dSeq]; exact q
  · obtain ⟨i, hi⟩ := List.mem_iff_getElem?.mp hd
    obtain ⟨e, he, rfl⟩ := enum_at hi
    rw [List.getElem?_map] at he
    cases q2 : ss[i]? with
    | none => rw [q2] at he; cases he
    | some s =>
      rw [q2] at he; cases he
      have hlt := (List.getElem?_eq_some_iff.mp q2).1
      have hs := h.2 s (List.mem_of_getElem? q2)
      have h1 := h.1
      simp! only [Dl.dSeq]
      have a := startT_len (k := (i : Int)) (by omega) (by omega)
      have b := timeT_len hs.1 (by omega)
      refine ⟨_, rfl, by omega, by omega, s, rfl, hs.1, by omega, _, if_pos (by omega), _, if_pos (by rw [Str.length_append]; omega), rfl⟩
  · rw [laps_map, List.length_map, List.length_map, lines_len]; have := h.1; omega
  · rw [laps_map]
    simp! only [Dl.dSeq]
    refine ⟨_, strsF_map _, ?_, ?_⟩
    · refine joinOk_of 31 (fun y hy => ?_) (by rw [List.length_map, lines_len]; have := h.1; show _ + _ * 0 ≤ _; omega)
      obtain ⟨x, hx, rfl⟩ := List.mem_map.mp hy
      obtain ⟨k, s, rfl, k0, k1, s0, s1⟩ := lines_mem h x hx
      have := lineT_len k0 k1 s0 s1
      rw [Str.length_append, u1]; omega
    · have e : Txt.join ("" : Str) ((linesT 0 ss).map fun x => x ++ ("\n" : Str)) = lapsT 0 ss := by
        unfold Txt.join; rw [StrLaws.glued_eq_join]; rfl
      rw [e]; exact q
theorem flat_len {B : Nat} : ∀ ls : List (List Nat), (∀ l ∈ ls, l.length ≤ B) → ls.flatten.length ≤ ls.length * B
  | [], _ => by simp
  | a :: r, h => by
    have h1 := h a (by simp)
    have h2 := flat_len r fun l hl => h l (List.mem_cons_of_mem _ hl)
    rw [List.flatten_cons, List.length_append, List.length_cons, Nat.succ_mul]; omega
theorem lapsT_low {ss : List Int} (h : smalls ss) : ∀ c ∈ tl (lapsT 0 ss), c < 128 := by
  intro c hc
  unfold lapsT at hc
  rw [tl_glue] at hc
  obtain ⟨l, hl, hc⟩ := List.mem_flatten.mp hc
  obtain ⟨y, hy, rfl⟩ := List.mem_map.mp hl
  obtain ⟨x, hx, rfl⟩ := List.mem_map.mp hy
  obtain ⟨k, s, rfl, k0, k1, s0, s1⟩ := lines_mem h x hx
  rw [tl_app, List.mem_append, feed] at hc
  rcases hc with hc | hc
  · exact (lineT_low k0 s0 c hc).1
  · rw [tl_one, List.mem_singleton] at hc; omega
theorem cut_last (l : List D) (x : D) : cutD (l ++ [x]) none (some (-1)) = l := by
  unfold cutD HT.sIx
  simp only [List.length_append, List.length_singleton, List.drop_zero, Nat.sub_zero, show ((-1 : Int) < 0) = True from by simp, if_true]
  rw [show (-1 + ((l.length + 1 : Nat) : Int)).toNat = l.length by omega]
  exact List.take_left' rfl
theorem last_at (l : List D) (x : D) : atI (l ++ [x]) (-1) = some x := atI_last (by simp)
theorem low_app {x y : Str} (hx : ∀ c ∈ tl x, c < 128) (hy : ∀ c ∈ tl y, c < 128) : ∀ c ∈ tl (x ++ y), c < 128 := by
  intro c hc
  rw [tl_app, List.mem_append] at hc
  exact hc.elim (hx c) (hy c)
end Law
namespace Law
open PySem L2 Dl
structure Lo (B : Nat) (x : Str) : Prop where
  lo : ∀ c ∈ tl x, c < 128
  ln : x.length ≤ B
noncomputable def figN (c : Nat) : Bool := decide (48 ≤ c) && decide (c ≤ 57)
noncomputable def figB (x : Str) : Bool := (tl x).all figN
theorem figB_digs {x : Str} : figB x = true ↔ digs x := by
  unfold figB digs figN
  rw [List.all_eq_true]
  exact ⟨fun h c hc => by simpa using h c hc, fun h c hc => by simpa using h c hc⟩
theorem fig_is (c : Nat) : Txt.contains ("0123456789" : Str) ⟨#[c]⟩ = figN c := by
  by_cases h : 48 ≤ c ∧ c ≤ 57
  · rw [fig_in h]; unfold figN; simp [h.1, h.2]
  · have e : ("0123456789" : Str).cps.toList = [48, 49, 50, 51, 52, 53, 54, 55, 56, 57] := by decide +kernel
    have e1 : figN c = false := by unfold figN; simp; omega
    rw [e1]
    unfold Txt.contains
    rw [StrLaws.found_one, e]
    refine decide_eq_false fun z => h ?_
    simp only [List.mem_cons, List.not_mem_nil, or_false] at z
    omega
noncomputable def valT (x : Str) : Int := ((NumText.digitsVal (tl x) : Nat) : Int)
theorem val_nn (x : Str) : 0 ≤ valT x := by unfold valT; omega
theorem val_reads {x : Str} (h : digs x) (h1 : 1 ≤ x.length) (h2 : x.length ≤ 640) : intText? x = some (valT x) :=
  intText_digits h (fun z => by have z' : tl x = [] := z; rw [tl_len, z'] at h1; simp at h1) (by omega)
theorem dv_lt : ∀ (cs : List Nat) (acc : Nat), (∀ c ∈ cs, 48 ≤ c ∧ c ≤ 57) → cs.foldl (fun acc c => acc * 10 + (c - 48)) acc < (acc + 1) * 10 ^ cs.length
  | [], acc, _ => by simp
  | c :: r, acc, h => by
    have hc := h c List.mem_cons_self
    have ih := dv_lt r (acc * 10 + (c - 48)) fun d hd => h d (List.mem_cons_of_mem _ hd)
    rw [List.foldl_cons, List.length_cons, Nat.pow_succ]
    refine Nat.lt_of_lt_of_le ih ?_
    rw [Nat.mul_comm (10 ^ r.length) 10, ← Nat.mul_assoc]
    exact Nat.mul_le_mul_right _ (by omega)
theorem val_lt {x : Str} {k : Nat} (h : digs x) (hk : x.length ≤ k) : valT x < 10 ^ k := by
  have a := dv_lt (tl x) 0 h
  have b : 10 ^ (tl x).length ≤ 10 ^ k := Nat.pow_le_pow_right (by decide) hk
  have c : NumText.digitsVal (tl x) < 10 ^ k := by unfold NumText.digitsVal; omega
  unfold valT
  exact_mod_cast c
theorem p2_two : ∀ i j : Fin 10, p2 ((10 * i.val + j.val : Nat) : Int) = ⟨#[48 + i.val, 48 + j.val]⟩ := by decide +kernel
theorem p2_val {x : Str} (h : digs x) (hl : x.length = 2) : p2 (valT x) = x := by
  have e : ∃ c d, tl x = [c, d] := by
    rw [tl_len] at hl
    match q : tl x, hl with
    | [c, d], _ => exact ⟨c, d, rfl⟩
  obtain ⟨c, d, e⟩ := e
  have hc := h c (by rw [e]; simp)
  have hd := h d (by rw [e]; simp)
  have ev : valT x = ((10 * (c - 48) + (d - 48) : Nat) : Int) := by
    unfold valT NumText.digitsVal
    rw [e]
    simp only [List.foldl_cons, List.foldl_nil]
    congr 1; omega
  have z := p2_two ⟨c - 48, by omega⟩ ⟨d - 48, by omega⟩
  rw [ev, z]
  refine str_ext ?_
  rw [e]
  show [48 + (c - 48), 48 + (d - 48)] = [c, d]
  rw [show 48 + (c - 48) = c by omega, show 48 + (d - 48) = d by omega]
noncomputable def partsB : List Str → Bool
  | [a, b, c] => decide (1 ≤ a.length) && decide (a.length ≤ 6) && decide (b.length = 2) && decide (c.length = 2) && (figB a && (figB b && figB c))
  | _ => false
theorem parts_inv {a b c : Str} (h : partsB [a, b, c] = true) : (1 ≤ a.length ∧ a.length ≤ 6 ∧ digs a) ∧ (b.length = 2 ∧ digs b) ∧ c.length = 2 ∧ digs c := by
  simp only [partsB, Bool.and_eq_true, decide_eq_true_eq, figB_digs] at h
  obtain ⟨⟨⟨⟨h1, h2⟩, h3⟩, h4⟩, h5, h6, h7⟩ := h
  exact ⟨⟨h1, h2, h5⟩, ⟨h3, h6⟩, h4, h7⟩
noncomputable def secs (a b c : Str) : Int := valT a * 3600 + valT b * 60 + valT c
noncomputable def okC (a b c : Str) : Bool := decide (valT b ≤ 59) && decide (valT c ≤ 59) && decide (numT (valT a) = a)
noncomputable def rdW : List Str → Option Int
  | [a, b, c] => if (partsB [a, b, c] && okC a b c) = true then some (secs a b c) else none
  | _ => none
noncomputable def rdT (x : Str) : Option Int := rdW (Txt.split x (":" : Str))
theorem secs_lt {a b c : Str} (h : partsB [a, b, c] = true) : 0 ≤ secs a b c ∧ secs a b c < 36000000000 := by
  obtain ⟨⟨a1, a2, a3⟩, ⟨b1, b2⟩, c1, c2⟩ := parts_inv h
  have va := val_lt a3 a2
  have vb := val_lt (k := 2) b2 (by omega)
  have vc := val_lt (k := 2) c2 (by omega)
  have := val_nn a; have := val_nn b; have := val_nn c
  unfold secs
  have e6 : (10 : Int) ^ 6 = 1000000 := by decide
  have e2 : (10 : Int) ^ 2 = 100 := by decide
  rw [e6] at va; rw [e2] at vb vc
  omega
theorem time_iff {x a b c : Str} (hs : Txt.split x (":" : Str) = [a, b, c]) (hp : partsB [a, b, c] = true) : timeT (secs a b c) = x ↔ okC a b c = true := by
  obtain ⟨⟨a1, a2, a3⟩, ⟨b1, b2⟩, c1, c2⟩ := parts_inv hp
  have sl := secs_lt hp
  have ra := val_reads a3 a1 (by omega)
  have rb := val_reads b2 (by omega) (by omega)
  have rc := val_reads c2 (by omega) (by omega)
  have na := val_nn a; have nb := val_nn b; have nc := val_nn c
  have ok : okC a b c = true ↔ (valT b ≤ 59 ∧ valT c ≤ 59) ∧ numT (valT a) = a := by unfold okC; simp only [Bool.and_eq_true, decide_eq_true_eq]
  rw [ok]
  constructor
  · intro h
    have sp := timeT_split sl.1
    rw [h, hs] at sp
    obtain ⟨q1, q2, q3⟩ := parts_of sl.1
    have w2 := (p2_at q2.1 q2.2).2.1
    have w3 := (p2_at q3.1 q3.2).2.1
    have w1 := PySem.W.KIN.num_reads (n := secs a b c / 3600) q1 (by omega)
    generalize secs a b c / 3600 = n1 at sp w1
    generalize secs a b c % 3600 / 60 = n2 at sp w2 q2
    generalize secs a b c % 60 = n3 at sp w3 q3
    have e1 : a = numT n1 := (List.cons.inj sp).1
    have e2 : b = p2 n2 := (List.cons.inj (List.cons.inj sp).2).1
    have e3 : c = p2 n3 := (List.cons.inj (List.cons.inj (List.cons.inj sp).2).2).1
    rw [← e2, rb] at w2
    rw [← e3, rc] at w3
    have w1' : intText? a = some n1 := by rw [e1]; exact w1
    rw [ra] at w1'
    have v1 := Option.some.inj w1'
    have v2 := Option.some.inj w2
    have v3 := Option.some.inj w3
    exact ⟨⟨by omega, by omega⟩, by rw [v1]; exact e1.symm⟩
  · rintro ⟨⟨h1, h2⟩, h3⟩
    have f1 : secs a b c / 3600 = valT a := by unfold secs; omega
    have f2 : secs a b c % 3600 / 60 = valT b := by unfold secs; omega
    have f3 : secs a b c % 60 = valT c := by unfold secs; omega
    have jx := StrLaws.join_split x (":" : Str)
    rw [hs] at jx
    rw [timeT_join, f1, f2, f3, h3, p2_val b2 b1, p2_val c2 c1, ← colon]
    exact jx
theorem jl_mem {c : Nat} : ∀ {ps : List (List Nat)} {p : List Nat}, p ∈ ps → ∀ d ∈ p, d ∈ jl c ps
  | [a], p, h, d, hd => by rw [List.mem_singleton.mp h] at hd; exact hd
  | a :: b :: r, p, h, d, hd => by
    show d ∈ a ++ c :: jl c (b :: r)
    rcases List.mem_cons.mp h with rfl | h
    · exact List.mem_append_left _ hd
    · exact List.mem_append_right _ (List.mem_cons_of_mem _ (jl_mem h d hd))
theorem jl_len {c : Nat} : ∀ {ps : List (List Nat)} {p : List Nat}, p ∈ ps → p.length + ps.length ≤ (jl c ps).length + 1
  | [a], p, h => by rw [List.mem_singleton.mp h]; simp [jl]
  | a :: b :: r, p, h => by
    show p.length + (a :: b :: r).length ≤ (a ++ c :: jl c (b :: r)).length + 1
    rcases List.mem_cons.mp h with rfl | h
    · have := jl_len (c := c) (ps := b :: r) (p := b) List.mem_cons_self
      simp only [List.length_append, List.length_cons] at this ⊢; omega
    · have := jl_len (c := c) h
      simp only [List.length_append, List.length_cons] at this ⊢; omega
theorem split_lo {B : Nat} {x : Str} {c : Nat} (h : Lo B x) : (∀ p ∈ Txt.split x ⟨#[c]⟩, Lo B p) ∧ (Txt.split x ⟨#[c]⟩).length ≤ B + 1 := by
  have e := congrArg tl (StrLaws.join_split x ⟨#[c]⟩)
  rw [jl_join] at e
  have key : ∀ p ∈ Txt.split x ⟨#[c]⟩, Lo B p ∧ (Txt.split x ⟨#[c]⟩).length ≤ B + 1 := fun p hp => by
    have m := List.mem_map_of_mem (f := tl) hp
    have l := jl_len (c := c) m
    rw [e, List.length_map] at l
    have lp := List.length_pos_of_mem hp
    have := h.ln
    rw [tl_len] at this
    exact ⟨⟨fun d hd => h.lo d (by have := jl_mem (c := c) m d hd; rw [e] at this; exact this), by rw [tl_len]; omega⟩, by omega⟩
  refine ⟨fun p hp => (key p hp).1, ?_⟩
  cases q : Txt.split x ⟨#[c]⟩ with
  | nil => simp
  | cons p r => rw [← q]; exact (key p (by rw [q]; exact List.mem_cons_self)).2
end Law
namespace Law
open PySem L2 Dl
noncomputable def S_are_figures : SpD := fun ds Q => ∃ x : Str, ds = [.str x] ∧ Lo 900 x ∧ Q (.bl (figB x))
noncomputable def S_are_time_parts : SpD := fun ds Q => ∃ ps : List Str, ds = [.lst (ps.map D.str)] ∧ (∀ p ∈ ps, Lo 900 p) ∧ ps.length ≤ 1000 ∧ Q (.bl (partsB ps))
noncomputable def S_read_time : SpD := fun ds Q => ∃ (x : Str) (s : Int), ds = [.str x] ∧ Lo 900 x ∧ rdT x = some s ∧ Q (.int s)
noncomputable def SR_read_time (ds : List D) : Prop := ∃ x : Str, ds = [.str x] ∧ Lo 900 x ∧ rdT x = none
theorem l_are_figures : ∀ ds Q, S_are_figures ds Q → ds.length = 1 := by rintro ds Q ⟨_, rfl, _⟩; rfl
theorem l_are_time_parts : ∀ ds Q, S_are_time_parts ds Q → ds.length = 1 := by rintro ds Q ⟨_, rfl, _⟩; rfl
theorem l_read_time : ∀ ds Q, S_read_time ds Q → ds.length = 1 := by rintro ds Q ⟨_, _, rfl, _⟩; rfl
theorem lr_read_time : ∀ ds, SR_read_time ds → ds.length = 1 := by rintro ds ⟨_, rfl, _⟩; rfl
theorem all_low {B : Nat} {x : Str} (h : Lo B x) : x.cps.all (· < 128) = true := by
  rw [← Array.all_toList]
  exact List.all_eq_true.mpr fun c hc => decide_eq_true (h.lo c hc)
noncomputable def figF : D → Option D
  | .str y => some (.bl (Txt.contains ("0123456789" : Str) y))
  | _ => none
theorem figF_signs (x : Str) : (signL x).filterMap figF = ((tl x).map figN).map D.bl := by
  rw [List.map_map]
  unfold signL
  show ((tl x).map fun c => D.str ⟨#[c]⟩).filterMap figF = _
  generalize tl x = l
  induction l with
  | nil => rfl
  | cons c r ih => rw [List.map_cons, List.filterMap_cons_some (b := D.bl (figN c)) (by show some (D.bl (Txt.contains _ _)) = _; rw [fig_is]), ih]; rfl
noncomputable def t_are_figures : TSd := dRet ((dCall cAll ((dCons ((dComp 1 (diText ((dVar 0))) (gdName 1) (dYes) ((dOp rInT ((dVar 1)) ((dC (.str "0123456789"))))))) (dNil)))))
theorem r_are_figures : ∀ ds Q, S_are_figures ds Q → t_are_figures { nx := fun _ => Q .non, rt := fun d _ => Q d } (startD ["text"] ds) := by
  rintro ds Q ⟨x, rfl, h, q⟩
  simp! only [t_are_figures]
  refine dComp_at (signL x) figF (fun Q q => ?_) (fun d hd => ?_) ?_ ?_
  · simp! only [diText]
    exact ⟨all_low h, q⟩
  · obtain ⟨c, hc, rfl⟩ := List.mem_map.mp hd
    simp! only [Dl.dSeq]
    rfl
  · rw [figF_signs, List.length_map, List.length_map, ← tl_len]
    exact Nat.le_trans h.ln (by decide)
  · rw [figF_signs]
    simp! only [Dl.dSeq]
    refine ⟨_, boolsF_map _, ?_⟩
    have e : ((tl x).map figN).all id = figB x := by rw [List.all_map]; rfl
    rw [e]; exact q
noncomputable def figP : D → Option D
  | .str y => some (.bl (figB y))
  | _ => none
noncomputable def t_are_time_parts : TSd := dSeq (dIfS (dOr (dB (dOp rNeD ((dCall cLenF ((dCons ((dVar 0)) (dNil))))) (dC (.int 3)))) (dNot (dB (dChain (fun i j => decide (i ≤ j)) (fun i j => decide (i ≤ j)) (dC (.int 1)) ((dCall cLenT ((dCons ((dOp (rF ixF) ((dVar 0)) (dC (.int 0)))) (dNil))))) ((dC (.int 6))))))) (dRet (dC (.bl false))) (dNext)) (dRet ((dAndV ((dOp rEqD ((dCall cLenT ((dCons ((dOp (rF ixF) ((dVar 0)) (dC (.int 1)))) (dNil))))) (dC (.int 2)))) ((dAndV ((dOp rEqD ((dCall cLenT ((dCons ((dOp (rF ixF) ((dVar 0)) (dC (.int 2)))) (dNil))))) (dC (.int 2)))) ((dCall cAll ((dCons ((dComp 1 (diSeqF ((dVar 0))) (gdName 1) (dYes) ((dCall S_are_figures ((dCons ((dVar 1)) (dNil))))))) (dNil))))))))))
theorem r_are_time_parts : ∀ ds Q, S_are_time_parts ds Q → t_are_time_parts { nx := fun _ => Q .non, rt := fun d _ => Q d } (startD ["parts"] ds) := by
  rintro ds Q ⟨ps, rfl, hp, hl, q⟩
  have big : (1000 : Nat) ≤ sizeLine := by decide
  have no : ps.length ≠ 3 → partsB ps = false := fun h => by
    match ps, h with
    | [], _ => rfl
    | [_], _ => rfl
    | [_, _], _ => rfl
    | [_, _, _], h => exact absurd rfl h
    | _ :: _ :: _ :: _ :: _, _ => rfl
  simp! only [t_are_time_parts, List.length_map]
  refine ite2 (fun h3 => ?_) fun h3 => ?_
  · match ps, h3, hp, q with
    | [a, b, c], _, hp, q =>
    have la := (hp a (by simp)).ln
    have lb := (hp b (by simp)).ln
    have lc := (hp c (by simp)).ln
    simp! only [Dl.dSeq]
    refine ⟨by omega, ?_⟩
    have bad : ¬ (1 ≤ a.length ∧ a.length ≤ 6 ∧ b.length = 2 ∧ c.length = 2) → Q (.bl false) := fun h => by
      have e : partsB [a, b, c] = false := by
        cases z : partsB [a, b, c] with
        | false => rfl
        | true =>
          obtain ⟨⟨a1, a2, _⟩, ⟨b1, _⟩, c1, _⟩ := parts_inv z
          exact absurd ⟨a1, a2, b1, c1⟩ h
      rw [e] at q; exact q
    refine ite2 (fun h1 => ite2 (fun h2 => ⟨by omega, ite2 (fun h3 => ⟨by omega, ite2 (fun h4 => ?_) fun h => bad (by omega)⟩) fun h => bad (by omega)⟩) fun h => bad (by omega)) fun h => bad (by omega)
    have e : partsB [a, b, c] = (figB a && (figB b && figB c)) := by
      show (decide (1 ≤ a.length) && decide (a.length ≤ 6) && decide (b.length = 2) && decide (c.length = 2) && (figB a && (figB b && figB c))) = _
      rw [decide_eq_true (show 1 ≤ a.length by omega), decide_eq_true (show a.length ≤ 6 by omega), decide_eq_true (show b.length = 2 by omega), decide_eq_true (show c.length = 2 by omega)]
      simp
    rw [e] at q
    refine dComp_at [.str a, .str b, .str c] figP (fun Q q => ?_) (fun d hd => ?_) (by show 3 ≤ sizeLine; omega) ?_
    · simp! only [Dl.dSeq]; exact q
    · simp only [List.mem_cons, List.not_mem_nil, or_false] at hd
      rcases hd with rfl | rfl | rfl
      · simp! only [Dl.dSeq]; exact ⟨a, rfl, hp a (by simp), rfl⟩
      · simp! only [Dl.dSeq]; exact ⟨b, rfl, hp b (by simp), rfl⟩
      · simp! only [Dl.dSeq]; exact ⟨c, rfl, hp c (by simp), rfl⟩
    · refine ⟨[figB a, figB b, figB c], rfl, ?_⟩
      have e2 : [figB a, figB b, figB c].all id = (figB a && (figB b && figB c)) := by simp
      rw [e2]; exact q
  · rw [no (by intro z; exact h3 (by rw [z]; rfl))] at q
    exact q
theorem rd_cases (x : Str) : (∃ a b c, Txt.split x (":" : Str) = [a, b, c] ∧ partsB [a, b, c] = true) ∨ (partsB (Txt.split x (":" : Str)) = false ∧ rdT x = none) := by
  unfold rdT
  cases z : partsB (Txt.split x (":" : Str)) with
  | true =>
    left
    match q : Txt.split x (":" : Str) with
    | [a, b, c] => exact ⟨a, b, c, rfl, q ▸ z⟩
    | [] => rw [q] at z; cases z
    | [_] => rw [q] at z; cases z
    | [_, _] => rw [q] at z; cases z
    | _ :: _ :: _ :: _ :: _ => rw [q] at z; cases z
  | false =>
    right
    refine ⟨rfl, ?_⟩
    match q : Txt.split x (":" : Str) with
    | [a, b, c] => rw [q] at z; show (if (partsB [a, b, c] && okC a b c) = true then _ else _) = _; rw [z]; rfl
    | [] => rfl
    | [_] => rfl
    | [_, _] => rfl
    | _ :: _ :: _ :: _ :: _ => rfl
theorem rd_three {x a b c : Str} (hs : Txt.split x (":" : Str) = [a, b, c]) (hp : partsB [a, b, c] = true) : rdT x = if okC a b c = true then some (secs a b c) else none := by
  unfold rdT rdW
  rw [hs]
  simp only [hp, Bool.true_and]
noncomputable def t_read_time : TSd := dSeq (dSet 1 ((dSplit ":" ((dVar 0))))) (dSeq (dIfS (dNot (dTruF ((dCall S_are_time_parts ((dCons ((dVar 1)) (dNil))))))) (dNever) (dNext)) (dSeq (dSet 2 ((dOp (rF addF) ((dOp (rF addF) ((dOp (rIC CMul fun i j => .int (i * j)) ((dCall cIntT ((dCons ((dOp (rF ixF) ((dVar 1)) (dC (.int 0)))) (dNil))))) ((dC (.int 3600))))) ((dOp (rIC CMul fun i j => .int (i * j)) ((dCall cIntT ((dCons ((dOp (rF ixF) ((dVar 1)) (dC (.int 1)))) (dNil))))) ((dC (.int 60))))))) ((dCall cIntT ((dCons ((dOp (rF ixF) ((dVar 1)) (dC (.int 2)))) (dNil)))))))) (dSeq (dIfS (dB (dOp rNeD ((dCall S_time_text ((dCons ((dVar 2)) (dNil))))) ((dVar 0)))) (dNever) (dNext)) (dRet ((dVar 2))))))
theorem r_read_time : ∀ ds Q, S_read_time ds Q → t_read_time { nx := fun _ => Q .non, rt := fun d _ => Q d } (startD ["text", "parts", "seconds"] ds) := by
  rintro ds Q ⟨x, s, rfl, h, hr, q⟩
  have sl := h.ln
  obtain ⟨sp1, sp2⟩ := split_lo (c := 58) h
  rw [← colon] at sp1 sp2
  rcases rd_cases x with ⟨a, b, c, hs, hp⟩ | ⟨_, hn⟩
  · rw [rd_three hs hp] at hr
    split at hr
    · rename_i hok
      have es : secs a b c = s := Option.some.inj hr
      subst es
      obtain ⟨⟨a1, a2, a3⟩, ⟨b1, b2⟩, c1, c2⟩ := parts_inv hp
      have se := secs_lt hp
      have ra := val_reads a3 a1 (by omega)
      have rb := val_reads b2 (by omega) (by omega)
      have rc := val_reads c2 (by omega) (by omega)
      simp! only [t_read_time, hs]
      refine ⟨by omega, [a, b, c], rfl, fun p hp' => sp1 p (by rw [hs]; exact hp'), by show 3 ≤ 1000; decide, true, by rw [hp]; rfl, ?_⟩
      simp! only [Dl.dSeq]
      refine ⟨by omega, _, ra, .inr ⟨by decide, by decide⟩, by omega, _, rb, .inr ⟨by decide, by decide⟩, by omega, _, rc, secs a b c, rfl, se.1, se.2, ?_⟩
      have et := (time_iff hs hp).mpr hok
      rw [et]
      refine ⟨okEqT h.lo h.lo, ite2 (fun z => ?_) fun _ => q⟩
      rw [eqD_str_str, beq_self_eq_true] at z; cases z
    · cases hr
  · rw [hn] at hr; cases hr
theorem timeT_lo {s : Int} (h : 0 ≤ s) : ∀ c ∈ tl (timeT s), c < 128 := fun c hc => (timeT_low h c hc).1
noncomputable def q_read_time (Pk : Ev → Prop) : Ev → Prop := (fun δ => (dSet 1 ((dSplit ":" ((dVar 0))))) { nx := (fun δ => (dNot (dTruF ((dCall S_are_time_parts ((dCons ((dVar 1)) (dNil))))))) δ fun q δ1 => if q = true then Pk δ1 else (fun δ => (dSet 2 ((dOp (rF addF) ((dOp (rF addF) ((dOp (rIC CMul fun i j => .int (i * j)) ((dCall cIntT ((dCons ((dOp (rF ixF) ((dVar 1)) (dC (.int 0)))) (dNil))))) ((dC (.int 3600))))) ((dOp (rIC CMul fun i j => .int (i * j)) ((dCall cIntT ((dCons ((dOp (rF ixF) ((dVar 1)) (dC (.int 1)))) (dNil))))) ((dC (.int 60))))))) ((dCall cIntT ((dCons ((dOp (rF ixF) ((dVar 1)) (dC (.int 2)))) (dNil)))))))) { nx := (fun δ => (dB (dOp rNeD ((dCall S_time_text ((dCons ((dVar 2)) (dNil))))) ((dVar 0)))) δ fun q δ1 => if q = true then Pk δ1 else (fun _ => False) δ1), rt := fun _ _ => False } δ) δ1), rt := fun _ _ => False } δ)
theorem rr_read_time : ∀ ds, SR_read_time ds → q_read_time (fun _ => True) (startD ["text", "parts", "seconds"] ds) := by
  rintro ds ⟨x, rfl, h, hr⟩
  have sl := h.ln
  obtain ⟨sp1, sp2⟩ := split_lo (c := 58) h
  rw [← colon] at sp1 sp2
  simp! only [q_read_time]
  refine ⟨by omega, Txt.split x (":" : Str), rfl, sp1, by omega, ?_⟩
  rcases rd_cases x with ⟨a, b, c, hs, hp⟩ | ⟨hf, hn⟩
  · rw [rd_three hs hp] at hr
    rw [hs, hp]
    simp! only [Dl.dSeq]
    split at hr
    · cases hr
    · rename_i hok
      obtain ⟨⟨a1, a2, a3⟩, ⟨b1, b2⟩, c1, c2⟩ := parts_inv hp
      have se := secs_lt hp
      have ra := val_reads a3 a1 (by omega)
      have rb := val_reads b2 (by omega) (by omega)
      have rc := val_reads c2 (by omega) (by omega)
      refine ⟨by omega, _, ra, .inr ⟨by decide, by decide⟩, by omega, _, rb, .inr ⟨by decide, by decide⟩, by omega, _, rc, secs a b c, rfl, se.1, se.2, ?_⟩
      refine ⟨okEqT (timeT_lo se.1) h.lo, ite2 (fun _ => trivial) fun z => ?_⟩
      rw [eqD_str_str] at z
      have e : timeT (secs a b c) = x := by simpa using z
      exact hok ((time_iff hs hp).mp e)
  · rw [hf]
    simp! only [Dl.dSeq]
end Law
namespace Law
open PySem L2 Dl
theorem idx_take (b len : Nat) : Builtin.Str.strSliceIndices none (some (b : Int)) 1 len = Builtin.Str.strSliceIndices (some ((0 : Nat) : Int)) (some ((min b len : Nat) : Int)) 1 len := by
  unfold Builtin.Str.strSliceIndices
  have a1 : ¬ ((b : Int) < 0) := by omega
  have a2 : ¬ (((min b len : Nat) : Int) < 0) := by omega
  have a3 : ¬ (((0 : Nat) : Int) < 0) := by decide
  have e1 : max (0 : Int) (min (b : Int) (len : Int)) = ((min b len : Nat) : Int) := by omega
  have e2 : max (0 : Int) (min ((min b len : Nat) : Int) (len : Int)) = ((min b len : Nat) : Int) := by omega
  have e3 : max (0 : Int) (min ((0 : Nat) : Int) (len : Int)) = 0 := by omega
  simp only [a1, a2, a3, if_false, show ((1 : Int) > 0) = True from by simp, if_true, e1, e2, e3]
theorem idx_drop (a len : Nat) : Builtin.Str.strSliceIndices (some (a : Int)) none 1 len = Builtin.Str.strSliceIndices (some ((min a len : Nat) : Int)) (some ((len : Nat) : Int)) 1 len := by
  unfold Builtin.Str.strSliceIndices
  have a1 : ¬ ((a : Int) < 0) := by omega
  have a2 : ¬ (((min a len : Nat) : Int) < 0) := by omega
  have a3 : ¬ (((len : Nat) : Int) < 0) := by omega
  have e1 : max (0 : Int) (min (a : Int) (len : Int)) = ((min a len : Nat) : Int) := by omega
  have e2 : max (0 : Int) (min ((min a len : Nat) : Int) (len : Int)) = ((min a len : Nat) : Int) := by omega
  have e3 : max (0 : Int) (min ((len : Nat) : Int) (len : Int)) = (len : Int) := by omega
  simp only [a1, a2, a3, if_false, show ((1 : Int) > 0) = True from by simp, if_true, e1, e2, e3]
theorem slT_take (x : Str) (b : Nat) : tl (slT x none (some (b : Int))) = (tl x).take b := by
  have hl : (tl x).length = x.length := rfl
  unfold slT
  rw [idx_take]
  have e1 := StrLaws.sliced_plain x (a := 0) (b := min b x.length) (by omega) (by omega)
  have e2 := StrLaws.strSliceIndices_plain (a := 0) (b := min b x.length) (len := x.length) (by omega) (by omega)
  split
  · rename_i h
    rw [e2] at h
    have h' : min b x.length = x.length := by simpa using h
    rw [List.take_of_length_le (by omega)]
  · rw [e1]
    show ((tl x).drop 0).take (min b x.length - 0) = _
    rw [List.drop_zero, Nat.sub_zero]
    by_cases h : b ≤ x.length
    · rw [Nat.min_eq_left h]
    · rw [Nat.min_eq_right (by omega), List.take_of_length_le (by omega), List.take_of_length_le (by omega)]
theorem slT_drop (x : Str) (a : Nat) : tl (slT x (some (a : Int)) none) = (tl x).drop a := by
  have hl : (tl x).length = x.length := rfl
  unfold slT
  rw [idx_drop]
  have e1 := StrLaws.sliced_plain x (a := min a x.length) (b := x.length) (by omega) (Nat.le_refl _)
  have e2 := StrLaws.strSliceIndices_plain (a := min a x.length) (b := x.length) (len := x.length) (by omega) (Nat.le_refl _)
  split
  · rename_i h
    rw [e2] at h
    have h' : x.length - min a x.length = x.length := by simpa using h
    by_cases z : x.length = 0
    · have : tl x = [] := List.eq_nil_of_length_eq_zero (by omega)
      rw [this]; simp
    · have : a = 0 := by omega
      subst this; simp
  · rw [e1]
    show ((tl x).drop (min a x.length)).take (x.length - min a x.length) = _
    by_cases h : a ≤ x.length
    · rw [Nat.min_eq_left h]
      exact List.take_of_length_le (by rw [List.length_drop]; omega)
    · rw [Nat.min_eq_right (by omega), List.drop_of_length_le (by omega), List.drop_of_length_le (l := tl x) (i := a) (by omega)]; simp
theorem lo_take {B : Nat} {x : Str} (h : Lo B x) (b : Nat) : Lo B (slT x none (some (b : Int))) :=
  ⟨fun c hc => h.lo c (by rw [slT_take] at hc; exact List.mem_of_mem_take hc), by rw [tl_len, slT_take, List.length_take]; have := h.ln; rw [tl_len] at this; omega⟩
theorem lo_drop {B : Nat} {x : Str} (h : Lo B x) (a : Nat) : Lo B (slT x (some (a : Int)) none) :=
  ⟨fun c hc => h.lo c (by rw [slT_drop] at hc; exact List.mem_of_mem_drop hc), by rw [tl_len, slT_drop, List.length_drop]; have := h.ln; rw [tl_len] at this; omega⟩
theorem sw_take (x y : Str) : Txt.startswith x y = true ↔ slT x none (some (y.length : Int)) = y := by
  have e : Txt.startswith x y = true ↔ (tl x).take y.length = tl y := by
    unfold Txt.startswith
    rw [StrLaws.subAt_eq, List.drop_zero]
    have hl : (tl y).length = y.length := rfl
    have hx : (tl x).length = x.length := rfl
    constructor
    · intro h
      simp only [Bool.and_eq_true, beq_iff_eq, decide_eq_true_eq] at h
      exact h.2
    · intro h
      have := congrArg List.length h
      rw [List.length_take] at this
      simp only [Bool.and_eq_true, beq_iff_eq, decide_eq_true_eq]
      exact ⟨by omega, h⟩
  rw [e, ← slT_take]
  exact ⟨fun h => str_ext h, fun h => by rw [h]⟩
end Law
namespace Law
open PySem L2 Dl
noncomputable def rdL (line : Str) (k : Int) : Option Int := if Txt.startswith line (startT k) = true then rdT (slT line (some ((startT k).length : Int)) none) else none
noncomputable def rdF : Int → List Str → Option (List Int)
  | _, [] => some []
  | k, l :: r => (rdL l k).bind fun s => (rdF (k + 1) r).map (s :: ·)
noncomputable def rdLs (x : Str) : Option (List Int) := if (Txt.split x ("\n" : Str)).getLast? = some ("" : Str) then rdF 0 (Txt.split x ("\n" : Str)).dropLast else none
noncomputable def S_lines_of : SpD := fun ds Q => ∃ x : Str, ds = [.str x] ∧ Lo 900 x ∧ (Txt.split x ("\n" : Str)).getLast? = some ("" : Str) ∧ Q (.lst ((Txt.split x ("\n" : Str)).dropLast.map D.str))
noncomputable def SR_lines_of (ds : List D) : Prop := ∃ x : Str, ds = [.str x] ∧ Lo 900 x ∧ ¬ (Txt.split x ("\n" : Str)).getLast? = some ("" : Str)
noncomputable def S_read_lap : SpD := fun ds Q => ∃ (line : Str) (k s : Int), ds = [.str line, .int k] ∧ Lo 900 line ∧ 0 ≤ k ∧ k < 1000 ∧ rdL line k = some s ∧ Q (.int s)
noncomputable def SR_read_lap (ds : List D) : Prop := ∃ (line : Str) (k : Int), ds = [.str line, .int k] ∧ Lo 900 line ∧ 0 ≤ k ∧ k < 1000 ∧ rdL line k = none
noncomputable def S_read_laps : SpD := fun ds Q => ∃ (x : Str) (ss : List Int), ds = [.str x] ∧ Lo 900 x ∧ rdLs x = some ss ∧ Q (.lst (ss.map D.int))
noncomputable def SR_read_laps (ds : List D) : Prop := ∃ x : Str, ds = [.str x] ∧ Lo 900 x ∧ rdLs x = none
theorem l_lines_of : ∀ ds Q, S_lines_of ds Q → ds.length = 1 := by rintro ds Q ⟨_, rfl, _⟩; rfl
theorem l_read_lap : ∀ ds Q, S_read_lap ds Q → ds.length = 2 := by rintro ds Q ⟨_, _, _, rfl, _⟩; rfl
theorem l_read_laps : ∀ ds Q, S_read_laps ds Q → ds.length = 1 := by rintro ds Q ⟨_, _, rfl, _⟩; rfl
theorem lr_lines_of : ∀ ds, SR_lines_of ds → ds.length = 1 := by rintro ds ⟨_, rfl, _⟩; rfl
theorem lr_read_lap : ∀ ds, SR_read_lap ds → ds.length = 2 := by rintro ds ⟨_, _, rfl, _⟩; rfl
theorem lr_read_laps : ∀ ds, SR_read_laps ds → ds.length = 1 := by rintro ds ⟨_, rfl, _⟩; rfl
theorem split_last (x : Str) : ∃ ls e, Txt.split x ("\n" : Str) = ls ++ [e] := by
  rcases List.eq_nil_or_concat (Txt.split x ("\n" : Str)) with h | ⟨ls, e, h⟩
  · have := PyProof.Rows.split_pos x ("\n" : Str)
    rw [h] at this; simp at this
  · exact ⟨ls, e, by rw [h, List.concat_eq_append]⟩
theorem ok_emp : ∀ c ∈ tl ("" : Str), c < 128 := by decide +kernel
theorem lines_lo {B : Nat} {x : Str} (h : Lo B x) : (∀ p ∈ Txt.split x ("\n" : Str), Lo B p) ∧ (Txt.split x ("\n" : Str)).length ≤ B + 1 := by rw [feed]; exact split_lo h
noncomputable def t_lines_of : TSd := dSeq (dSet 1 ((dSplit "\n" ((dVar 0))))) (dSeq (dIfS (dB (dOp rNeD ((dOp (rF ixF) ((dVar 1)) ((dUn rNegD (dC (.int 1)))))) (dC (.str "")))) (dNever) (dNext)) (dRet ((dSlG ((dVar 1)) (dNoPart) (dPart ((dUn rNegD (dC (.int 1)))))))))
theorem r_lines_of : ∀ ds Q, S_lines_of ds Q → t_lines_of { nx := fun _ => Q .non, rt := fun d _ => Q d } (startD ["text", "lines"] ds) := by
  rintro ds Q ⟨x, rfl, h, hl, q⟩
  have := h.ln
  obtain ⟨ls, e, he⟩ := split_last x
  rw [he] at hl q
  rw [List.getLast?_concat] at hl
  have he' : e = ("" : Str) := Option.some.inj hl
  subst he'
  rw [List.dropLast_concat] at q
  simp! only [t_lines_of, he, List.map_append, List.map_cons, List.map_nil, Int.reduceNeg, last_at]
  refine ⟨by omega, okEqT ok_emp ok_emp, ?_⟩
  rw [cut_last]
  exact q
noncomputable def q_lines_of (Pk : Ev → Prop) : Ev → Prop := (fun δ => (dSet 1 ((dSplit "\n" ((dVar 0))))) { nx := (fun δ => (dB (dOp rNeD ((dOp (rF ixF) ((dVar 1)) ((dUn rNegD (dC (.int 1)))))) (dC (.str "")))) δ fun q δ1 => if q = true then Pk δ1 else (fun _ => False) δ1), rt := fun _ _ => False } δ)
theorem rr_lines_of : ∀ ds, SR_lines_of ds → q_lines_of (fun _ => True) (startD ["text", "lines"] ds) := by
  rintro ds ⟨x, rfl, h, hl⟩
  have := h.ln
  obtain ⟨ls, e, he⟩ := split_last x
  have le := (lines_lo h).1 e (by rw [he]; simp)
  rw [he, List.getLast?_concat] at hl
  simp! only [q_lines_of, he, List.map_append, List.map_cons, List.map_nil, Int.reduceNeg, last_at]
  exact ⟨by omega, okEqT le.lo ok_emp, ite2 (fun z => absurd (by rw [z]) hl) fun _ => trivial⟩
noncomputable def t_read_lap : TSd := dSeq (dSet 2 ((dCall S_lap_start ((dCons ((dVar 1)) (dNil)))))) (dSeq (dIfS (dNot (dTruF ((dSw ((dVar 0)) ((dVar 2)))))) (dNever) (dNext)) (dRet ((dCall S_read_time ((dCons ((dSlT ((dVar 0)) (dPart ((dCall cLenT ((dCons ((dVar 2)) (dNil)))))) (dNoPart))) (dNil)))))))
theorem r_read_lap : ∀ ds Q, S_read_lap ds Q → t_read_lap { nx := fun _ => Q .non, rt := fun d _ => Q d } (startD ["line", "place", "start"] ds) := by
  rintro ds Q ⟨line, k, s, rfl, h, k0, k1, hr, q⟩
  have l := h.ln
  have l2 := startT_len k0 k1
  have big : (1000 : Nat) ≤ sizeLine := by decide
  unfold rdL at hr
  split at hr
  · rename_i hs
    simp! only [t_read_lap]
    refine ⟨k, rfl, k0, k1, ?_⟩
    simp! only [hs]
    exact ⟨by omega, by omega, _, s, rfl, lo_drop h _, hr, q⟩
  · cases hr
noncomputable def q_read_lap (Pk : Ev → Prop) : Ev → Prop := (fun δ => (dSet 2 ((dCall S_lap_start ((dCons ((dVar 1)) (dNil)))))) { nx := (fun δ => (dNot (dTruF ((dSw ((dVar 0)) ((dVar 2)))))) δ fun q δ1 => if q = true then Pk δ1 else (fun δ => ((dCons ((dSlT ((dVar 0)) (dPart ((dCall cLenT ((dCons ((dVar 2)) (dNil)))))) (dNoPart))) (dNil))) δ fun ds δ1 => SR_read_time ds ∧ Pk δ1) δ1), rt := fun _ _ => False } δ)
theorem rr_read_lap : ∀ ds, SR_read_lap ds → q_read_lap (fun _ => True) (startD ["line", "place", "start"] ds) := by
  rintro ds ⟨line, k, rfl, h, k0, k1, hr⟩
  have l := h.ln
  have l2 := startT_len k0 k1
  have big : (1000 : Nat) ≤ sizeLine := by decide
  unfold rdL at hr
  simp! only [q_read_lap]
  refine ⟨k, rfl, k0, k1, ?_⟩
  simp! only [Dl.dSeq]
  split at hr
  · rename_i hs
    rw [hs]
    simp! only [Dl.dSeq]
    exact ⟨by omega, by omega, _, rfl, lo_drop h _, hr⟩
  · rename_i hs
    exact ite2 (fun _ => trivial) fun z => absurd (by simpa using z) hs
theorem rdF_some : ∀ {ls : List Str} {k : Int} {ss : List Int}, rdF k ls = some ss → ss.length = ls.length ∧ ∀ (i : Nat) (l : Str), ls[i]? = some l → rdL l (k + i) = ss[i]?
  | [], k, ss, h => by cases h; exact ⟨rfl, fun i l hl => by simp at hl⟩
  | a :: r, k, ss, h => by
    unfold rdF at h
    obtain ⟨s, h1, h2⟩ := Option.bind_eq_some_iff.mp h
    obtain ⟨t, h3, h4⟩ := Option.map_eq_some_iff.mp h2
    subst h4
    obtain ⟨e1, e2⟩ := rdF_some h3
    refine ⟨by simp [e1], fun i l hl => ?_⟩
    cases i with
    | zero => simp at hl; subst hl; simpa using h1
    | succ i =>
      have := e2 i l (by simpa using hl)
      rw [List.getElem?_cons_succ, ← this]
      congr 1; push_cast; omega
theorem rdF_none : ∀ {ls : List Str} {k : Int}, rdF k ls = none → ∃ (j : Nat) (l : Str), ls[j]? = some l ∧ rdL l (k + j) = none ∧ ∀ (i : Nat) (l' : Str), i < j → ls[i]? = some l' → ∃ s, rdL l' (k + i) = some s
  | [], k, h => by cases h
  | a :: r, k, h => by
    unfold rdF at h
    cases q : rdL a k with
    | none => exact ⟨0, a, rfl, by simpa using q, fun i l' hi => absurd hi (by omega)⟩
    | some s =>
      rw [q] at h
      have h' : rdF (k + 1) r = none := by
        cases z : rdF (k + 1) r with
        | none => rfl
        | some t => rw [z] at h; cases h
      obtain ⟨j, l, e1, e2, e3⟩ := rdF_none h'
      refine ⟨j + 1, l, by simpa using e1, by rw [← e2]; congr 1; push_cast; omega, fun i l' hi hl => ?_⟩
      cases i with
      | zero => simp at hl; subst hl; exact ⟨s, by simpa using q⟩
      | succ i =>
        obtain ⟨t, ht⟩ := e3 i l' (by omega) (by simpa using hl)
        exact ⟨t, by rw [← ht]; congr 1; push_cast; omega⟩
noncomputable def lapR : D → Option D
  | .tup [.int k, .str l] => (rdL l k).map D.int
  | _ => none
theorem enum_str {ls : List Str} {i : Nat} {d : D} (h : (enumL (ls.map D.str))[i]? = some d) : ∃ l, ls[i]? = some l ∧ d = .tup [.int (i : Nat), .str l] := by
  obtain ⟨e, he, rfl⟩ := enum_at h
  rw [List.getElem?_map] at he
  cases q : ls[i]? with
  | none => rw [q] at he; cases he
  | some l => rw [q] at he; cases he; exact ⟨l, rfl, rfl⟩
theorem enum_slen (ls : List Str) : (enumL (ls.map D.str)).length = ls.length := by unfold enumL; simp
theorem lapR_map {ls : List Str} {ss : List Int} (h : rdF 0 ls = some ss) : (enumL (ls.map D.str)).filterMap lapR = ss.map D.int := by
  obtain ⟨e1, e2⟩ := rdF_some h
  have at_ : ∀ (i : Nat) (d : D), (enumL (ls.map D.str))[i]? = some d → ∃ s, ss[i]? = some s ∧ lapR d = some (.int s) := fun i d hd => by
    obtain ⟨l, hl, rfl⟩ := enum_str hd
    have lt := (List.getElem?_eq_some_iff.mp hl).1
    have z := e2 i l hl
    rw [List.getElem?_eq_getElem (by omega : i < ss.length)] at z ⊢
    refine ⟨_, rfl, ?_⟩
    show (rdL l (i : Nat)).map D.int = _
    rw [show ((i : Nat) : Int) = 0 + (i : Nat) by omega, z]; rfl
  rw [fm_map (h := fun d => (lapR d).getD .non)]
  · apply List.ext_getElem?
    intro i
    rw [List.getElem?_map, List.getElem?_map]
    cases q : (enumL (ls.map D.str))[i]? with
    | none =>
      have : ss[i]? = none := List.getElem?_eq_none (by have := List.getElem?_eq_none_iff.mp q; rw [enum_slen] at this; omega)
      rw [this]; rfl
    | some d => obtain ⟨s, hs, hd⟩ := at_ i d q; rw [hs]; simp [hd]
  · intro d hd
    obtain ⟨i, hi⟩ := List.mem_iff_getElem?.mp hd
    obtain ⟨s, _, hs⟩ := at_ i d hi
    rw [hs]; rfl
theorem mem_drop_last {α : Type} {l : List α} {x : α} (h : x ∈ l.dropLast) : x ∈ l := List.dropLast_subset _ h
noncomputable def t_read_laps : TSd := dRet ((dComp 2 (diEnum ((dCons ((dCall S_lines_of ((dCons ((dVar 0)) (dNil))))) (dNil)))) (gdTup2 1 2) (dYes) ((dCall S_read_lap ((dCons ((dVar 2)) ((dCons ((dVar 1)) (dNil)))))))))
theorem r_read_laps : ∀ ds Q, S_read_laps ds Q → t_read_laps { nx := fun _ => Q .non, rt := fun d _ => Q d } (startD ["text"] ds) := by
  rintro ds Q ⟨x, ss, rfl, h, hr, q⟩
  unfold rdLs at hr
  split at hr
  · rename_i hl
    obtain ⟨lo1, lo2⟩ := lines_lo h
    obtain ⟨e1, e2⟩ := rdF_some hr
    have ln : (Txt.split x ("\n" : Str)).dropLast.length ≤ 900 := by rw [List.length_dropLast]; omega
    simp! only [t_read_laps]
    refine dComp_at (enumL ((Txt.split x ("\n" : Str)).dropLast.map D.str)) lapR (fun Q q => ?_) (fun d hd => ?_) ?_ ?_
    · simp! only [Dl.dSeq]; exact ⟨x, rfl, h, hl, _, rfl, q⟩
    · obtain ⟨i, hi⟩ := List.mem_iff_getElem?.mp hd
      obtain ⟨l, hl', rfl⟩ := enum_str hi
      have lt := (List.getElem?_eq_some_iff.mp hl').1
      have z := e2 i l hl'
      rw [List.getElem?_eq_getElem (by omega : i < ss.length), Int.zero_add] at z
      simp! only [Dl.dSeq]
      refine ⟨l, (i : Nat), _, rfl, lo1 l (mem_drop_last (List.mem_of_getElem? hl')), by omega, by omega, z, ?_⟩
      show (rdL l (i : Nat)).map D.int = _
      rw [z]; rfl
    · rw [lapR_map hr, List.length_map, e1]; exact Nat.le_trans ln (by decide)
    · rw [lapR_map hr]; exact q
  · cases hr
noncomputable def q_read_laps (Pk : Ev → Prop) : Ev → Prop := (fun δ => (fun δ => ((dCons ((dVar 0)) (dNil))) δ fun ds δ1 => SR_lines_of ds ∧ Pk δ1) δ ∨ rComp 2 (diEnum ((dCons ((dCall S_lines_of ((dCons ((dVar 0)) (dNil))))) (dNil)))) (gdTup2 1 2) ((dCall S_read_lap ((dCons ((dVar 2)) ((dCons ((dVar 1)) (dNil))))))) ((fun δ => ((dCons ((dVar 2)) ((dCons ((dVar 1)) (dNil))))) δ fun ds δ1 => SR_read_lap ds ∧ True)) δ)
theorem rr_read_laps : ∀ ds, SR_read_laps ds → q_read_laps (fun _ => True) (startD ["text"] ds) := by
  rintro ds ⟨x, rfl, h, hr⟩
  unfold rdLs at hr
  split at hr
  · rename_i hl
    obtain ⟨lo1, lo2⟩ := lines_lo h
    obtain ⟨j, l, e1, e2, e3⟩ := rdF_none hr
    have ln : (Txt.split x ("\n" : Str)).dropLast.length ≤ 900 := by rw [List.length_dropLast]; omega
    have jl := (List.getElem?_eq_some_iff.mp e1).1
    have big : (1000 : Nat) ≤ sizeLine := by decide
    have en : ∀ (i : Nat) (l : Str), (Txt.split x ("\n" : Str)).dropLast[i]? = some l → (enumL ((Txt.split x ("\n" : Str)).dropLast.map D.str))[i]? = some (.tup [.int (i : Nat), .str l]) := fun i l hl' => by
      have lt := (List.getElem?_eq_some_iff.mp hl').1
      have z := List.getElem?_eq_getElem (l := enumL ((Txt.split x ("\n" : Str)).dropLast.map D.str)) (i := i) (by rw [enum_slen]; exact lt)
      obtain ⟨l2, h2, e⟩ := enum_str z
      rw [hl'] at h2; cases h2
      rw [z, e]
    unfold q_read_laps
    right
    unfold rComp
    simp! only [Dl.dSeq]
    refine ⟨x, rfl, h, hl, _, rfl, lapR, j, _, en j l e1, by omega, fun d hd => ?_, ?_⟩
    · obtain ⟨i, hi⟩ := List.mem_iff_getElem?.mp hd
      have ij : i < j := by
        have := (List.getElem?_eq_some_iff.mp hi).1
        rw [List.length_take] at this; omega
      rw [List.getElem?_take_of_lt ij] at hi
      obtain ⟨l', hl', rfl⟩ := enum_str hi
      obtain ⟨s, hs⟩ := e3 i l' ij hl'
      rw [Int.zero_add] at hs
      have lt := (List.getElem?_eq_some_iff.mp hl').1
      simp! only [Dl.dSeq]
      refine ⟨l', (i : Nat), s, rfl, lo1 l' (mem_drop_last (List.mem_of_getElem? hl')), by omega, by omega, hs, ?_⟩
      show (rdL l' (i : Nat)).map D.int = _
      rw [hs]; rfl
    · rw [Int.zero_add] at e2
      simp! only [Dl.dSeq]
      exact ⟨l, (j : Nat), rfl, lo1 l (mem_drop_last (List.mem_of_getElem? e1)), by omega, by omega, e2⟩
  · rename_i hl
    unfold q_read_laps
    left
    simp! only [Dl.dSeq]
    exact ⟨x, rfl, h, hl⟩
noncomputable def lsD : Option (List Int) → D
  | some ss => .lst (ss.map D.int)
  | none => .non
noncomputable def toldD (way : Int) (x : Str) : D := if way = 0 then oi (rdT x) else lsD (rdLs x)
noncomputable def S_law_told : SpD := fun ds Q => ∃ (way : Int) (x : Str), ds = [.int way, .str x] ∧ Lo 900 x ∧ Q (toldD way x)
theorem l_law_told : ∀ ds Q, S_law_told ds Q → ds.length = 2 := by rintro ds Q ⟨_, _, rfl, _⟩; rfl
noncomputable def t_law_told_suite (ea : Nat) : TSd := dSeq (dSet 3 ((dLst ((dCons ((dIsE 2 ea true)) ((dCons ((dIsE 2 ea false)) ((dCons ((dIsE 2 ea false)) (dNil)))))))))) (dIfS (dAnd (dTruF ((dIsE 2 ea true))) (dB (dOp rEqD ((dVar 3)) ((dLst ((dCons (dC (.bl true)) ((dCons (dC (.bl false)) ((dCons (dC (.bl false)) (dNil)))))))))))) (dRet (dC .non)) (dNext))
theorem rf_law_told (ea : Nat) : t_law_told_suite ea { nx := fun _ => False, rt := fun d' _ => d' = .non } (onlyPt 4 2 ea) := by
  simp! only [t_law_told_suite, dIsE]
  exact ⟨rfl, rfl, by decide⟩
noncomputable def t_law_told : TSd := dSeq (dTry (dRet ((dIf (dB (dOp rEqD ((dVar 0)) (dC (.int 0)))) ((dCall S_read_time ((dCons ((dVar 1)) (dNil))))) ((dCall S_read_laps ((dCons ((dVar 1)) (dNil)))))))) (fun Pk => (fun δ => (dB (dOp rEqD ((dVar 0)) (dC (.int 0)))) δ fun q δ1 => if q = true then (fun δ => ((dCons ((dVar 1)) (dNil))) δ fun ds δ1 => SR_read_time ds ∧ Pk δ1) δ1 else (fun δ => ((dCons ((dVar 1)) (dNil))) δ fun ds δ1 => SR_read_laps ds ∧ Pk δ1) δ1)) .non) (dRet (dC (.bl false)))
theorem r_law_told : ∀ ds Q, S_law_told ds Q → t_law_told { nx := fun _ => Q .non, rt := fun d _ => Q d } (startD ["_law_way", "_law_text", "e", "_law_flags"] ds) := by
  rintro ds Q ⟨way, x, rfl, h, q⟩
  simp! only [t_law_told]
  unfold dTry toldD at *
  by_cases h0 : way = 0
  · rw [if_pos h0] at q
    cases hr : rdT x with
    | some s =>
      rw [hr] at q
      left
      simp! only [Dl.dSeq]
      exact ite2 (fun _ => ⟨x, s, rfl, h, hr, q⟩) fun z => absurd h0 z
    | none =>
      rw [hr] at q
      right
      refine ⟨fun _ => True, ?_, fun _ _ => q⟩
      simp! only [Dl.dSeq]
      exact ite2 (fun _ => ⟨x, rfl, h, hr⟩) fun z => absurd h0 z
  · rw [if_neg h0] at q
    cases hr : rdLs x with
    | some ss =>
      rw [hr] at q
      left
      simp! only [Dl.dSeq]
      exact ite2 (fun z => absurd z h0) fun _ => ⟨x, ss, rfl, h, hr, q⟩
    | none =>
      rw [hr] at q
      right
      refine ⟨fun _ => True, ?_, fun _ _ => q⟩
      simp! only [Dl.dSeq]
      exact ite2 (fun z => absurd z h0) fun _ => ⟨x, rfl, h, hr⟩
end Law
namespace Law
open PySem L2 Dl
noncomputable def S_law_due : SpD := fun ds Q => ∃ x : Str, ds = [.str x] ∧ Lo 900 x ∧ Q (oi (rdT x))
theorem l_law_due : ∀ ds Q, S_law_due ds Q → ds.length = 1 := by rintro ds Q ⟨_, rfl, _⟩; rfl
noncomputable def noFig : D → Option D
  | .str y => if Txt.contains ("0123456789" : Str) y = true then none else some (.str y)
  | _ => none
theorem noFig_signs (x : Str) : (signL x).filterMap noFig = ((tl x).filter fun c => !figN c).map fun c => D.str ⟨#[c]⟩ := by
  unfold signL
  show ((tl x).map fun c => D.str ⟨#[c]⟩).filterMap noFig = _
  generalize tl x = l
  induction l with
  | nil => rfl
  | cons c r ih =>
    cases h : figN c with
    | true => rw [List.map_cons, List.filterMap_cons_none (by show (if Txt.contains _ _ = true then _ else _) = _; rw [fig_is, h]; rfl), List.filter_cons_of_neg (by simp [h]), ih]
    | false => rw [List.map_cons, List.filterMap_cons_some (b := D.str ⟨#[c]⟩) (by show (if Txt.contains _ _ = true then _ else _) = _; rw [fig_is, h]; rfl), List.filter_cons_of_pos (by simp [h]), ih]; rfl
theorem okL_low : ∀ l : List Nat, (∀ c ∈ l, c < 128) → D.okL (l.map fun c => D.str ⟨#[c]⟩) = true
  | [], _ => rfl
  | c :: r, h => by
    show (D.ok (.str ⟨#[c]⟩) && D.okL (r.map fun c => D.str ⟨#[c]⟩)) = true
    rw [okL_low r fun d hd => h d (List.mem_cons_of_mem _ hd), ok_digs (x := ⟨#[c]⟩) fun d hd => by
      have : d = c := by simpa using hd
      subst this; exact h d List.mem_cons_self]
    rfl
noncomputable def mostL (j : Nat) : Int := if j = 0 then 6 else 2
noncomputable def wordB (j : Nat) (w : Str) : Bool := figB w && decide (1 ≤ w.length) && decide ((w.length : Int) ≤ mostL j) && (if j = 0 then decide (numT (valT w) = w) else decide (w.length = 2) && decide (valT w ≤ 59))
theorem rd_words {a b c : Str} : (partsB [a, b, c] && okC a b c) = (wordB 0 a && wordB 1 b && wordB 2 c) := by
  rw [Bool.eq_iff_iff]
  simp only [partsB, okC, wordB, mostL, Bool.and_eq_true, decide_eq_true_eq, if_true, show ((1 : Nat) = 0) = False from by simp, show ((2 : Nat) = 0) = False from by simp, if_false]
  constructor
  · rintro ⟨⟨⟨⟨⟨a1, a2⟩, b1⟩, c1⟩, f1, f2, f3⟩, ⟨v1, v2⟩, n1⟩
    exact ⟨⟨⟨⟨⟨f1, a1⟩, by omega⟩, n1⟩, ⟨⟨f2, by omega⟩, by omega⟩, b1, v1⟩, ⟨⟨f3, by omega⟩, by omega⟩, c1, v2⟩
  · rintro ⟨⟨⟨⟨⟨f1, a1⟩, a2⟩, n1⟩, ⟨⟨f2, _⟩, _⟩, b1, v1⟩, ⟨⟨f3, _⟩, _⟩, c1, v2⟩
    exact ⟨⟨⟨⟨⟨a1, by omega⟩, b1⟩, c1⟩, f1, f2, f3⟩, ⟨v1, v2⟩, n1⟩
noncomputable def t_law_due : TSd := dSeq (dSet 1 ((dSplit ":" ((dVar 0))))) (dSeq (dIfS (dB (dOp rNeD ((dCall cLenF ((dCons ((dVar 1)) (dNil))))) (dC (.int 3)))) (dRet (dC .non)) (dNext)) (dSeq (dFor (diEnum ((dCons ((dVar 1)) (dNil)))) (gdTup2 2 3) (dSeq (dIfS (dOr (dB (dOp rNeD ((dComp 1 (diText ((dVar 3))) (gdName 4) (dB (dOp rNinT ((dVar 4)) (dC (.str "0123456789")))) ((dVar 4)))) ((dLst (dNil))))) (dNot (dB (dChain (fun i j => decide (i ≤ j)) (fun i j => decide (i ≤ j)) (dC (.int 1)) ((dCall cLenT ((dCons ((dVar 3)) (dNil))))) ((dOp (rF ixF) ((dLst ((dCons (dC (.int 6)) ((dCons (dC (.int 2)) ((dCons (dC (.int 2)) (dNil))))))))) ((dVar 2)))))))) (dRet (dC .non)) (dNext)) (dIfS (dOr (dAnd (dB (dOp (rII fun i j => .bl (decide (j < i))) ((dVar 2)) (dC (.int 0)))) (dOr (dB (dOp rNeD ((dCall cLenT ((dCons ((dVar 3)) (dNil))))) (dC (.int 2)))) (dB (dOp (rII fun i j => .bl (decide (j < i))) ((dCall cIntT ((dCons ((dVar 3)) (dNil))))) (dC (.int 59)))))) (dAnd (dB (dOp rEqD ((dVar 2)) (dC (.int 0)))) (dB (dOp rNeD ((dVar 3)) ((dCall cStrI ((dCons ((dCall cIntT ((dCons ((dVar 3)) (dNil))))) (dNil))))))))) (dRet (dC .non)) (dNext)))) (dRet ((dOp (rF addF) ((dOp (rF addF) ((dOp (rIC CMul fun i j => .int (i * j)) ((dCall cIntT ((dCons ((dOp (rF ixF) ((dVar 1)) (dC (.int 0)))) (dNil))))) (dC (.int 3600)))) ((dOp (rIC CMul fun i j => .int (i * j)) ((dCall cIntT ((dCons ((dOp (rF ixF) ((dVar 1)) (dC (.int 1)))) (dNil))))) (dC (.int 60)))))) ((dCall cIntT ((dCons ((dOp (rF ixF) ((dVar 1)) (dC (.int 2)))) (dNil))))))))))
theorem r_law_due : ∀ ds Q, S_law_due ds Q → t_law_due { nx := fun _ => Q .non, rt := fun d _ => Q d } (startD ["_law_text", "_law_words", "_law_at", "_law_word"] ds) := by
  rintro ds Q ⟨x, rfl, h, q⟩
  have sl := h.ln
  obtain ⟨sp1, sp2⟩ := split_lo (c := 58) h
  rw [← colon] at sp1 sp2
  have big : (1000 : Nat) ≤ sizeLine := by decide
  simp! only [t_law_due, List.length_map]
  refine ⟨by omega, ite2 (fun h3 => ?_) fun h3 => ?_⟩
  · match hs : Txt.split x (":" : Str), h3 with
    | [a, b, c], _ =>
    rw [hs] at sp1
    have er : rdT x = if (wordB 0 a && wordB 1 b && wordB 2 c) = true then some (secs a b c) else none := by
      unfold rdT; rw [hs]; show (if (partsB [a, b, c] && okC a b c) = true then _ else _) = _; rw [rd_words]
    have bad : ∀ (j : Nat) (w : Str), ([a, b, c] : List Str)[j]? = some w → wordB j w = false → Q .non := fun j w hw hb => by
      have : (wordB 0 a && wordB 1 b && wordB 2 c) = false := by
        match j, hw with
        | 0, hw => cases hw; rw [hb]; rfl
        | 1, hw => cases hw; rw [hb]; cases wordB 0 a <;> rfl
        | 2, hw => cases hw; rw [hb]; simp
      rw [er, this] at q; exact q
    simp! only [Dl.dSeq]
    refine dFor_by (fun j δ => ∃ s2 s3, δ = [.sh (.str x), .sh (.lst [.str a, .str b, .str c]), s2, s3] ∧ ∀ (i : Nat) (w : Str), i < j → ([a, b, c] : List Str)[i]? = some w → wordB i w = true) (enumL [.str a, .str b, .str c]) _ (fun Q h => ?_) ⟨.no, .no, rfl, fun i w hi => absurd hi (by omega)⟩ ?_ ?_
    · simp! only [Dl.dSeq]; exact h
    · rintro j d δ hj ⟨s2, s3, rfl, hok⟩
      obtain ⟨w, hw, rfl⟩ := enum_str (ls := [a, b, c]) hj
      have lw := sp1 w (List.mem_of_getElem? hw)
      have lwl := lw.ln
      have j3 : j < 3 := by have := (List.getElem?_eq_some_iff.mp hw).1; simpa using this
      have hm : atI [D.int 6, D.int 2, D.int 2] ((j : Nat) : Int) = some (.int (mostL j)) := by
        match j, j3 with
        | 0, _ => rfl
        | 1, _ => rfl
        | 2, _ => rfl
      have wf : ∀ p : Prop, (wordB j w = true → p) → ¬ p → wordB j w = false := fun p hp np => by
        cases z : wordB j w with
        | false => rfl
        | true => exact absurd (hp z) np
      have fin : wordB j w = true → ∀ (i : Nat) (w : Str), i < j + 1 → ([a, b, c] : List Str)[i]? = some w → wordB i w = true := fun hb i w' hi hw' => by
        by_cases e : i = j
        · subst e; rw [hw] at hw'; cases hw'; exact hb
        · exact hok i w' (by omega) hw'
      simp! only [Dl.dSeq]
      refine dComp_at (signL w) noFig (fun Q q => ?_) (fun d hd => ?_) ?_ ?_
      · simp! only [diText]
        exact ⟨all_low lw, q⟩
      · obtain ⟨c, hc, rfl⟩ := List.mem_map.mp hd
        simp! only [Dl.dSeq]
        refine ite2 (fun z => ?_) fun z => ?_
        · show (if Txt.contains _ _ = true then _ else _) = _; rw [if_neg (by rw [z]; decide)]
        · show (if Txt.contains _ _ = true then _ else _) = _; rw [if_pos (by simpa using z)]
      · refine Nat.le_trans (List.length_filterMap_le _ _) ?_
        have : (signL w).length = w.length := by unfold signL; simp [Str.length]
        rw [this]; omega
      rw [noFig_signs]
      have okR : okEq (.lst (((tl w).filter fun c => !figN c).map fun c => D.str ⟨#[c]⟩)) (.lst []) := by
        refine ⟨okL_low _ fun c hc => lw.lo c (List.mem_filter.mp hc).1, rfl, ?_⟩
        show min _ (0 + 1) ≤ 60
        exact Nat.le_trans (Nat.min_le_right ..) (by decide)
      refine ⟨okR, ite2 (fun z => ?_) fun z => ?_⟩
      · refine bad j w hw (wf (figB w = true) (fun hb => ?_) fun hf => ?_)
        · unfold wordB at hb; simp only [Bool.and_eq_true] at hb; exact hb.1.1.1
        · have : (tl w).filter (fun c => !figN c) = [] := List.filter_eq_nil_iff.mpr fun c hc => by have := List.all_eq_true.mp hf c hc; simp [this]
          rw [this] at z; cases z
      · have hf : figB w = true := by
          refine List.all_eq_true.mpr fun c hc => ?_
          cases q : figN c with
          | true => rfl
          | false =>
            have hm' : c ∈ (tl w).filter fun c => !figN c := List.mem_filter.mpr ⟨hc, by simp [q]⟩
            match e : (tl w).filter (fun c => !figN c) with
            | [] => rw [e] at hm'; cases hm'
            | y :: r => rw [e] at z; exact absurd rfl z
        have hd := figB_digs.mp hf
        simp! only [Dl.dSeq]
        refine ⟨by omega, ite2 (fun l1 => ?_) fun l1 => bad j w hw (wf (1 ≤ w.length) (fun hb => by unfold wordB at hb; simp only [Bool.and_eq_true, decide_eq_true_eq] at hb; exact hb.1.1.2) (by omega))⟩
        rw [hm]
        refine ⟨_, rfl, ite2 (fun l2 => ?_) fun l2 => bad j w hw (wf ((w.length : Int) ≤ mostL j) (fun hb => by unfold wordB at hb; simp only [Bool.and_eq_true, decide_eq_true_eq] at hb; exact hb.1.2) l2)⟩
        have m6 : mostL j ≤ 6 := by unfold mostL; split <;> omega
        have rw_ := val_reads hd (by omega) (by omega)
        have vl := val_lt (k := 6) hd (by omega)
        have vn := val_nn w
        have e6 : (10 : Int) ^ 6 = 1000000 := by decide
        rw [e6] at vl
        refine ite2 (fun j0 => ?_) fun j0 => ?_
        · have jn : j ≠ 0 := by omega
          refine ⟨by omega, ite2 (fun l3 => ⟨by omega, _, rw_, ite2 (fun v => ?_) fun v => ?_⟩) fun l3 => ?_⟩
          · exact bad j w hw (wf (valT w ≤ 59) (fun hb => by unfold wordB at hb; simp only [Bool.and_eq_true, decide_eq_true_eq, if_neg jn] at hb; exact hb.2.2) (by omega))
          · refine ite2 (fun z => absurd z (by omega)) fun _ => ⟨_, _, rfl, fin ?_⟩
            unfold wordB
            rw [hf, decide_eq_true (show 1 ≤ w.length by omega), decide_eq_true l2, if_neg jn, decide_eq_true (show w.length = 2 by omega), decide_eq_true (show valT w ≤ 59 by omega)]; rfl
          · exact bad j w hw (wf (w.length = 2) (fun hb => by unfold wordB at hb; simp only [Bool.and_eq_true, decide_eq_true_eq, if_neg jn] at hb; exact hb.2.1) (by omega))
        · have jn : j = 0 := by omega
          refine ite2 (fun _ => ⟨by omega, _, rw_, by omega, okEqT lw.lo (fun c hc => by have := numT_digs vn c hc; omega), ite2 (fun e => ?_) fun e => ?_⟩) fun z => absurd (by rw [jn]; rfl) z
          · refine ⟨_, _, rfl, fin ?_⟩
            unfold wordB
            rw [hf, decide_eq_true (show 1 ≤ w.length by omega), decide_eq_true l2, if_pos jn, decide_eq_true (show numT (valT w) = w from e.symm)]; rfl
          · exact bad j w hw (wf (numT (valT w) = w) (fun hb => by unfold wordB at hb; simp only [Bool.and_eq_true, decide_eq_true_eq, if_pos jn] at hb; exact hb.2) fun z => e z.symm)
    · rintro δ ⟨s2, s3, rfl, hok⟩
      have l3 : (enumL [D.str a, D.str b, D.str c]).length = 3 := rfl
      rw [l3] at hok
      have ha := hok 0 a (by decide) rfl
      have hb := hok 1 b (by decide) rfl
      have hc := hok 2 c (by decide) rfl
      rw [er, ha, hb, hc] at q
      have dg : ∀ j w, wordB j w = true → digs w ∧ 1 ≤ w.length ∧ w.length ≤ 6 := fun j w hb => by
        unfold wordB at hb; simp only [Bool.and_eq_true, decide_eq_true_eq] at hb
        have m6 : mostL j ≤ 6 := by unfold mostL; split <;> omega
        exact ⟨figB_digs.mp hb.1.1.1, hb.1.1.2, by have := hb.1.2; omega⟩
      obtain ⟨a1, a2, a3⟩ := dg 0 a ha
      obtain ⟨b1, b2, b3⟩ := dg 1 b hb
      obtain ⟨c1, c2, c3⟩ := dg 2 c hc
      simp! only [Dl.dSeq]
      exact ⟨by omega, _, val_reads a1 a2 (by omega), .inr ⟨by decide, by decide⟩, by omega, _, val_reads b1 b2 (by omega), .inr ⟨by decide, by decide⟩, by omega, _, val_reads c1 c2 (by omega), q⟩
  · have : rdT x = none := by
      unfold rdT
      match q : Txt.split x (":" : Str) with
      | [a, b, c] => rw [q] at h3; exact absurd rfl h3
      | [] => rfl
      | [_] => rfl
      | [_, _] => rfl
      | _ :: _ :: _ :: _ :: _ => rfl
    rw [this] at q; exact q
noncomputable def S_law_laps : SpD := fun ds Q => ∃ x : Str, ds = [.str x] ∧ Lo 900 x ∧ Q (toldD 1 x)
theorem l_law_laps : ∀ ds Q, S_law_laps ds Q → ds.length = 1 := by rintro ds Q ⟨_, rfl, _⟩; rfl
theorem rdF_snoc : ∀ {ls : List Str} {k : Int} {ss : List Int} {l : Str} {s : Int}, rdF k ls = some ss → rdL l (k + ls.length) = some s → rdF k (ls ++ [l]) = some (ss ++ [s])
  | [], k, ss, l, s, h, hl => by
    cases h
    show (rdL l k).bind _ = _
    rw [show k = k + (([] : List Str).length : Nat) by simp, hl]; rfl
  | a :: r, k, ss, l, s, h, hl => by
    unfold rdF at h
    obtain ⟨t, h1, h2⟩ := Option.bind_eq_some_iff.mp h
    obtain ⟨u, h3, h4⟩ := Option.map_eq_some_iff.mp h2
    subst h4
    show (rdL a k).bind (fun s => (rdF (k + 1) (r ++ [l])).map (s :: ·)) = _
    rw [h1, rdF_snoc h3 (by rw [← hl]; congr 1; simp only [List.length_cons]; push_cast; omega)]; rfl
theorem rdF_bad {ls : List Str} {j : Nat} {l : Str} (hl : ls[j]? = some l) (hn : rdL l (j : Nat) = none) : rdF 0 ls = none := by
  cases h : rdF 0 ls with
  | none => rfl
  | some ss =>
    obtain ⟨e1, e2⟩ := rdF_some h
    have z := e2 j l hl
    rw [Int.zero_add, hn, List.getElem?_eq_getElem (by have := (List.getElem?_eq_some_iff.mp hl).1; omega)] at z
    cases z
noncomputable def t_law_laps : TSd := dSeq (dSet 1 ((dSplit "\n" ((dVar 0))))) (dSeq (dOwn 2 (dNil)) (dSeq (dFor (diEnum ((dCons ((dSlG ((dVar 1)) (dNoPart) (dPart ((dUn rNegD (dC (.int 1))))))) (dNil)))) (gdTup2 3 4) (dSeq (dSet 5 ((dOp (rF addF) ((dCall cStrI ((dCons ((dOp (rF addF) ((dVar 3)) (dC (.int 1)))) (dNil))))) (dC (.str " "))))) (dSeq (dIfS (dOr (dB (dOp rNeD ((dSlT ((dVar 4)) (dNoPart) (dPart ((dCall cLenT ((dCons ((dVar 5)) (dNil)))))))) ((dVar 5)))) (dB (dOp rIsN ((dCall S_law_due ((dCons ((dSlT ((dVar 4)) (dPart ((dCall cLenT ((dCons ((dVar 5)) (dNil)))))) (dNoPart))) (dNil))))) (dC .non)))) (dRet (dC .non)) (dNext)) (dApp 2 ((dCall S_law_due ((dCons ((dSlT ((dVar 4)) (dPart ((dCall cLenT ((dCons ((dVar 5)) (dNil)))))) (dNoPart))) (dNil))))))))) (dFrz 2 (dRet ((dIf (dB (dOp rEqD ((dOp (rF ixF) ((dVar 1)) ((dUn rNegD (dC (.int 1)))))) (dC (.str "")))) ((dVar 2)) (dC .non)))))))
theorem r_law_laps : ∀ ds Q, S_law_laps ds Q → t_law_laps { nx := fun _ => Q .non, rt := fun d _ => Q d } (startD ["_law_text", "_law_lines", "_law_found", "_law_at", "_law_line", "_law_head"] ds) := by
  rintro ds Q ⟨x, rfl, h, q⟩
  have sl := h.ln
  obtain ⟨lo1, lo2⟩ := lines_lo h
  obtain ⟨ls, e, he⟩ := split_last x
  have big : (10000 : Nat) ≤ sizeLine := by decide
  have u1 : (" " : Str).length = 1 := by decide +kernel
  have lsl : ls.length ≤ 900 := by rw [he, List.length_append] at lo2; simp at lo2; omega
  have el : toldD 1 x = if e = ("" : Str) then lsD (rdF 0 ls) else .non := by
    unfold toldD rdLs
    rw [if_neg (by decide), he, List.getLast?_concat, List.dropLast_concat]
    by_cases z : e = ("" : Str)
    · rw [if_pos (by rw [z]), if_pos z]
    · rw [if_neg (fun w => z (Option.some.inj w)), if_neg z]; rfl
  have le : Lo 900 e := lo1 e (by rw [he]; simp)
  simp! only [t_law_laps]
  refine ⟨by omega, ?_⟩
  rw [he]
  simp! only [List.map_append]
  refine dFor_by (fun j δ => ∃ (ss : List Int) (s3 s4 s5 : Sl), δ = [.sh (.str x), .sh (.lst (ls.map D.str ++ [.str e])), .ow (ss.map D.int), s3, s4, s5] ∧ rdF 0 (ls.take j) = some ss) (enumL (ls.map D.str)) _ (fun Q h => ?_) ⟨[], .no, .no, .no, rfl, rfl⟩ ?_ ?_
  · simp! only [Int.reduceNeg]
    rw [cut_last]; exact h
  · rintro j d δ hj ⟨ss, s3, s4, s5, rfl, hF⟩
    obtain ⟨l, hl, rfl⟩ := enum_str hj
    have lt := (List.getElem?_eq_some_iff.mp hl).1
    have ll : Lo 900 l := lo1 l (by rw [he]; exact List.mem_append_left _ (List.mem_of_getElem? hl))
    have lll := ll.ln
    have st := startT_len (k := (j : Nat)) (by omega) (by omega)
    have nl := numT_len (n := ((j : Nat) : Int) + 1) (k := 9) (by omega) (by decide) (by omega)
    have bad : rdL l (j : Nat) = none → Q .non := fun hn => by
      have z := rdF_bad hl hn
      rw [el, z] at q
      split at q <;> exact q
    have e1 := (rdF_some hF).1
    have tkl : (ls.take j).length = j := by rw [List.length_take]; omega
    simp! only [Dl.dSeq]
    have eh : Str.ofString (toString (((j : Nat) : Int) + 1)) ++ Str.ofString " " = startT (j : Nat) := rfl
    have nl' : (Str.ofString (toString (((j : Nat) : Int) + 1))).length ≤ 9 := nl
    refine ⟨by omega, _, if_pos (show (Str.ofString (toString (((j : Nat) : Int) + 1))).length + (" " : Str).length ≤ sizeLine by rw [u1]; omega), ?_⟩
    rw [eh]
    simp! only [Dl.dSeq]
    have lt' := lo_take ll (startT (j : Nat)).length
    have ld := lo_drop ll (startT (j : Nat)).length
    refine ⟨by omega, by omega, okEqT lt'.lo (fun c hc => (startT_low (by omega) c hc).1), ite2 (fun z => ?_) fun z => ?_⟩
    · have hsw : Txt.startswith l (startT (j : Nat)) = true := (sw_take _ _).mpr z
      have er : rdL l (j : Nat) = rdT (slT l (some ((startT (j : Nat)).length : Int)) none) := by unfold rdL; rw [if_pos hsw]
      refine ⟨by omega, by omega, _, rfl, ld, ?_⟩
      cases hr : rdT (slT l (some ((startT (j : Nat)).length : Int)) none) with
      | none =>
        simp! only [oi_none, oi_some]
        exact bad (by rw [er, hr])
      | some s =>
        simp! only [oi_none, oi_some]
        refine ⟨by omega, by omega, _, rfl, ld, by rw [List.length_map]; omega, ss ++ [s], .sh (.int (j : Nat)), .sh (.str l), .sh (.str (startT (j : Nat))), ?_, ?_⟩
        · rw [hr, List.map_append]; rfl
        · rw [show ls.take (j + 1) = ls.take j ++ [l] by rw [List.take_add_one, hl]; rfl]
          exact rdF_snoc hF (by rw [tkl, Int.zero_add, er, hr])
    · exact bad (by unfold rdL; rw [if_neg fun w => z ((sw_take _ _).mp w)])
  · rintro δ ⟨ss, s3, s4, s5, rfl, hF⟩
    rw [enum_slen, List.take_length] at hF
    rw [el, hF] at q
    simp! only [Int.reduceNeg, last_at]
    refine ⟨okEqT le.lo ok_emp, ite2 (fun z => ?_) fun z => ?_⟩
    · rw [if_pos z] at q; exact q
    · rw [if_neg z] at q; exact q
end Law
namespace Law
open PySem L2 Dl
theorem rd_time {s : Int} (h : 0 ≤ s) (h1 : s < 3600000000) : rdT (timeT s) = some s := by
  obtain ⟨a, b, c⟩ := parts_of h
  have e2 := p2_at b.1 b.2
  have e3 := p2_at c.1 c.2
  have l1 := numT_len (n := s / 3600) (k := 6) a (by decide) (by omega)
  have ap := numT_pos a
  have hp : partsB [numT (s / 3600), p2 (s % 3600 / 60), p2 (s % 60)] = true := by
    show (decide _ && decide _ && decide _ && decide _ && (figB _ && (figB _ && figB _))) = true
    rw [decide_eq_true ap, decide_eq_true l1, decide_eq_true e2.2.2.1, decide_eq_true e3.2.2.1, figB_digs.mpr (numT_digs a), figB_digs.mpr e2.2.2.2.1, figB_digs.mpr e3.2.2.2.1]; rfl
  have va : valT (numT (s / 3600)) = s / 3600 := Option.some.inj ((val_reads (numT_digs a) ap (by omega)).symm.trans (PySem.W.KIN.num_reads a (by omega)))
  have vb : valT (p2 (s % 3600 / 60)) = s % 3600 / 60 := Option.some.inj ((val_reads e2.2.2.2.1 (by omega) (by omega)).symm.trans e2.2.1)
  have vc : valT (p2 (s % 60)) = s % 60 := Option.some.inj ((val_reads e3.2.2.2.1 (by omega) (by omega)).symm.trans e3.2.1)
  have ok : okC (numT (s / 3600)) (p2 (s % 3600 / 60)) (p2 (s % 60)) = true := by
    unfold okC
    rw [va, vb, vc, decide_eq_true (show s % 3600 / 60 ≤ 59 by omega), decide_eq_true (show s % 60 ≤ 59 by omega), decide_eq_true rfl]; rfl
  rw [rd_three (timeT_split h) hp, if_pos ok]
  unfold secs
  rw [va, vb, vc]
  congr 1; omega
theorem time_inj {s t : Int} (hs : 0 ≤ s ∧ s < 400000) (ht : 0 ≤ t ∧ t < 400000) : timeT s = timeT t ↔ s = t :=
  ⟨fun h => Option.some.inj ((rd_time hs.1 (by omega)).symm.trans ((congrArg rdT h).trans (rd_time ht.1 (by omega)))), fun h => by rw [h]⟩
theorem num_112 : ∀ n : Fin 112, (numT (n.val : Int)).length = if n.val < 10 then 1 else if n.val < 100 then 2 else 3 := by decide +kernel
theorem time_len {s : Int} (h : 0 ≤ s ∧ s < 400000) : (timeT s).length = (if s / 3600 < 10 then 1 else if s / 3600 < 100 then 2 else 3) + 6 := by
  obtain ⟨a, b, c⟩ := parts_of h.1
  have e2 := (p2_at b.1 b.2).2.2.1
  have e3 := (p2_at c.1 c.2).2.2.1
  have e4 : (":" : Str).length = 1 := by decide +kernel
  have n := num_112 ⟨(s / 3600).toNat, by omega⟩
  have en : (((s / 3600).toNat : Nat) : Int) = s / 3600 := by omega
  simp only [en] at n
  unfold timeT
  simp only [Str.length_append, e2, e3, e4, n]
  by_cases z : s / 3600 < 10
  · rw [if_pos z, if_pos (by omega)]
  · rw [if_neg z, if_neg (by omega)]
    by_cases y : s / 3600 < 100
    · rw [if_pos y, if_pos (by omega)]
    · rw [if_neg y, if_neg (by omega)]
theorem lo_time {s : Int} (h : 0 ≤ s ∧ s < 400000) : Lo 20 (timeT s) := ⟨timeT_lo h.1, timeT_len h.1 (by omega)⟩
theorem Lo.le {A B : Nat} {x : Str} (h : Lo A x) (hb : A ≤ B) : Lo B x := ⟨h.lo, Nat.le_trans h.ln hb⟩
theorem Lo.app {A B : Nat} {x y : Str} (h : Lo A x) (h2 : Lo B y) : Lo (A + B) (x ++ y) := ⟨low_app h.lo h2.lo, by rw [Str.length_append]; exact Nat.add_le_add h.ln h2.ln⟩
theorem sizes_of {d : D} (h : d ∈ [D.int 9, D.int 70, D.int 4000, D.int 400000]) : ∃ m : Int, d = .int m ∧ 0 < m ∧ m ≤ 400000 := by
  simp only [List.mem_cons, List.not_mem_nil, or_false] at h
  rcases h with rfl | rfl | rfl | rfl
  · exact ⟨9, rfl, by decide, by decide⟩
  · exact ⟨70, rfl, by decide, by decide⟩
  · exact ⟨4000, rfl, by decide, by decide⟩
  · exact ⟨400000, rfl, by decide, by decide⟩
theorem lo_laps {ss : List Int} (h : smalls ss) (h4 : ss.length ≤ 4) : Lo 130 (lapsT 0 ss) := by
  refine ⟨lapsT_low h, ?_⟩
  rw [tl_len]
  unfold lapsT
  rw [tl_glue]
  have := flat_len (B := 31) (((linesT 0 ss).map fun x => x ++ ("\n" : Str)).map tl) fun l hl => by
    obtain ⟨y, hy, rfl⟩ := List.mem_map.mp hl
    obtain ⟨x, hx, rfl⟩ := List.mem_map.mp hy
    obtain ⟨k, s, rfl, k0, k1, s0, s1⟩ := lines_mem h x hx
    have := lineT_len k0 k1 s0 s1
    have u1 : ("\n" : Str).length = 1 := by decide +kernel
    rw [← tl_len, Str.length_append, u1]; omega
  rw [List.length_map, List.length_map, lines_len] at this
  omega
theorem sign8 {g : Int} (g0 : 0 ≤ g) (g1 : g < 8) : ∃ y : Str, (if 0 ≤ g then (signL ("0:9\n a-6" : Str))[g.toNat]? else none) = some (.str y) ∧ Lo 1 y := by
  have e : signL ("0:9\n a-6" : Str) = [48, 58, 57, 10, 32, 97, 45, 54].map fun c => D.str ⟨#[c]⟩ := by
    unfold signL
    rw [show ("0:9\n a-6" : Str).cps.toList = [48, 58, 57, 10, 32, 97, 45, 54] by decide +kernel]
  rw [if_pos g0, e, List.getElem?_map]
  have hlt : g.toNat < [48, 58, 57, 10, 32, 97, 45, 54].length := by simp; omega
  rw [List.getElem?_eq_getElem hlt]
  refine ⟨_, rfl, fun c hc => ?_, by show 1 ≤ 1; decide⟩
  have hm := List.getElem_mem hlt
  have : c = [48, 58, 57, 10, 32, 97, 45, 54][g.toNat] := by simpa using hc
  rw [← this] at hm
  simp only [List.mem_cons, List.not_mem_nil, or_false] at hm
  omega
noncomputable def tot (ls : List Str) : Nat := (ls.map fun x => x.length + 1).sum
theorem tot_app (a b : List Str) : tot (a ++ b) = tot a + tot b := by unfold tot; rw [List.map_append, List.sum_append]
theorem tot_take (n : Nat) (l : List Str) : tot (l.take n) ≤ tot l := by have := tot_app (l.take n) (l.drop n); rw [List.take_append_drop] at this; omega
theorem tot_drop (n : Nat) (l : List Str) : tot (l.drop n) ≤ tot l := by have := tot_app (l.take n) (l.drop n); rw [List.take_append_drop] at this; omega
theorem tot_rev : ∀ l : List Str, tot l.reverse = tot l
  | [] => rfl
  | a :: r => by rw [List.reverse_cons, tot_app, tot_rev r]; show tot r + ((a.length + 1) + 0) = (a.length + 1) + tot r; omega
theorem tot_len : ∀ l : List Str, l.length ≤ tot l
  | [] => Nat.le_refl _
  | a :: r => by have := tot_len r; show r.length + 1 ≤ (a.length + 1) + tot r; omega
theorem nl1 : ("\n" : Str).length = 1 := by decide +kernel
theorem nl_lo : ∀ c ∈ tl ("\n" : Str), c < 128 := by decide +kernel
theorem join_tot : ∀ l : List Str, l ≠ [] → (Str.join ("\n" : Str) l).length + 1 = tot l
  | [], h => absurd rfl h
  | [a], _ => rfl
  | a :: b :: r, _ => by
    have := join_tot (b :: r) (by simp)
    show (a ++ ("\n" : Str) ++ Str.join ("\n" : Str) (b :: r)).length + 1 = (a.length + 1) + tot (b :: r)
    rw [Str.length_append, Str.length_append, nl1]; omega
theorem join_low : ∀ l : List Str, (∀ p ∈ l, ∀ c ∈ tl p, c < 128) → ∀ c ∈ tl (Str.join ("\n" : Str) l), c < 128
  | [], _ => fun c hc => (nomatch hc)
  | [a], h => h a (by simp)
  | a :: b :: r, h => low_app (low_app (h a (by simp)) nl_lo) (join_low (b :: r) fun p hp => h p (List.mem_cons_of_mem _ hp))
theorem split_tot (x : Str) : tot (Txt.split x ("\n" : Str)) = x.length + 1 := by
  have h : Txt.split x ("\n" : Str) ≠ [] := fun h => by have := PyProof.Rows.split_pos x ("\n" : Str); rw [h] at this; simp at this
  rw [← join_tot _ h, StrLaws.join_split]
structure Part (x : Str) (n : Nat) (ls : List Str) : Prop where
  mem : ∀ p ∈ ls, ∀ c ∈ tl p, c < 128
  sum : tot ls ≤ n
theorem part_of {B : Nat} {x : Str} (h : Lo B x) : Part x (B + 1) (Txt.split x ("\n" : Str)) := ⟨fun p hp => ((lines_lo h).1 p hp).lo, by rw [split_tot]; have := h.ln; omega⟩
theorem Part.cut {x : Str} {n : Nat} {ls : List Str} (h : Part x n ls) (lo hi : Option Int) : ∃ ms, cutD (ls.map D.str) lo hi = ms.map D.str ∧ Part x n ms := by
  unfold cutD
  refine ⟨_, by rw [← List.map_drop, ← List.map_take], fun p hp => h.mem p (List.mem_of_mem_drop (List.mem_of_mem_take hp)), Nat.le_trans (tot_take _ _) (Nat.le_trans (tot_drop _ _) h.sum)⟩
theorem Part.app {x : Str} {n m : Nat} {a b : List Str} (h : Part x n a) (h2 : Part x m b) : Part x (n + m) (a ++ b) := ⟨fun p hp => (List.mem_append.mp hp).elim (h.mem p) (h2.mem p), by rw [tot_app]; exact Nat.add_le_add h.sum h2.sum⟩
theorem Part.rev {x : Str} {n : Nat} {a : List Str} (h : Part x n a) : Part x n a.reverse := ⟨fun p hp => h.mem p (List.mem_reverse.mp hp), by rw [tot_rev]; exact h.sum⟩
theorem Part.join {x : Str} {n : Nat} {a : List Str} (h : Part x n a) (hn : n ≤ 900) : JoinOk ("\n" : Str) a = true ∧ Lo 900 (Txt.join ("\n" : Str) a) := by
  have l1 := tot_len a
  have l2 := h.sum
  refine ⟨joinOk_of 900 (fun y hy => ?_) ?_, ?_⟩
  · obtain ⟨u, v, rfl⟩ := List.append_of_mem hy
    rw [tot_app] at l2
    have : tot (y :: v) = (y.length + 1) + tot v := rfl
    omega
  · rw [nl1]; omega
  · have e : Txt.join ("\n" : Str) a = Str.join ("\n" : Str) a := StrLaws.glued_eq_join _ _
    rw [e]
    refine ⟨join_low a h.mem, ?_⟩
    cases a with
    | nil => exact Nat.zero_le _
    | cons p r => have := join_tot (p :: r) (by simp); omega
noncomputable def fixed : List Str := ["", "0:60:00", "1000000:00:00", "999999:59:59", "100000:00:00", "0:00:60", "0:0:00", "00:00:00", "0:00:00", "0:00:0", "0:00:000", "1 0:00:00\n2 0:00:00\n"]
theorem fixed_ok : (fixed.all fun t => (tl t).all (fun c => decide (c < 128)) && decide (t.length ≤ 900)) = true := by decide +kernel
theorem lo_fixed : ∀ t ∈ fixed, Lo 900 t := fun t h => by
  have := List.all_eq_true.mp fixed_ok t h
  rw [Bool.and_eq_true] at this
  exact ⟨fun c hc => of_decide_eq_true (List.all_eq_true.mp this.1 c hc), of_decide_eq_true this.2⟩
theorem addS {x y : Str} (h : x.length + y.length ≤ sizeLine) : addF (.str x) (.str y) = some (.str (x ++ y)) := if_pos h
theorem addL {l m : List D} (h : l.length + m.length ≤ sizeLine) : addF (.lst l) (.lst m) = some (.lst (l ++ m)) := if_pos h
mutual
theorem eqD_self : ∀ d : D, eqD d d = true
  | .non => rfl
  | .bl b => beq_self_eq_true b
  | .int i => beq_self_eq_true i
  | .str x => beq_self_eq_true x
  | .tup l => eqDL_self l
  | .lst l => eqDL_self l
theorem eqDL_self : ∀ l : List D, eqDL l l = true
  | [] => rfl
  | x :: l => by show (eqD x x && eqDL l l) = true; rw [eqD_self x, eqDL_self l]; rfl
end
theorem okEq_oi (o : Option Int) : okEq (oi o) (oi o) := by cases o <;> exact ⟨rfl, rfl, by show min 0 0 ≤ 60; decide⟩
theorem okEq_ls (o : Option (List Int)) : okEq (lsD o) (lsD o) := by
  cases o with
  | none => exact ⟨rfl, rfl, by show min 0 0 ≤ 60; decide⟩
  | some l => exact ok_lstI
noncomputable def t_law_b1_9 : TSd := dSeq (dSet 10 ((dOp (rF addF) ((dVar 10)) ((dLst ((dCons (dC (.str "0:00:60")) ((dCons (dC (.str "0:0:00")) ((dCons (dC (.str "00:00:00")) ((dCons (dC (.str "0:00:00")) ((dCons (dC (.str "0:00:0")) ((dCons (dC (.str "0:00:000")) ((dCons (dC (.str "1 0:00:00\n2 0:00:00\n")) (dNil)))))))))))))))))))) (dFor (diSeqF ((dVar 10))) (gdName 14) (dIfS (dOr (dB (dOp rNeD ((dCall S_law_told ((dCons (dC (.int 0)) ((dCons ((dVar 14)) (dNil))))))) ((dCall S_law_due ((dCons ((dVar 14)) (dNil))))))) (dB (dOp rNeD ((dCall S_law_told ((dCons (dC (.int 1)) ((dCons ((dVar 14)) (dNil))))))) ((dCall S_law_laps ((dCons ((dVar 14)) (dNil)))))))) (dRet (dC (.bl false))) (dNext)))
noncomputable def t_law_b1_8 : TSd := dSeq (dSet 10 ((dOp (rF addF) ((dVar 10)) ((dLst ((dCons ((dJoin "\n" ((dVar 13)))) ((dCons (dC (.str "")) ((dCons (dC (.str "0:60:00")) ((dCons (dC (.str "1000000:00:00")) ((dCons (dC (.str "999999:59:59")) ((dCons (dC (.str "100000:00:00")) (dNil)))))))))))))))))) (t_law_b1_9)
noncomputable def t_law_b1_7 : TSd := dSeq (dSet 13 ((dOp (rF addF) ((dOp (rF addF) ((dSlG ((dVar 11)) (dNoPart) (dPart ((dVar 12))))) ((dRevL ((dSlG ((dVar 11)) (dPart ((dVar 12))) (dPart ((dOp (rF addF) ((dVar 12)) (dC (.int 2))))))))))) ((dSlG ((dVar 11)) (dPart ((dOp (rF addF) ((dVar 12)) (dC (.int 2))))) (dNoPart)))))) (t_law_b1_8)
noncomputable def t_law_b1_6 : TSd := dSeq (dSet 10 ((dOp (rF addF) ((dVar 10)) ((dLst ((dCons ((dJoin "\n" ((dOp (rF addF) ((dSlG ((dVar 11)) (dNoPart) (dPart ((dVar 12))))) ((dSlG ((dVar 11)) (dPart ((dOp (rF addF) ((dVar 12)) (dC (.int 1))))) (dNoPart))))))) ((dCons ((dJoin "\n" ((dOp (rF addF) ((dSlG ((dVar 11)) (dNoPart) (dPart ((dOp (rF addF) ((dVar 12)) (dC (.int 1))))))) ((dSlG ((dVar 11)) (dPart ((dVar 12))) (dNoPart))))))) (dNil)))))))))) (t_law_b1_7)
noncomputable def t_law_b1_5 : TSd := dSeq (dSet 12 ((dCall S_law_drawn ((dCons ((dVar 0)) ((dCons ((dOp (rF addF) (dC (.int 65)) ((dVar 6)))) ((dCons ((dCall cLenF ((dCons ((dVar 11)) (dNil))))) (dNil)))))))))) (t_law_b1_6)
noncomputable def t_law_b1_4 : TSd := dSeq (dSet 11 ((dSplit "\n" ((dVar 7))))) (t_law_b1_5)
noncomputable def t_law_b1_3 : TSd := dSeq (dSet 10 ((dLst ((dCons ((dVar 7)) ((dCons ((dOp (rF addF) ((dSlT ((dVar 7)) (dNoPart) (dPart ((dVar 8))))) ((dSlT ((dVar 7)) (dPart ((dOp (rF addF) ((dVar 8)) (dC (.int 1))))) (dNoPart))))) ((dCons ((dOp (rF addF) ((dSlT ((dVar 7)) (dNoPart) (dPart ((dOp (rF addF) ((dVar 8)) (dC (.int 1))))))) ((dSlT ((dVar 7)) (dPart ((dVar 8))) (dNoPart))))) ((dCons ((dOp (rF addF) ((dOp (rF addF) ((dSlT ((dVar 7)) (dNoPart) (dPart ((dVar 8))))) ((dVar 9)))) ((dSlT ((dVar 7)) (dPart ((dOp (rF addF) ((dVar 8)) (dC (.int 1))))) (dNoPart))))) (dNil)))))))))))) (t_law_b1_4)
noncomputable def t_law_b1_2 : TSd := dSeq (dSet 9 ((dSign "0:9\n a-6" ((dCall S_law_drawn ((dCons ((dVar 0)) ((dCons ((dOp (rF addF) (dC (.int 63)) ((dVar 6)))) ((dCons (dC (.int 8)) (dNil)))))))))))) (t_law_b1_3)
noncomputable def t_law_b1_1 : TSd := dSeq (dSet 8 ((dCall S_law_drawn ((dCons ((dVar 0)) ((dCons ((dOp (rF addF) (dC (.int 61)) ((dVar 6)))) ((dCons ((dOp (rF addF) ((dCall cLenT ((dCons ((dVar 7)) (dNil))))) (dC (.int 1)))) (dNil)))))))))) (t_law_b1_2)
noncomputable def t_law_7 : TSd := dRet (dC (.bl true))
noncomputable def t_law_6 : TSd := dSeq (dFor (diRange1 ((dCons (dC (.int 2)) (dNil)))) (gdName 6) (dSeq (dSet 7 ((dIf (dB (dOp rEqD ((dVar 6)) (dC (.int 0)))) ((dVar 3)) ((dCall S_laps_text ((dCons ((dVar 5)) (dNil)))))))) (t_law_b1_1))) (t_law_7)
noncomputable def t_law_5 : TSd := dSeq (dSet 5 ((dSlG ((dVar 1)) (dNoPart) (dPart ((dCall S_law_drawn ((dCons ((dVar 0)) ((dCons (dC (.int 60)) ((dCons (dC (.int 5)) (dNil))))))))))))) (t_law_6)
noncomputable def t_law_4 : TSd := dSeq (dIfS (dOr (dB (dOp rNeD ((dOp rEqD ((dVar 3)) ((dVar 4)))) ((dOp rEqD ((dOp (rF ixF) ((dVar 1)) (dC (.int 0)))) ((dOp (rF ixF) ((dVar 1)) (dC (.int 1)))))))) (dAnd (dB (dOp (rII fun i j => .bl (decide (i < j))) ((dOp (rF ixF) ((dVar 1)) (dC (.int 0)))) ((dOp (rF ixF) ((dVar 1)) (dC (.int 1)))))) (dB (dOp (rII fun i j => .bl (decide (j < i))) ((dCall cLenT ((dCons ((dVar 3)) (dNil))))) ((dCall cLenT ((dCons ((dVar 4)) (dNil))))))))) (dRet (dC (.bl false))) (dNext)) (t_law_5)
noncomputable def t_law_3 : TSd := dSeq (dSet 4 ((dCall S_time_text ((dCons ((dOp (rF ixF) ((dVar 1)) (dC (.int 1)))) (dNil)))))) (t_law_4)
noncomputable def t_law_2 : TSd := dFrz 1 (dSeq (dSet 3 ((dCall S_time_text ((dCons ((dOp (rF ixF) ((dVar 1)) (dC (.int 0)))) (dNil)))))) (t_law_3))
noncomputable def t_law_1 : TSd := dSeq (dFor (diRange1 ((dCons (dC (.int 4)) (dNil)))) (gdName 2) (dApp 1 ((dCall S_law_drawn ((dCons ((dVar 0)) ((dCons ((dOp (rIC CMul fun i j => .int (i * j)) (dC (.int 10)) ((dVar 2)))) ((dCons ((dOp (rF ixF) ((dLst ((dCons (dC (.int 9)) ((dCons (dC (.int 70)) ((dCons (dC (.int 4000)) ((dCons (dC (.int 400000)) (dNil))))))))))) ((dCall S_law_drawn ((dCons ((dVar 0)) ((dCons ((dOp (rF addF) (dC (.int 1)) ((dOp (rIC CMul fun i j => .int (i * j)) (dC (.int 10)) ((dVar 2)))))) ((dCons (dC (.int 4)) (dNil))))))))))) (dNil))))))))))) (t_law_2)
noncomputable def t_law : TSd := dSeq (dOwn 1 (dNil)) (t_law_1)
theorem rest8 {K : EndsD} {s0 s1 s2 s3 s4 s5 s6 s7 s8 s9 s11 s12 s14 : Sl} {x : Str} {w : List Str} (hw : Part x 393 w) {ts : List Str} (ht : ∀ t ∈ ts, Lo 900 t) (h6 : ts.length = 6)
    (hK : ∀ s6 s7 s8 s9 s10 s11 s12 s13 s14 : Sl, K.nx [s0, s1, s2, s3, s4, s5, s6, s7, s8, s9, s10, s11, s12, s13, s14]) :
    t_law_b1_8 K [s0, s1, s2, s3, s4, s5, s6, s7, s8, s9, .sh (.lst (ts.map D.str)), s11, s12, .sh (.lst (w.map D.str)), s14] := by
  have big : (10000 : Nat) ≤ sizeLine := by decide
  obtain ⟨j1, j2⟩ := hw.join (by decide)
  simp! only [t_law_b1_8]
  refine ⟨_, strsF_map _, j1, _, if_pos (by rw [List.length_map]; omega), ?_⟩
  simp! only [t_law_b1_9]
  refine ⟨_, if_pos (by simp only [List.length_append, List.length_map, List.length_cons, List.length_nil]; omega), ?_⟩
  rw [List.append_assoc]
  show dFor _ _ _ _ [s0, s1, s2, s3, s4, s5, s6, s7, s8, s9, .sh (.lst (ts.map D.str ++ (Txt.join ("\n" : Str) w :: fixed).map D.str)), s11, s12, .sh (.lst (w.map D.str)), s14]
  rw [← List.map_append]
  have hall : ∀ t ∈ ts ++ (Txt.join ("\n" : Str) w :: fixed), Lo 900 t := fun t h => by
    rcases List.mem_append.mp h with h | h
    · exact ht t h
    · rcases List.mem_cons.mp h with rfl | h
      · exact j2
      · exact lo_fixed t h
  generalize ts ++ (Txt.join ("\n" : Str) w :: fixed) = us at hall
  refine dFor_by (fun j δ => ∃ s14 : Sl, δ = [s0, s1, s2, s3, s4, s5, s6, s7, s8, s9, .sh (.lst (us.map D.str)), s11, s12, .sh (.lst (w.map D.str)), s14]) (us.map D.str) _ (fun Q h => ?_) ⟨s14, rfl⟩ ?_ ?_
  · simp! only [Dl.dSeq]; exact h
  · rintro j d δ hj ⟨s14, rfl⟩
    rw [List.getElem?_map] at hj
    obtain ⟨t, ht, rfl⟩ := Option.map_eq_some_iff.mp hj
    have lt := hall t (List.mem_of_getElem? ht)
    have q0 : toldD 0 t = oi (rdT t) := rfl
    simp! only [Dl.dSeq]
    refine ⟨0, t, rfl, lt, t, rfl, lt, ?_⟩
    rw [q0]
    refine ⟨okEq_oi _, ite2 (fun h => absurd (h.symm.trans (eqD_self _)) Bool.false_ne_true) fun _ => ?_⟩
    refine ⟨1, t, rfl, lt, t, rfl, lt, okEq_ls _, ite2 (fun h => absurd (h.symm.trans (eqD_self _)) Bool.false_ne_true) fun _ => ⟨_, rfl⟩⟩
  · rintro δ ⟨s14, rfl⟩
    exact hK _ _ _ _ _ _ _ _ _
theorem rest4 {K : EndsD} {ns : List Int} (hl : ns.length ≤ 63) {s1 s2 s3 s4 s5 s8 s9 s11 s12 s13 s14 : Sl} {x : Str} (hx : Lo 130 x) {j : Nat} {ts : List Str} (ht : ∀ t ∈ ts, Lo 900 t) (h4 : ts.length = 4)
    (hK : ∀ s6 s7 s8 s9 s10 s11 s12 s13 s14 : Sl, K.nx [.sh (scr ns), s1, s2, s3, s4, s5, s6, s7, s8, s9, s10, s11, s12, s13, s14]) :
    t_law_b1_4 K [.sh (scr ns), s1, s2, s3, s4, s5, .sh (.int (0 + (j : Nat))), .sh (.str x), s8, s9, .sh (.lst (ts.map D.str)), s11, s12, s13, s14] := by
  have hp := part_of hx
  have l1 := tot_len (Txt.split x ("\n" : Str))
  have l2 := hp.sum
  have l3 : 0 < (Txt.split x ("\n" : Str)).length := PyProof.Rows.split_pos x ("\n" : Str)
  simp! only [t_law_b1_4, t_law_b1_5, List.length_map]
  refine ⟨by have := hx.ln; omega, use_drawn hl (by omega) (by omega) fun t t0 t1 => ?_⟩
  generalize Txt.split x ("\n" : Str) = ls at hp l1 l2 l3
  simp! only [t_law_b1_6, t_law_b1_7]
  obtain ⟨a1, e1, p1⟩ := hp.cut none (some t)
  obtain ⟨a2, e2, p2⟩ := hp.cut (some (t + 1)) none
  obtain ⟨a3, e3, p3⟩ := hp.cut none (some (t + 1))
  obtain ⟨a4, e4, p4⟩ := hp.cut (some t) none
  obtain ⟨a5, e5, p5⟩ := hp.cut (some t) (some (t + 2))
  obtain ⟨a6, e6, p6⟩ := hp.cut (some (t + 2)) none
  rw [e1, e2, e3, e4, e5, e6]
  have big : (10000 : Nat) ≤ sizeLine := by decide
  have n1 := tot_len a1; have n2 := tot_len a2; have n3 := tot_len a3; have n4 := tot_len a4; have n5 := tot_len a5; have n6 := tot_len a6
  have m1 := p1.sum; have m2 := p2.sum; have m3 := p3.sum; have m4 := p4.sum; have m5 := p5.sum; have m6 := p6.sum
  have j1 := (p1.app p2).join (by decide)
  have j2 := (p3.app p4).join (by decide)
  simp only [← List.map_append, ← List.map_reverse, List.length_map, List.length_reverse]
  refine ⟨_, if_pos (by omega), _, rfl, _, strsF_map _, j1.1, _, if_pos (by omega), _, rfl, _, strsF_map _, j2.1, _, if_pos (by omega), _, if_pos (by omega), _, addL (by rw [List.length_map, List.length_map, List.length_append, List.length_reverse]; omega), ?_⟩
  rw [← List.map_append, show ts.map D.str ++ [D.str (Txt.join ("\n" : Str) (a1 ++ a2)), D.str (Txt.join ("\n" : Str) (a3 ++ a4))] = (ts ++ [Txt.join ("\n" : Str) (a1 ++ a2), Txt.join ("\n" : Str) (a3 ++ a4)]).map D.str by rw [List.map_append]; rfl]
  refine rest8 ((p1.app p5.rev).app p6) (fun t h => ?_) (by simp [h4]) hK
  rcases List.mem_append.mp h with h | h
  · exact ht t h
  · simp only [List.mem_cons, List.not_mem_nil, or_false] at h
    rcases h with rfl | rfl
    · exact j1.2
    · exact j2.2
theorem r_law : ∀ ds Q, S_law ds Q → t_law { nx := fun _ => Q .non, rt := fun d _ => Q d } (startD ["_law_script", "_law_sizes", "_law_k", "_law_one", "_law_other", "_law_row", "_law_way", "_law_text", "_law_at", "_law_sign", "_law_texts", "_law_lines", "_law_to", "_law_turned", "_law_some"] ds) := by
  rintro ds Q ⟨ns, rfl, hl, q⟩
  have big : (10000 : Nat) ≤ sizeLine := by decide
  simp! only [t_law, t_law_1]
  refine dFor_by (fun j δ => ∃ (ss : List Int) (s2 : Sl), δ = [.sh (scr ns), .ow (ss.map D.int), s2, .no, .no, .no, .no, .no, .no, .no, .no, .no, .no, .no, .no] ∧ ss.length = j ∧ ∀ s ∈ ss, 0 ≤ s ∧ s < 400000) (rangeL 0 4) _ (fun Q h => ?_) ⟨[], .no, rfl, rfl, fun s hs => (nomatch hs)⟩ ?_ ?_
  · simp! only [Dl.dSeq]; exact ⟨by decide, by decide, h⟩
  · rintro j d δ hj ⟨ss, s2, rfl, ln, hb⟩
    obtain ⟨rfl, hlt⟩ := rangeL_get hj
    simp! only [Dl.dSeq]
    refine ⟨.inl ⟨by decide, by decide⟩, .inl ⟨by decide, by decide⟩, use_drawn hl (by omega) (by decide) fun y y0 y1 => ?_⟩
    obtain ⟨d, e, hd⟩ := atI_mem (l := [D.int 9, D.int 70, D.int 4000, D.int 400000]) y0 y1
    obtain ⟨m, rfl, m0, m1⟩ := sizes_of hd
    refine ⟨_, e, use_drawn hl (by omega) m0 fun z z0 z1 => ?_⟩
    simp! only [List.length_map]
    refine ⟨by omega, ss ++ [z], .sh (.int (0 + (j : Nat))), ?_, by simp [ln], fun s hs => ?_⟩
    · rw [List.map_append]; rfl
    · rcases List.mem_append.mp hs with w | w
      · exact hb s w
      · have : s = z := by simpa using w
        subst this; omega
  rintro δ ⟨ss, s2, rfl, ln, hb⟩
  have l4 : ss.length = 4 := by rw [ln]; simp [rangeL]
  match ss, l4, hb with
  | [a, b, c, d], _, hb =>
  have ha := hb a (by simp)
  have hbb := hb b (by simp)
  simp! only [t_law_2]
  refine ⟨a, rfl, ha.1, by omega, ?_⟩
  simp! only [t_law_3]
  refine ⟨b, rfl, hbb.1, by omega, ?_⟩
  simp! only [t_law_4]
  have la := time_len ha
  have lb := time_len hbb
  have goal5 : ∀ E : Prop, E → (if (timeT a == timeT b) = (a == b) then if a < b then (timeT a).length ≤ sizeLine ∧ (timeT b).length ≤ sizeLine ∧ if ((timeT b).length : Int) < (timeT a).length then Q (.bl false) else E else E else Q (.bl false)) := fun E hE => by
    have e : (timeT a == timeT b) = (a == b) := by
      rw [Bool.eq_iff_iff]; simp only [beq_iff_eq]; exact time_inj ha hbb
    rw [if_pos e]
    refine ite2 (fun hlt => ⟨by split at la <;> (try split at la) <;> omega, by split at lb <;> (try split at lb) <;> omega, ite2 (fun z => ?_) fun _ => hE⟩) fun _ => hE
    exfalso
    rw [la, lb] at z
    have : a / 3600 ≤ b / 3600 := by omega
    split at z <;> split at z <;> (try split at z) <;> (try split at z) <;> omega
  refine ⟨okEqT (timeT_lo ha.1) (timeT_lo hbb.1), goal5 _ ?_⟩
  clear goal5
  simp! only [t_law_5]
  refine use_drawn hl (by decide) (by decide) fun n n0 n1 => ?_
  simp! only [Dl.dSeq]
  rw [cut_take n0, show [D.int a, D.int b, D.int c, D.int d] = [a, b, c, d].map D.int from rfl, ← List.map_take]
  have rs : smalls ([a, b, c, d].take n.toNat) := ⟨by rw [List.length_take]; simp; omega, fun s hs => by have := hb s (List.mem_of_mem_take hs); omega⟩
  have rl : ([a, b, c, d].take n.toNat).length ≤ 4 := by rw [List.length_take]; simp; omega
  generalize [a, b, c, d].take n.toNat = row at rs rl
  generalize [a, b, c, d].map D.int = sizes
  simp! only [t_law_6]
  refine dFor_by (fun j δ => ∃ (s6 s7 s8 s9 s10 s11 s12 s13 s14 : Sl), δ = [.sh (scr ns), .sh (.lst sizes), s2, .sh (.str (timeT a)), .sh (.str (timeT b)), .sh (.lst (row.map D.int)), s6, s7, s8, s9, s10, s11, s12, s13, s14]) (rangeL 0 2) _ (fun Q h => ?_) ⟨.no, .no, .no, .no, .no, .no, .no, .no, .no, rfl⟩ ?_ ?_
  · simp! only [Dl.dSeq]; exact ⟨by decide, by decide, h⟩
  · rintro j dd δ hj ⟨s6, s7, s8, s9, s10, s11, s12, s13, s14, rfl⟩
    obtain ⟨rfl, hlt⟩ := rangeL_get hj
    have tx : Lo 130 (timeT a) := (lo_time ha).le (by decide)
    have lx : Lo 130 (lapsT 0 row) := lo_laps rs rl
    simp! only [Dl.dSeq]
    have step : ∀ (x : Str), Lo 130 x → t_law_b1_1 { nx := fun δ => ∃ (s6 s7 s8 s9 s10 s11 s12 s13 s14 : Sl), δ = [.sh (scr ns), .sh (.lst sizes), s2, .sh (.str (timeT a)), .sh (.str (timeT b)), .sh (.lst (row.map D.int)), s6, s7, s8, s9, s10, s11, s12, s13, s14], rt := fun d _ => Q d, bk := t_law_7 { nx := fun _ => Q .non, rt := fun d _ => Q d }, ct := fun δ => ∃ (s6 s7 s8 s9 s10 s11 s12 s13 s14 : Sl), δ = [.sh (scr ns), .sh (.lst sizes), s2, .sh (.str (timeT a)), .sh (.str (timeT b)), .sh (.lst (row.map D.int)), s6, s7, s8, s9, s10, s11, s12, s13, s14] }
        [.sh (scr ns), .sh (.lst sizes), s2, .sh (.str (timeT a)), .sh (.str (timeT b)), .sh (.lst (row.map D.int)), .sh (.int (0 + (j : Nat))), .sh (.str x), s8, s9, s10, s11, s12, s13, s14] := by
      intro x hx
      have hxl := hx.ln
      simp! only [t_law_b1_1]
      refine ⟨by omega, use_drawn hl (by omega) (by omega) fun p p0 p1 => ?_⟩
      obtain ⟨m, rfl⟩ : ∃ m : Nat, p = (m : Int) := ⟨p.toNat, by omega⟩
      simp! only [t_law_b1_2]
      refine use_drawn hl (by omega) (by decide) fun g g0 g1 => ?_
      obtain ⟨sg, hsg, lsg⟩ := sign8 g0 g1
      refine ⟨_, hsg, ?_⟩
      have e1 : ((m : Nat) : Int) + 1 = ((m + 1 : Nat) : Int) := by omega
      simp! only [t_law_b1_3, e1]
      have hn : Lo 130 (slT x none (some (m : Int))) := lo_take hx m
      have hn1 : Lo 130 (slT x none (some ((m + 1 : Nat) : Int))) := lo_take hx (m + 1)
      have hm : Lo 130 (slT x (some (m : Int)) none) := lo_drop hx m
      have hm1 : Lo 130 (slT x (some ((m + 1 : Nat) : Int)) none) := lo_drop hx (m + 1)
      have z1 := hn.ln
      have z2 := hn1.ln
      have z3 := hm.ln
      have z4 := hm1.ln
      have z5 := lsg.ln
      refine ⟨by omega, by omega, _, if_pos (by omega), by omega, by omega, _, if_pos (by omega), by omega, _, if_pos (by omega), by omega, _, addS (by rw [Str.length_append]; omega), ?_⟩
      refine rest4 (ts := [x, slT x none (some (m : Int)) ++ slT x (some ((m + 1 : Nat) : Int)) none, slT x none (some ((m + 1 : Nat) : Int)) ++ slT x (some (m : Int)) none, slT x none (some (m : Int)) ++ sg ++ slT x (some ((m + 1 : Nat) : Int)) none]) hl hx (fun t h => ?_) rfl fun s6 s7 s8 s9 s10 s11 s12 s13 s14 => ⟨s6, s7, s8, s9, s10, s11, s12, s13, s14, rfl⟩
      simp only [List.mem_cons, List.not_mem_nil, or_false] at h
      rcases h with rfl | rfl | rfl | rfl
      · exact hx.le (by decide)
      · exact (hn.app hm1).le (by decide)
      · exact (hn1.app hm).le (by decide)
      · exact ((hn.app lsg).app hm1).le (by decide)
    refine ite2 (fun _ => step _ tx) fun _ => ?_
    refine ⟨row, rfl, rs, step _ lx⟩
  · rintro δ ⟨s6, s7, s8, s9, s10, s11, s12, s13, s14, rfl⟩
    simp! only [t_law_7]
    exact q
end Law
namespace Law
open PySem L2 Dl
noncomputable def top (i : Nat) : Stmt := PySem.Challenge.pw_latebells_k81_whole_read.main.body.getD i (.Pass ⟨0, 0, 0, 0⟩)
noncomputable abbrev s_law_cell : Stmt := top 22
noncomputable abbrev s_law_drawn : Stmt := top 23
noncomputable abbrev s_figures_of : Stmt := top 11
noncomputable abbrev s_two_figures : Stmt := top 12
noncomputable abbrev s_time_text : Stmt := top 10
noncomputable abbrev s_lap_start : Stmt := top 19
noncomputable abbrev s_laps_text : Stmt := top 16
noncomputable abbrev s_are_figures : Stmt := top 15
noncomputable abbrev s_are_time_parts : Stmt := top 14
noncomputable abbrev s_read_time : Stmt := top 13
noncomputable abbrev s_lines_of : Stmt := top 20
noncomputable abbrev s_read_lap : Stmt := top 18
noncomputable abbrev s_read_laps : Stmt := top 17
noncomputable abbrev s_law_told : Stmt := top 24
noncomputable abbrev s_law_due : Stmt := top 25
noncomputable abbrev s_law_laps : Stmt := top 26
noncomputable abbrev s_law : Stmt := top 27
theorem sc_law_cell : FnScope ["_law_script", "_law_k"] ["_law_script", "_law_k"] (defScope s_law_cell) := ⟨rfl, rfl, rfl, by decide +kernel, rfl, by decide +kernel, by decide +kernel⟩
theorem sc_law_drawn : FnScope ["_law_script", "_law_k", "_law_many", "_law_cell_here"] ["_law_script", "_law_k", "_law_many"] (defScope s_law_drawn) := ⟨rfl, rfl, rfl, by decide +kernel, rfl, by decide +kernel, by decide +kernel⟩
theorem sc_figures_of : FnScope ["number", "left", "blocks"] ["number"] (defScope s_figures_of) := ⟨rfl, rfl, rfl, by decide +kernel, rfl, by decide +kernel, by decide +kernel⟩
theorem sc_two_figures : FnScope ["number"] ["number"] (defScope s_two_figures) := ⟨rfl, rfl, rfl, by decide +kernel, rfl, by decide +kernel, by decide +kernel⟩
theorem sc_time_text : FnScope ["seconds", "hours", "minutes", "rest"] ["seconds"] (defScope s_time_text) := ⟨rfl, rfl, rfl, by decide +kernel, rfl, by decide +kernel, by decide +kernel⟩
theorem sc_lap_start : FnScope ["place"] ["place"] (defScope s_lap_start) := ⟨rfl, rfl, rfl, by decide +kernel, rfl, by decide +kernel, by decide +kernel⟩
theorem sc_laps_text : FnScope ["sizes"] ["sizes"] (defScope s_laps_text) := ⟨rfl, rfl, rfl, by decide +kernel, rfl, by decide +kernel, by decide +kernel⟩
theorem sc_are_figures : FnScope ["text"] ["text"] (defScope s_are_figures) := ⟨rfl, rfl, rfl, by decide +kernel, rfl, by decide +kernel, by decide +kernel⟩
theorem sc_are_time_parts : FnScope ["parts"] ["parts"] (defScope s_are_time_parts) := ⟨rfl, rfl, rfl, by decide +kernel, rfl, by decide +kernel, by decide +kernel⟩
theorem sc_read_time : FnScope ["text", "parts", "seconds"] ["text"] (defScope s_read_time) := ⟨rfl, rfl, rfl, by decide +kernel, rfl, by decide +kernel, by decide +kernel⟩
theorem sc_lines_of : FnScope ["text", "lines"] ["text"] (defScope s_lines_of) := ⟨rfl, rfl, rfl, by decide +kernel, rfl, by decide +kernel, by decide +kernel⟩
theorem sc_read_lap : FnScope ["line", "place", "start"] ["line", "place"] (defScope s_read_lap) := ⟨rfl, rfl, rfl, by decide +kernel, rfl, by decide +kernel, by decide +kernel⟩
theorem sc_read_laps : FnScope ["text"] ["text"] (defScope s_read_laps) := ⟨rfl, rfl, rfl, by decide +kernel, rfl, by decide +kernel, by decide +kernel⟩
theorem sc_law_told : FnScope ["_law_way", "_law_text", "e", "_law_flags"] ["_law_way", "_law_text"] (defScope s_law_told) := ⟨rfl, rfl, rfl, by decide +kernel, rfl, by decide +kernel, by decide +kernel⟩
theorem sc_law_due : FnScope ["_law_text", "_law_words", "_law_at", "_law_word"] ["_law_text"] (defScope s_law_due) := ⟨rfl, rfl, rfl, by decide +kernel, rfl, by decide +kernel, by decide +kernel⟩
theorem sc_law_laps : FnScope ["_law_text", "_law_lines", "_law_found", "_law_at", "_law_line", "_law_head"] ["_law_text"] (defScope s_law_laps) := ⟨rfl, rfl, rfl, by decide +kernel, rfl, by decide +kernel, by decide +kernel⟩
theorem sc_law : FnScope ["_law_script", "_law_sizes", "_law_k", "_law_one", "_law_other", "_law_row", "_law_way", "_law_text", "_law_at", "_law_sign", "_law_texts", "_law_lines", "_law_to", "_law_turned", "_law_some"] ["_law_script"] (defScope s_law) := ⟨rfl, rfl, rfl, by decide +kernel, rfl, by decide +kernel, by decide +kernel⟩
theorem us1 {P : List Value → Prop} (h : ∀ a0, P [a0]) : ∀ us : List Value, us.length = 1 → P us
  | [a0], _ => h a0
theorem us2 {P : List Value → Prop} (h : ∀ a0 a1, P [a0, a1]) : ∀ us : List Value, us.length = 2 → P us
  | [a0, a1], _ => h a0 a1
theorem us3 {P : List Value → Prop} (h : ∀ a0 a1 a2, P [a0, a1, a2]) : ∀ us : List Value, us.length = 3 → P us
  | [a0, a1, a2], _ => h a0 a1 a2
set_option genInjectivity false in
set_option genSizeOf false in
structure Ad where
  a_law_cell : Addr
  g_law_cell : FuncData
  a_law_drawn : Addr
  g_law_drawn : FuncData
  a_figures_of : Addr
  g_figures_of : FuncData
  a_two_figures : Addr
  g_two_figures : FuncData
  a_time_text : Addr
  g_time_text : FuncData
  a_lap_start : Addr
  g_lap_start : FuncData
  a_laps_text : Addr
  g_laps_text : FuncData
  a_are_figures : Addr
  g_are_figures : FuncData
  a_are_time_parts : Addr
  g_are_time_parts : FuncData
  a_read_time : Addr
  g_read_time : FuncData
  a_lines_of : Addr
  g_lines_of : FuncData
  a_read_lap : Addr
  g_read_lap : FuncData
  a_read_laps : Addr
  g_read_laps : FuncData
  a_law_told : Addr
  g_law_told : FuncData
  a_law_due : Addr
  g_law_due : FuncData
  a_law_laps : Addr
  g_law_laps : FuncData
  a_law : Addr
  g_law : FuncData
  k_FIGURES : Tok
  k_HOUR : Tok
  k_MINUTE : Tok
  k_MOST_HOUR_FIGURES : Tok
  c_NoText : Addr
  c_NoClock : Addr
  c_Early : Addr
  c_RingError : Addr
structure Tx (K : PySem.W.Frag) (mg : Str → Option Value) (t : Ad) : Prop where
  u_law_cell : Fun K "_law_cell" "_law_cell" s_law_cell t.a_law_cell t.g_law_cell
  d_law_cell : Binds K t.g_law_cell ["_law_script", "_law_k"] []
  m_law_cell : mg "_law_cell" = some (.ref t.a_law_cell)
  u_law_drawn : Fun K "_law_drawn" "_law_drawn" s_law_drawn t.a_law_drawn t.g_law_drawn
  d_law_drawn : Binds K t.g_law_drawn ["_law_script", "_law_k", "_law_many"] []
  m_law_drawn : mg "_law_drawn" = some (.ref t.a_law_drawn)
  u_figures_of : Fun K "figures_of" "figures_of" s_figures_of t.a_figures_of t.g_figures_of
  d_figures_of : Binds K t.g_figures_of ["number"] []
  m_figures_of : mg "figures_of" = some (.ref t.a_figures_of)
  u_two_figures : Fun K "two_figures" "two_figures" s_two_figures t.a_two_figures t.g_two_figures
  d_two_figures : Binds K t.g_two_figures ["number"] []
  m_two_figures : mg "two_figures" = some (.ref t.a_two_figures)
  u_time_text : Fun K "time_text" "time_text" s_time_text t.a_time_text t.g_time_text
  d_time_text : Binds K t.g_time_text ["seconds"] []
  m_time_text : mg "time_text" = some (.ref t.a_time_text)
  u_lap_start : Fun K "lap_start" "lap_start" s_lap_start t.a_lap_start t.g_lap_start
  d_lap_start : Binds K t.g_lap_start ["place"] []
  m_lap_start : mg "lap_start" = some (.ref t.a_lap_start)
  u_laps_text : Fun K "laps_text" "laps_text" s_laps_text t.a_laps_text t.g_laps_text
  d_laps_text : Binds K t.g_laps_text ["sizes"] []
  m_laps_text : mg "laps_text" = some (.ref t.a_laps_text)
  u_are_figures : Fun K "are_figures" "are_figures" s_are_figures t.a_are_figures t.g_are_figures
  d_are_figures : Binds K t.g_are_figures ["text"] []
  m_are_figures : mg "are_figures" = some (.ref t.a_are_figures)
  u_are_time_parts : Fun K "are_time_parts" "are_time_parts" s_are_time_parts t.a_are_time_parts t.g_are_time_parts
  d_are_time_parts : Binds K t.g_are_time_parts ["parts"] []
  m_are_time_parts : mg "are_time_parts" = some (.ref t.a_are_time_parts)
  u_read_time : Fun K "read_time" "read_time" s_read_time t.a_read_time t.g_read_time
  d_read_time : Binds K t.g_read_time ["text"] []
  m_read_time : mg "read_time" = some (.ref t.a_read_time)
  u_lines_of : Fun K "lines_of" "lines_of" s_lines_of t.a_lines_of t.g_lines_of
  d_lines_of : Binds K t.g_lines_of ["text"] []
  m_lines_of : mg "lines_of" = some (.ref t.a_lines_of)
  u_read_lap : Fun K "read_lap" "read_lap" s_read_lap t.a_read_lap t.g_read_lap
  d_read_lap : Binds K t.g_read_lap ["line", "place"] []
  m_read_lap : mg "read_lap" = some (.ref t.a_read_lap)
  u_read_laps : Fun K "read_laps" "read_laps" s_read_laps t.a_read_laps t.g_read_laps
  d_read_laps : Binds K t.g_read_laps ["text"] []
  m_read_laps : mg "read_laps" = some (.ref t.a_read_laps)
  u_law_told : Fun K "_law_told" "_law_told" s_law_told t.a_law_told t.g_law_told
  d_law_told : Binds K t.g_law_told ["_law_way", "_law_text"] []
  m_law_told : mg "_law_told" = some (.ref t.a_law_told)
  u_law_due : Fun K "_law_due" "_law_due" s_law_due t.a_law_due t.g_law_due
  d_law_due : Binds K t.g_law_due ["_law_text"] []
  m_law_due : mg "_law_due" = some (.ref t.a_law_due)
  u_law_laps : Fun K "_law_laps" "_law_laps" s_law_laps t.a_law_laps t.g_law_laps
  d_law_laps : Binds K t.g_law_laps ["_law_text"] []
  m_law_laps : mg "_law_laps" = some (.ref t.a_law_laps)
  u_law : Fun K "law" "law" s_law t.a_law t.g_law
  d_law : Binds K t.g_law ["_law_script"] []
  m_law : mg "law" = some (.ref t.a_law)
  b_ValueError : mg "ValueError" = none
  b_all : mg "all" = none
  b_enumerate : mg "enumerate" = none
  b_int : mg "int" = none
  b_isinstance : mg "isinstance" = none
  b_len : mg "len" = none
  b_range : mg "range" = none
  b_reversed : mg "reversed" = none
  b_str : mg "str" = none
  c_FIGURES : mg "FIGURES" = some (.str "0123456789" t.k_FIGURES)
  c_HOUR : mg "HOUR" = some (.int 3600 t.k_HOUR)
  c_MINUTE : mg "MINUTE" = some (.int 60 t.k_MINUTE)
  c_MOST_HOUR_FIGURES : mg "MOST_HOUR_FIGURES" = some (.int 6 t.k_MOST_HOUR_FIGURES)
  e_NoText : mg "NoText" = some (.ref t.c_NoText)
  e_NoClock : mg "NoClock" = some (.ref t.c_NoClock)
  e_Early : mg "Early" = some (.ref t.c_Early)
  e_RingError : mg "RingError" = some (.ref t.c_RingError)
  xC : ExcC K t.c_NoText
  k_ValueError : PySem.W.kitOne K (.ref t.c_NoText) (.type "ValueError") = some true
  k_NoText : PySem.W.kitOne K (.ref t.c_NoText) (.ref t.c_NoText) = some true
  k_NoClock : PySem.W.kitOne K (.ref t.c_NoText) (.ref t.c_NoClock) = some false
  k_Early : PySem.W.kitOne K (.ref t.c_NoText) (.ref t.c_Early) = some false
  q_NoText : PySem.W.excIn K t.c_NoText [.type "ValueError", .type "Exception", .type "BaseException", .type "object"] "ValueError.__new__" = true
  q_RingError : PySem.W.excIn K t.c_RingError [.type "ValueError", .type "Exception", .type "BaseException", .type "object"] "ValueError.__new__" = true
  n_NoText : PySem.W.nsIn K mainGlobals "NoText" = some (some (.ref t.c_NoText))
  n_RingError : PySem.W.nsIn K mainGlobals "RingError" = some (some (.ref t.c_RingError))
  mr : PySem.W.mroIn K t.c_NoText (.ref t.c_RingError) = some true
  nr : t.c_NoText ≠ t.c_RingError
section
variable {P : Program} {w : World} {K : PySem.W.Frag} {mg : Str → Option Value} {base : Heap} {t : Ad}
set_option maxHeartbeats 4000000 in
theorem rk_read_time (T : Tx K mg t) (KB : K.In base) (NB : base.Ns mainGlobals mg) (G_are_time_parts : FnOk P w K mg base CX0 2 t.a_are_time_parts t.g_are_time_parts ["parts"] (spOf K S_are_time_parts)) (G_time_text : FnOk P w K mg base CX0 2 t.a_time_text t.g_time_text ["seconds"] (spOf K S_time_text))   : FnOk P w K mg base (CXE P w) 3 t.a_read_time t.g_read_time ["text"] (spR K t.c_NoText SR_read_time) := by
  have OE := own_in KB NB T.n_NoText T.q_NoText
  refine fnR (k := 2) T.u_read_time sc_read_time lr_read_time fun cdv A outer s H E n hr W WM => ⟨q_read_time (fun _ => True), ?_, rr_read_time⟩
  have nd := (sc_read_time).nd
  exact (rss_later (ds_set 1 nd (de_split (dv 0))) (rss_if (dt_not (dt_truF (de_call G_are_time_parts (hr.mono (by decide)) T.m_are_time_parts T.u_are_time_parts.kp T.d_are_time_parts (da_cons (dv 1) da_nil)))) (rss_here (rs_raise WM rfl OE PySem.F.excBase_ValueError rfl rfl rfl)) (rss_later (ds_set 2 nd (de_addF (de_addF (de_mul (de_intT T.b_int (da_cons (de_ixF (dv 1) de_int) da_nil)) (de_gint T.c_HOUR)) (de_mul (de_intT T.b_int (da_cons (de_ixF (dv 1) de_int) da_nil)) (de_gint T.c_MINUTE))) (de_intT T.b_int (da_cons (de_ixF (dv 1) de_int) da_nil)))) (rss_here (rs_if (dt_ne hr.units (de_call G_time_text (hr.mono (by decide)) T.m_time_text T.u_time_text.kp T.d_time_text (da_cons (dv 2) da_nil)) (dv 0)) (rss_here (rs_raise WM rfl OE PySem.F.excBase_ValueError rfl rfl rfl)) rss_no)))))
set_option maxHeartbeats 4000000 in
theorem rk_lines_of (T : Tx K mg t) (KB : K.In base) (NB : base.Ns mainGlobals mg)    : FnOk P w K mg base (CXE P w) 1 t.a_lines_of t.g_lines_of ["text"] (spR K t.c_NoText SR_lines_of) := by
  have OE := own_in KB NB T.n_NoText T.q_NoText
  refine fnR (k := 0) T.u_lines_of sc_lines_of lr_lines_of fun cdv A outer s H E n hr W WM => ⟨q_lines_of (fun _ => True), ?_, rr_lines_of⟩
  have nd := (sc_lines_of).nd
  exact (rss_later (ds_set 1 nd (de_split (dv 0))) (rss_here (rs_if (dt_ne hr.units (de_ixF (dv 1) (de_neg de_int)) de_str) (rss_here (rs_raise WM rfl OE PySem.F.excBase_ValueError rfl rfl rfl)) rss_no)))
set_option maxHeartbeats 4000000 in
theorem rk_read_lap (T : Tx K mg t) (KB : K.In base) (NB : base.Ns mainGlobals mg) (G_lap_start : FnOk P w K mg base CX0 1 t.a_lap_start t.g_lap_start ["place"] (spOf K S_lap_start)) (G_read_time : FnOk P w K mg base CX0 3 t.a_read_time t.g_read_time ["text"] (spOf K S_read_time))  (R_read_time : FnOk P w K mg base (CXE P w) 3 t.a_read_time t.g_read_time ["text"] (spR K t.c_NoText SR_read_time)) : FnOk P w K mg base (CXE P w) 4 t.a_read_lap t.g_read_lap ["line", "place"] (spR K t.c_NoText SR_read_lap) := by
  have OE := own_in KB NB T.n_NoText T.q_NoText
  refine fnR (k := 3) T.u_read_lap sc_read_lap lr_read_lap fun cdv A outer s H E n hr W WM => ⟨q_read_lap (fun _ => True), ?_, rr_read_lap⟩
  have nd := (sc_read_lap).nd
  exact (rss_later (ds_set 2 nd (de_call G_lap_start (hr.mono (by decide)) T.m_lap_start T.u_lap_start.kp T.d_lap_start (da_cons (dv 1) da_nil))) (rss_if (dt_not (dt_truF (de_sw (dv 0) (dv 2)))) (rss_here (rs_raise WM rfl OE PySem.F.excBase_ValueError rfl rfl rfl)) (rss_here (rs_ret (re_call W R_read_time (hr.mono (by decide)) T.m_read_time T.u_read_time.kp T.d_read_time (da_cons (de_slT (dv 0) (do_some (de_lenT T.b_len (da_cons (dv 2) da_nil))) do_none) da_nil))))))
set_option maxHeartbeats 4000000 in
theorem rk_read_laps (T : Tx K mg t) (KB : K.In base) (NB : base.Ns mainGlobals mg) (G_lines_of : FnOk P w K mg base CX0 1 t.a_lines_of t.g_lines_of ["text"] (spOf K S_lines_of)) (G_read_lap : FnOk P w K mg base CX0 4 t.a_read_lap t.g_read_lap ["line", "place"] (spOf K S_read_lap))  (R_lines_of : FnOk P w K mg base (CXE P w) 1 t.a_lines_of t.g_lines_of ["text"] (spR K t.c_NoText SR_lines_of)) (R_read_lap : FnOk P w K mg base (CXE P w) 4 t.a_read_lap t.g_read_lap ["line", "place"] (spR K t.c_NoText SR_read_lap)) : FnOk P w K mg base (CXE P w) 5 t.a_read_laps t.g_read_laps ["text"] (spR K t.c_NoText SR_read_laps) := by
  have OE := own_in KB NB T.n_NoText T.q_NoText
  refine fnRH (k := 4) T.u_read_laps sc_read_laps lr_read_laps fun cdv A outer s H E n hr W WH => ⟨q_read_laps (fun _ => True), ?_, rr_read_laps⟩
  have nd := (sc_read_laps).nd
  exact (rss_here (rs_ret (re_or (re_compI (re_callTy T.b_enumerate rfl (ra_here (re_call W R_lines_of (hr.mono (by decide)) T.m_lines_of T.u_lines_of.kp T.d_lines_of (da_cons (dv 0) da_nil))))) (re_compK ["text", "place", "line"] 2 rfl rfl rfl rfl WH (di_enum T.b_enumerate (da_cons (de_call G_lines_of (hr.mono (by decide)) T.m_lines_of T.u_lines_of.kp T.d_lines_of (da_cons (dv 0) da_nil)) da_nil)) (fun cl C ex s H => ⟨(dg_tup2 1 2 rfl (show List.Nodup (α := Str) ["text", "place", "line"] by decide +kernel)), (de_call (by exact G_read_lap) (by exact hr.mono (by decide)) (by exact T.m_read_lap) (by exact T.u_read_lap.kp) (by exact T.d_read_lap) (da_cons (dv 2) (da_cons (dv 1) da_nil))), fun xe n2 W => (re_call W (by exact R_read_lap) (by exact hr.mono (by decide)) (by exact T.m_read_lap) (by exact T.u_read_lap.kp) (by exact T.d_read_lap) (da_cons (dv 2) (da_cons (dv 1) da_nil)))⟩) (by show compOk ["text"] (defScope s_read_laps) ["text", "place", "line"] _ 2 = true; decide +kernel) (by intro _; rfl)))))
set_option maxHeartbeats 4000000 in
theorem ok_law_cell (T : Tx K mg t)   : FnOk P w K mg base CX0 1 t.a_law_cell t.g_law_cell ["_law_script", "_law_k"] (spOf K S_law_cell) := by
  refine fnD (k := 0) T.u_law_cell sc_law_cell l_law_cell fun cdv A outer s H E hr => ⟨t_law_cell, ?_, r_law_cell⟩
  have nd := (sc_law_cell).nd
  exact (dss_cons (ds_if (dt_eq hr.units (dv 0) (de_lst da_nil)) (dss_one (ds_ret (de_mul de_int (dv 1)))) dss_nil) (dss_one (ds_ret (de_addF (de_ixF (dv 0) (de_mod (dv 1) (de_lenF T.b_len (da_cons (dv 0) da_nil)))) (de_mul de_int (de_fdiv (dv 1) (de_lenF T.b_len (da_cons (dv 0) da_nil))))))))
set_option maxHeartbeats 4000000 in
theorem ok_law_drawn (T : Tx K mg t) (G_law_cell : FnOk P w K mg base CX0 1 t.a_law_cell t.g_law_cell ["_law_script", "_law_k"] (spOf K S_law_cell))  : FnOk P w K mg base CX0 2 t.a_law_drawn t.g_law_drawn ["_law_script", "_law_k", "_law_many"] (spOf K S_law_drawn) := by
  refine fnD (k := 1) T.u_law_drawn sc_law_drawn l_law_drawn fun cdv A outer s H E hr => ⟨t_law_drawn, ?_, r_law_drawn⟩
  have nd := (sc_law_drawn).nd
  exact (dss_cons (ds_set 3 nd (de_mod (de_addF (de_mul (de_mod (de_call G_law_cell (hr.mono (by decide)) T.m_law_cell T.u_law_cell.kp T.d_law_cell (da_cons (dv 0) (da_cons (dv 1) da_nil))) de_int) de_int) (de_mul de_int (de_addF (dv 1) de_int))) de_int)) (dss_cons (ds_set 3 nd (de_mod (de_addF (de_mul (dv 3) (dv 3)) (de_fdiv (dv 3) de_int)) de_int)) (dss_one (ds_ret (de_mod (de_fdiv (de_mod (de_addF (de_mul (dv 3) (dv 3)) (de_fdiv (dv 3) de_int)) de_int) de_int) (dv 2))))))
set_option maxHeartbeats 4000000 in
theorem ok_figures_of (T : Tx K mg t)   : FnOk P w K mg base CX0 1 t.a_figures_of t.g_figures_of ["number"] (spOf K S_figures_of) := by
  refine fnD (k := 0) T.u_figures_of sc_figures_of l_figures_of fun cdv A outer s H E hr => ⟨t_figures_of, ?_, r_figures_of⟩
  have nd := (sc_figures_of).nd
  exact (dss_cons (ds_set 1 nd (dv 0)) (dss_cons (ds_own 2 nd da_nil) (dss_cons (ds_while PassesOwn.never (dt_ge (dv 1) (de_pow de_int de_int)) (dss_cons (ds_append 2 (de_zf (de_strI T.b_str (da_cons (de_mod (dv 1) (de_pow de_int de_int)) da_nil)))) (dss_one (ds_set 1 nd (de_fdiv (dv 1) (de_pow de_int de_int)))))) (dss_cons (ds_append 2 (de_strI T.b_str (da_cons (dv 1) da_nil))) (dss_frz 2 (dss_one (ds_ret (de_joinR (rn := "") rfl T.b_reversed (dv 2)))))))))
set_option maxHeartbeats 4000000 in
theorem ok_two_figures (T : Tx K mg t)   : FnOk P w K mg base CX0 1 t.a_two_figures t.g_two_figures ["number"] (spOf K S_two_figures) := by
  refine fnD (k := 0) T.u_two_figures sc_two_figures l_two_figures fun cdv A outer s H E hr => ⟨t_two_figures, ?_, r_two_figures⟩
  have nd := (sc_two_figures).nd
  exact (dss_one (ds_ret (de_zf (de_strI T.b_str (da_cons (dv 0) da_nil)))))
set_option maxHeartbeats 4000000 in
theorem ok_time_text (T : Tx K mg t) (G_figures_of : FnOk P w K mg base CX0 1 t.a_figures_of t.g_figures_of ["number"] (spOf K S_figures_of)) (G_two_figures : FnOk P w K mg base CX0 1 t.a_two_figures t.g_two_figures ["number"] (spOf K S_two_figures))  : FnOk P w K mg base CX0 2 t.a_time_text t.g_time_text ["seconds"] (spOf K S_time_text) := by
  refine fnD (k := 1) T.u_time_text sc_time_text l_time_text fun cdv A outer s H E hr => ⟨t_time_text, ?_, r_time_text⟩
  have nd := (sc_time_text).nd
  exact (dss_cons (ds_set 1 nd (de_call G_figures_of (hr.mono (by decide)) T.m_figures_of T.u_figures_of.kp T.d_figures_of (da_cons (de_fdiv (dv 0) (de_gint T.c_HOUR)) da_nil))) (dss_cons (ds_set 2 nd (de_call G_two_figures (hr.mono (by decide)) T.m_two_figures T.u_two_figures.kp T.d_two_figures (da_cons (de_fdiv (de_mod (dv 0) (de_gint T.c_HOUR)) (de_gint T.c_MINUTE)) da_nil))) (dss_cons (ds_set 3 nd (de_call G_two_figures (hr.mono (by decide)) T.m_two_figures T.u_two_figures.kp T.d_two_figures (da_cons (de_mod (dv 0) (de_gint T.c_MINUTE)) da_nil))) (dss_one (ds_ret (de_fmt (dj_fmt (dv 1) (dj_cons de_str (dj_fmt (dv 2) (dj_cons de_str (dj_fmt (dv 3) dj_nil)))))))))))
set_option maxHeartbeats 4000000 in
theorem ok_lap_start (T : Tx K mg t)   : FnOk P w K mg base CX0 1 t.a_lap_start t.g_lap_start ["place"] (spOf K S_lap_start) := by
  refine fnD (k := 0) T.u_lap_start sc_lap_start l_lap_start fun cdv A outer s H E hr => ⟨t_lap_start, ?_, r_lap_start⟩
  have nd := (sc_lap_start).nd
  exact (dss_one (ds_ret (de_addF (de_strI T.b_str (da_cons (de_addF (dv 0) de_int) da_nil)) de_str)))
set_option maxHeartbeats 4000000 in
theorem ok_laps_text (T : Tx K mg t) (G_lap_start : FnOk P w K mg base CX0 1 t.a_lap_start t.g_lap_start ["place"] (spOf K S_lap_start)) (G_time_text : FnOk P w K mg base CX0 2 t.a_time_text t.g_time_text ["seconds"] (spOf K S_time_text))  : FnOk P w K mg base CX0 3 t.a_laps_text t.g_laps_text ["sizes"] (spOf K S_laps_text) := by
  refine fnD (k := 2) T.u_laps_text sc_laps_text l_laps_text fun cdv A outer s H E hr => ⟨t_laps_text, ?_, r_laps_text⟩
  have nd := (sc_laps_text).nd
  exact (dss_one (ds_ret (de_join (de_compK ["sizes", "place", "size"] 2 rfl (di_enum T.b_enumerate (da_cons (dv 0) da_nil)) (fun cl C ex s H => ⟨(dg_tup2 1 2 rfl (show List.Nodup (α := Str) ["sizes", "place", "size"] by decide +kernel)), dts_nil, (de_addF (de_addF (de_call (by exact G_lap_start) (by exact hr.mono (by decide)) (by exact T.m_lap_start) (by exact T.u_lap_start.kp) (by exact T.d_lap_start) (da_cons (dv 1) da_nil)) (de_call (by exact G_time_text) (by exact hr.mono (by decide)) (by exact T.m_time_text) (by exact T.u_time_text.kp) (by exact T.d_time_text) (da_cons (dv 2) da_nil))) de_str)⟩) (by show compOk ["sizes"] (defScope s_laps_text) ["sizes", "place", "size"] _ 2 = true; decide +kernel) (by intro _; rfl)))))
set_option maxHeartbeats 4000000 in
theorem ok_are_figures (T : Tx K mg t)   : FnOk P w K mg base CX0 1 t.a_are_figures t.g_are_figures ["text"] (spOf K S_are_figures) := by
  refine fnD (k := 0) T.u_are_figures sc_are_figures l_are_figures fun cdv A outer s H E hr => ⟨t_are_figures, ?_, r_are_figures⟩
  have nd := (sc_are_figures).nd
  exact (dss_one (ds_ret (de_all rfl T.b_all (da_cons (de_compK ["text", "sign"] 1 rfl (di_text (dv 0)) (fun cl C ex s H => ⟨(dg_name 1 (show List.Nodup (α := Str) ["text", "sign"] by decide +kernel)), dts_nil, (de_inT (dv 1) (de_gstr (by exact T.c_FIGURES)))⟩) (by show compOk ["text"] (defScope s_are_figures) ["text", "sign"] _ 1 = true; decide +kernel) (by intro _; rfl)) da_nil))))
set_option maxHeartbeats 4000000 in
theorem ok_are_time_parts (T : Tx K mg t) (G_are_figures : FnOk P w K mg base CX0 1 t.a_are_figures t.g_are_figures ["text"] (spOf K S_are_figures))  : FnOk P w K mg base CX0 2 t.a_are_time_parts t.g_are_time_parts ["parts"] (spOf K S_are_time_parts) := by
  refine fnD (k := 1) T.u_are_time_parts sc_are_time_parts l_are_time_parts fun cdv A outer s H E hr => ⟨t_are_time_parts, ?_, r_are_time_parts⟩
  have nd := (sc_are_time_parts).nd
  exact (dss_cons (ds_if (dt_w (dw_or (dt_ne hr.units (de_lenF T.b_len (da_cons (dv 0) da_nil)) de_int) (dw_or1 (dt_not (dt_chain op_le op_le de_int (de_lenT T.b_len (da_cons (de_ixF (dv 0) de_int) da_nil)) (de_gint T.c_MOST_HOUR_FIGURES)))))) (dss_one (ds_ret de_bl)) dss_nil) (dss_one (ds_ret (de_and (de_eq hr.units (de_lenT T.b_len (da_cons (de_ixF (dv 0) de_int) da_nil)) de_int) (de_and (de_eq hr.units (de_lenT T.b_len (da_cons (de_ixF (dv 0) de_int) da_nil)) de_int) (de_one (de_all rfl T.b_all (da_cons (de_compK ["parts", "part"] 1 rfl (di_seqF (dv 0)) (fun cl C ex s H => ⟨(dg_name 1 (show List.Nodup (α := Str) ["parts", "part"] by decide +kernel)), dts_nil, (de_call (by exact G_are_figures) (by exact hr.mono (by decide)) (by exact T.m_are_figures) (by exact T.u_are_figures.kp) (by exact T.d_are_figures) (da_cons (dv 1) da_nil))⟩) (by show compOk ["parts"] (defScope s_are_time_parts) ["parts", "part"] _ 1 = true; decide +kernel) (by intro _; rfl)) da_nil))))))))
set_option maxHeartbeats 4000000 in
theorem ok_read_time (T : Tx K mg t) (G_are_time_parts : FnOk P w K mg base CX0 2 t.a_are_time_parts t.g_are_time_parts ["parts"] (spOf K S_are_time_parts)) (G_time_text : FnOk P w K mg base CX0 2 t.a_time_text t.g_time_text ["seconds"] (spOf K S_time_text))  : FnOk P w K mg base CX0 3 t.a_read_time t.g_read_time ["text"] (spOf K S_read_time) := by
  refine fnD (k := 2) T.u_read_time sc_read_time l_read_time fun cdv A outer s H E hr => ⟨t_read_time, ?_, r_read_time⟩
  have nd := (sc_read_time).nd
  exact (dss_cons (ds_set 1 nd (de_split (dv 0))) (dss_cons (ds_if (dt_not (dt_truF (de_call G_are_time_parts (hr.mono (by decide)) T.m_are_time_parts T.u_are_time_parts.kp T.d_are_time_parts (da_cons (dv 1) da_nil)))) (dss_one ds_never) dss_nil) (dss_cons (ds_set 2 nd (de_addF (de_addF (de_mul (de_intT T.b_int (da_cons (de_ixF (dv 1) de_int) da_nil)) (de_gint T.c_HOUR)) (de_mul (de_intT T.b_int (da_cons (de_ixF (dv 1) de_int) da_nil)) (de_gint T.c_MINUTE))) (de_intT T.b_int (da_cons (de_ixF (dv 1) de_int) da_nil)))) (dss_cons (ds_if (dt_ne hr.units (de_call G_time_text (hr.mono (by decide)) T.m_time_text T.u_time_text.kp T.d_time_text (da_cons (dv 2) da_nil)) (dv 0)) (dss_one ds_never) dss_nil) (dss_one (ds_ret (dv 2)))))))
set_option maxHeartbeats 4000000 in
theorem ok_lines_of (T : Tx K mg t)   : FnOk P w K mg base CX0 1 t.a_lines_of t.g_lines_of ["text"] (spOf K S_lines_of) := by
  refine fnD (k := 0) T.u_lines_of sc_lines_of l_lines_of fun cdv A outer s H E hr => ⟨t_lines_of, ?_, r_lines_of⟩
  have nd := (sc_lines_of).nd
  exact (dss_cons (ds_set 1 nd (de_split (dv 0))) (dss_cons (ds_if (dt_ne hr.units (de_ixF (dv 1) (de_neg de_int)) de_str) (dss_one ds_never) dss_nil) (dss_one (ds_ret (de_sliceG (dv 1) do_none (do_some (de_neg de_int)))))))
set_option maxHeartbeats 4000000 in
theorem ok_read_lap (T : Tx K mg t) (G_lap_start : FnOk P w K mg base CX0 1 t.a_lap_start t.g_lap_start ["place"] (spOf K S_lap_start)) (G_read_time : FnOk P w K mg base CX0 3 t.a_read_time t.g_read_time ["text"] (spOf K S_read_time))  : FnOk P w K mg base CX0 4 t.a_read_lap t.g_read_lap ["line", "place"] (spOf K S_read_lap) := by
  refine fnD (k := 3) T.u_read_lap sc_read_lap l_read_lap fun cdv A outer s H E hr => ⟨t_read_lap, ?_, r_read_lap⟩
  have nd := (sc_read_lap).nd
  exact (dss_cons (ds_set 2 nd (de_call G_lap_start (hr.mono (by decide)) T.m_lap_start T.u_lap_start.kp T.d_lap_start (da_cons (dv 1) da_nil))) (dss_cons (ds_if (dt_not (dt_truF (de_sw (dv 0) (dv 2)))) (dss_one ds_never) dss_nil) (dss_one (ds_ret (de_call G_read_time (hr.mono (by decide)) T.m_read_time T.u_read_time.kp T.d_read_time (da_cons (de_slT (dv 0) (do_some (de_lenT T.b_len (da_cons (dv 2) da_nil))) do_none) da_nil))))))
set_option maxHeartbeats 4000000 in
theorem ok_read_laps (T : Tx K mg t) (G_lines_of : FnOk P w K mg base CX0 1 t.a_lines_of t.g_lines_of ["text"] (spOf K S_lines_of)) (G_read_lap : FnOk P w K mg base CX0 4 t.a_read_lap t.g_read_lap ["line", "place"] (spOf K S_read_lap))  : FnOk P w K mg base CX0 5 t.a_read_laps t.g_read_laps ["text"] (spOf K S_read_laps) := by
  refine fnD (k := 4) T.u_read_laps sc_read_laps l_read_laps fun cdv A outer s H E hr => ⟨t_read_laps, ?_, r_read_laps⟩
  have nd := (sc_read_laps).nd
  exact (dss_one (ds_ret (de_compK ["text", "place", "line"] 2 rfl (di_enum T.b_enumerate (da_cons (de_call G_lines_of (hr.mono (by decide)) T.m_lines_of T.u_lines_of.kp T.d_lines_of (da_cons (dv 0) da_nil)) da_nil)) (fun cl C ex s H => ⟨(dg_tup2 1 2 rfl (show List.Nodup (α := Str) ["text", "place", "line"] by decide +kernel)), dts_nil, (de_call (by exact G_read_lap) (by exact hr.mono (by decide)) (by exact T.m_read_lap) (by exact T.u_read_lap.kp) (by exact T.d_read_lap) (da_cons (dv 2) (da_cons (dv 1) da_nil)))⟩) (by show compOk ["text"] (defScope s_read_laps) ["text", "place", "line"] _ 2 = true; decide +kernel) (by intro _; rfl))))
set_option maxHeartbeats 4000000 in
theorem ok_law_told (T : Tx K mg t) (KB : K.In base) (NB : base.Ns mainGlobals mg) (G_read_time : FnOk P w K mg base CX0 3 t.a_read_time t.g_read_time ["text"] (spOf K S_read_time)) (G_read_laps : FnOk P w K mg base CX0 5 t.a_read_laps t.g_read_laps ["text"] (spOf K S_read_laps))  (R_read_time : FnOk P w K mg base (CXE P w) 3 t.a_read_time t.g_read_time ["text"] (spR K t.c_NoText SR_read_time)) (R_read_laps : FnOk P w K mg base (CXE P w) 5 t.a_read_laps t.g_read_laps ["text"] (spR K t.c_NoText SR_read_laps)) : FnOk P w K mg base CX0 6 t.a_law_told t.g_law_told ["_law_way", "_law_text"] (spOf K S_law_told) := by
  refine fnD (k := 5) T.u_law_told sc_law_told l_law_told fun cdv A outer s H E hr => ⟨t_law_told, ?_, r_law_told⟩
  have nd := (sc_law_told).nd
  have BB : Base2 (cxOf CX0 P w K mg base ["_law_way", "_law_text", "e", "_law_flags"] "_law_told" (defScope s_law_told) t.a_law_told cdv A outer s H E) t.c_NoText t.c_RingError "RingError" := ⟨⟨_, _, own_in KB NB T.n_RingError T.q_RingError, by decide⟩, base_in KB T.q_NoText T.mr T.nr⟩
  exact (dss_cons (ds_try (i := 2) rfl rfl BB (dss_one (ds_ret (de_if (dt_eq hr.units (dv 0) de_int) (de_call G_read_time (hr.mono (by decide)) T.m_read_time T.u_read_time.kp T.d_read_time (da_cons (dv 1) da_nil)) (de_call G_read_laps (hr.mono (by decide)) T.m_read_laps T.u_read_laps.kp T.d_read_laps (da_cons (dv 1) da_nil))))) (fun n pn xe Pk W => (rss_here (rs_ret (re_if (dt_eq hr.units (dv 0) de_int) (re_call W R_read_time (hr.mono (by decide)) T.m_read_time T.u_read_time.kp T.d_read_time (da_cons (dv 1) da_nil)) (re_call W R_read_laps (hr.mono (by decide)) T.m_read_laps T.u_read_laps.kp T.d_read_laps (da_cons (dv 1) da_nil)))))) (suite_in fun ea oe hcls => ⟨t_law_told_suite ea, (by exact (dss_cons (ds_set 3 nd (de_lst (da_cons (de_isE (c := .ref t.c_NoText) (cv := .ref t.c_NoText) 2 List.mem_cons_self hcls T.xC rfl (fun _ h => h) T.k_NoText (pe_glob (v := .ref t.c_NoText) rfl T.e_NoText rfl) T.b_isinstance) (da_cons (de_isE (c := .ref t.c_NoClock) (cv := .ref t.c_NoClock) 2 List.mem_cons_self hcls T.xC rfl (fun _ h => h) T.k_NoClock (pe_glob (v := .ref t.c_NoClock) rfl T.e_NoClock rfl) T.b_isinstance) (da_cons (de_isE (c := .ref t.c_Early) (cv := .ref t.c_Early) 2 List.mem_cons_self hcls T.xC rfl (fun _ h => h) T.k_Early (pe_glob (v := .ref t.c_Early) rfl T.e_Early rfl) T.b_isinstance) da_nil))))) (dss_one (ds_if (dt_w (dw_and (dt_truF (de_isE (c := .type "ValueError") (cv := .ty "ValueError") 2 List.mem_cons_self hcls T.xC rfl (fun _ h => h) T.k_ValueError (pe_bltn (v := .ty "ValueError") rfl T.b_ValueError rfl rfl) T.b_isinstance)) (dw_and1 (dt_eq (by first | exact hr.units | (have z := units3 hr; exact (Nat.lt_of_le_of_lt (by simp) z))) (dv 3) (de_lst (da_cons de_bl (da_cons de_bl (da_cons de_bl da_nil)))))))) (dss_one (ds_ret de_non)) dss_nil)))), rf_law_told ea⟩) nd rfl rfl rfl rfl) (dss_one (ds_ret de_bl)))
set_option maxHeartbeats 4000000 in
theorem ok_law_due (T : Tx K mg t)   : FnOk P w K mg base CX0 1 t.a_law_due t.g_law_due ["_law_text"] (spOf K S_law_due) := by
  refine fnD (k := 0) T.u_law_due sc_law_due l_law_due fun cdv A outer s H E hr => ⟨t_law_due, ?_, r_law_due⟩
  have nd := (sc_law_due).nd
  exact (dss_cons (ds_set 1 nd (de_split (dv 0))) (dss_cons (ds_if (dt_ne hr.units (de_lenF T.b_len (da_cons (dv 1) da_nil)) de_int) (dss_one (ds_ret de_non)) dss_nil) (dss_cons (ds_for PassesOwn.never rfl (di_enum T.b_enumerate (da_cons (dv 1) da_nil)) (dg_tup2 2 3 rfl nd) (dss_cons (ds_if (dt_w (dw_or (dt_ne hr.units (de_compK ["_law_text", "_law_words", "_law_at", "_law_word", "_law_sign"] 1 rfl (di_text (dv 3)) (fun cl C ex s H => ⟨(dg_name 4 (show List.Nodup (α := Str) ["_law_text", "_law_words", "_law_at", "_law_word", "_law_sign"] by decide +kernel)), (dts_one (dt_ninT (dv 4) de_str)), (dv 4)⟩) (by show compOk ["_law_text", "_law_words", "_law_at", "_law_word"] (defScope s_law_due) ["_law_text", "_law_words", "_law_at", "_law_word", "_law_sign"] _ 1 = true; decide +kernel) (by intro _; rfl)) (de_lst da_nil)) (dw_or1 (dt_not (dt_chain op_le op_le de_int (de_lenT T.b_len (da_cons (dv 3) da_nil)) (de_ixF (de_lst (da_cons de_int (da_cons de_int (da_cons de_int da_nil)))) (dv 2))))))) (dss_one (ds_ret de_non)) dss_nil) (dss_one (ds_if (dt_w (dw_or (dt_w (dw_and (dt_gt (dv 2) de_int) (dw_and1 (dt_w (dw_or (dt_ne hr.units (de_lenT T.b_len (da_cons (dv 3) da_nil)) de_int) (dw_or1 (dt_gt (de_intT T.b_int (da_cons (dv 3) da_nil)) de_int))))))) (dw_or1 (dt_w (dw_and (dt_eq hr.units (dv 2) de_int) (dw_and1 (dt_ne hr.units (dv 3) (de_strI T.b_str (da_cons (de_intT T.b_int (da_cons (dv 3) da_nil)) da_nil))))))))) (dss_one (ds_ret de_non)) dss_nil)))) (dss_one (ds_ret (de_addF (de_addF (de_mul (de_intT T.b_int (da_cons (de_ixF (dv 1) de_int) da_nil)) de_int) (de_mul (de_intT T.b_int (da_cons (de_ixF (dv 1) de_int) da_nil)) de_int)) (de_intT T.b_int (da_cons (de_ixF (dv 1) de_int) da_nil))))))))
set_option maxHeartbeats 4000000 in
theorem ok_law_laps (T : Tx K mg t) (G_law_due : FnOk P w K mg base CX0 1 t.a_law_due t.g_law_due ["_law_text"] (spOf K S_law_due))  : FnOk P w K mg base CX0 2 t.a_law_laps t.g_law_laps ["_law_text"] (spOf K S_law_laps) := by
  refine fnD (k := 1) T.u_law_laps sc_law_laps l_law_laps fun cdv A outer s H E hr => ⟨t_law_laps, ?_, r_law_laps⟩
  have nd := (sc_law_laps).nd
  exact (dss_cons (ds_set 1 nd (de_split (dv 0))) (dss_cons (ds_own 2 nd da_nil) (dss_cons (ds_for PassesOwn.never rfl (di_enum T.b_enumerate (da_cons (de_sliceG (dv 1) do_none (do_some (de_neg de_int))) da_nil)) (dg_tup2 3 4 rfl nd) (dss_cons (ds_set 5 nd (de_addF (de_strI T.b_str (da_cons (de_addF (dv 3) de_int) da_nil)) de_str)) (dss_cons (ds_if (dt_w (dw_or (dt_ne hr.units (de_slT (dv 4) do_none (do_some (de_lenT T.b_len (da_cons (dv 5) da_nil)))) (dv 5)) (dw_or1 (dt_is (de_call G_law_due (hr.mono (by decide)) T.m_law_due T.u_law_due.kp T.d_law_due (da_cons (de_slT (dv 4) (do_some (de_lenT T.b_len (da_cons (dv 5) da_nil))) do_none) da_nil)) de_non)))) (dss_one (ds_ret de_non)) dss_nil) (dss_one (ds_append 2 (de_call G_law_due (hr.mono (by decide)) T.m_law_due T.u_law_due.kp T.d_law_due (da_cons (de_slT (dv 4) (do_some (de_lenT T.b_len (da_cons (dv 5) da_nil))) do_none) da_nil))))))) (dss_frz 2 (dss_one (ds_ret (de_if (dt_eq hr.units (de_ixF (dv 1) (de_neg de_int)) de_str) (dv 2) de_non)))))))
set_option maxHeartbeats 4000000 in
theorem ok_law (T : Tx K mg t) (G_law_drawn : FnOk P w K mg base CX0 2 t.a_law_drawn t.g_law_drawn ["_law_script", "_law_k", "_law_many"] (spOf K S_law_drawn)) (G_time_text : FnOk P w K mg base CX0 2 t.a_time_text t.g_time_text ["seconds"] (spOf K S_time_text)) (G_laps_text : FnOk P w K mg base CX0 3 t.a_laps_text t.g_laps_text ["sizes"] (spOf K S_laps_text)) (G_law_told : FnOk P w K mg base CX0 6 t.a_law_told t.g_law_told ["_law_way", "_law_text"] (spOf K S_law_told)) (G_law_due : FnOk P w K mg base CX0 1 t.a_law_due t.g_law_due ["_law_text"] (spOf K S_law_due)) (G_law_laps : FnOk P w K mg base CX0 2 t.a_law_laps t.g_law_laps ["_law_text"] (spOf K S_law_laps))  : FnOk P w K mg base CX0 7 t.a_law t.g_law ["_law_script"] (spOf K S_law) := by
  refine fnD (k := 6) T.u_law sc_law l_law fun cdv A outer s H E hr => ⟨t_law, ?_, r_law⟩
  have nd := (sc_law).nd
  exact (dss_cons (ds_own 1 nd da_nil) (dss_cons (ds_for PassesOwn.never rfl (di_range1 T.b_range (da_cons de_int da_nil)) (dg_name 2 nd) (dss_one (ds_append 1 (de_call G_law_drawn (hr.mono (by decide)) T.m_law_drawn T.u_law_drawn.kp T.d_law_drawn (da_cons (dv 0) (da_cons (de_mul de_int (dv 2)) (da_cons (de_ixF (de_lst (da_cons de_int (da_cons de_int (da_cons de_int (da_cons de_int da_nil))))) (de_call G_law_drawn (hr.mono (by decide)) T.m_law_drawn T.u_law_drawn.kp T.d_law_drawn (da_cons (dv 0) (da_cons (de_addF de_int (de_mul de_int (dv 2))) (da_cons de_int da_nil))))) da_nil))))))) (dss_frz 1 (dss_cons (ds_set 3 nd (de_call G_time_text (hr.mono (by decide)) T.m_time_text T.u_time_text.kp T.d_time_text (da_cons (de_ixF (dv 1) de_int) da_nil))) (dss_cons (ds_set 4 nd (de_call G_time_text (hr.mono (by decide)) T.m_time_text T.u_time_text.kp T.d_time_text (da_cons (de_ixF (dv 1) de_int) da_nil))) (dss_cons (ds_if (dt_w (dw_or (dt_ne hr.units (de_eq hr.units (dv 3) (dv 4)) (de_eq hr.units (de_ixF (dv 1) de_int) (de_ixF (dv 1) de_int))) (dw_or1 (dt_w (dw_and (dt_lt (de_ixF (dv 1) de_int) (de_ixF (dv 1) de_int)) (dw_and1 (dt_gt (de_lenT T.b_len (da_cons (dv 3) da_nil)) (de_lenT T.b_len (da_cons (dv 4) da_nil))))))))) (dss_one (ds_ret de_bl)) dss_nil) (dss_cons (ds_set 5 nd (de_sliceG (dv 1) do_none (do_some (de_call G_law_drawn (hr.mono (by decide)) T.m_law_drawn T.u_law_drawn.kp T.d_law_drawn (da_cons (dv 0) (da_cons de_int (da_cons de_int da_nil))))))) (dss_cons (ds_for PassesOwn.never rfl (di_range1 T.b_range (da_cons de_int da_nil)) (dg_name 6 nd) (dss_cons (ds_set 7 nd (de_if (dt_eq hr.units (dv 6) de_int) (dv 3) (de_call G_laps_text (hr.mono (by decide)) T.m_laps_text T.u_laps_text.kp T.d_laps_text (da_cons (dv 5) da_nil)))) (dss_cons (ds_set 8 nd (de_call G_law_drawn (hr.mono (by decide)) T.m_law_drawn T.u_law_drawn.kp T.d_law_drawn (da_cons (dv 0) (da_cons (de_addF de_int (dv 6)) (da_cons (de_addF (de_lenT T.b_len (da_cons (dv 7) da_nil)) de_int) da_nil))))) (dss_cons (ds_set 9 nd (de_sign (de_call G_law_drawn (hr.mono (by decide)) T.m_law_drawn T.u_law_drawn.kp T.d_law_drawn (da_cons (dv 0) (da_cons (de_addF de_int (dv 6)) (da_cons de_int da_nil)))))) (dss_cons (ds_set 10 nd (de_lst (da_cons (dv 7) (da_cons (de_addF (de_slT (dv 7) do_none (do_some (dv 8))) (de_slT (dv 7) (do_some (de_addF (dv 8) de_int)) do_none)) (da_cons (de_addF (de_slT (dv 7) do_none (do_some (de_addF (dv 8) de_int))) (de_slT (dv 7) (do_some (dv 8)) do_none)) (da_cons (de_addF (de_addF (de_slT (dv 7) do_none (do_some (dv 8))) (dv 9)) (de_slT (dv 7) (do_some (de_addF (dv 8) de_int)) do_none)) da_nil)))))) (dss_cons (ds_set 11 nd (de_split (dv 7))) (dss_cons (ds_set 12 nd (de_call G_law_drawn (hr.mono (by decide)) T.m_law_drawn T.u_law_drawn.kp T.d_law_drawn (da_cons (dv 0) (da_cons (de_addF de_int (dv 6)) (da_cons (de_lenF T.b_len (da_cons (dv 11) da_nil)) da_nil))))) (dss_cons (ds_set 10 nd (de_addF (dv 10) (de_lst (da_cons (de_join (de_addF (de_sliceG (dv 11) do_none (do_some (dv 12))) (de_sliceG (dv 11) (do_some (de_addF (dv 12) de_int)) do_none))) (da_cons (de_join (de_addF (de_sliceG (dv 11) do_none (do_some (de_addF (dv 12) de_int))) (de_sliceG (dv 11) (do_some (dv 12)) do_none))) da_nil))))) (dss_cons (ds_set 13 nd (de_addF (de_addF (de_sliceG (dv 11) do_none (do_some (dv 12))) (de_revL (de_sliceG (dv 11) (do_some (dv 12)) (do_some (de_addF (dv 12) de_int))))) (de_sliceG (dv 11) (do_some (de_addF (dv 12) de_int)) do_none))) (dss_cons (ds_set 10 nd (de_addF (dv 10) (de_lst (by refine da_consL ?_ ?_; exact (de_join (dv 13)); refine da_consL ?_ ?_; exact de_str; refine da_consL ?_ ?_; exact de_str; refine da_consL ?_ ?_; exact de_str; refine da_consL ?_ ?_; exact de_str; refine da_consL ?_ ?_; exact de_str; exact da_nil)))) (dss_cons (ds_set 10 nd (de_addF (dv 10) (de_lst (by refine da_consL ?_ ?_; exact de_str; refine da_consL ?_ ?_; exact de_str; refine da_consL ?_ ?_; exact de_str; refine da_consL ?_ ?_; exact de_str; refine da_consL ?_ ?_; exact de_str; refine da_consL ?_ ?_; exact de_str; refine da_consL ?_ ?_; exact de_str; exact da_nil)))) (dss_one (ds_for PassesOwn.never rfl (di_seqF (dv 10)) (dg_name 14 nd) (dss_one (ds_if (dt_w (dw_or (dt_ne hr.units (de_call G_law_told (hr.mono (by decide)) T.m_law_told T.u_law_told.kp T.d_law_told (da_cons de_int (da_cons (dv 14) da_nil))) (de_call G_law_due (hr.mono (by decide)) T.m_law_due T.u_law_due.kp T.d_law_due (da_cons (dv 14) da_nil))) (dw_or1 (dt_ne hr.units (de_call G_law_told (hr.mono (by decide)) T.m_law_told T.u_law_told.kp T.d_law_told (da_cons de_int (da_cons (dv 14) da_nil))) (de_call G_law_laps (hr.mono (by decide)) T.m_law_laps T.u_law_laps.kp T.d_law_laps (da_cons (dv 14) da_nil)))))) (dss_one (ds_ret de_bl)) dss_nil))))))))))))))) (dss_one (ds_ret de_bl))))))))))
theorem ok_all (T : Tx K mg t) (KB : K.In base) (NB : base.Ns mainGlobals mg) : FnOk P w K mg base CX0 7 t.a_law t.g_law ["_law_script"] (spOf K S_law) := by
  have G_law_cell := ok_law_cell (P := P) (w := w) (base := base) T
  have G_law_drawn := ok_law_drawn (P := P) (w := w) (base := base) T G_law_cell
  have G_figures_of := ok_figures_of (P := P) (w := w) (base := base) T
  have G_two_figures := ok_two_figures (P := P) (w := w) (base := base) T
  have G_time_text := ok_time_text (P := P) (w := w) (base := base) T G_figures_of G_two_figures
  have G_lap_start := ok_lap_start (P := P) (w := w) (base := base) T
  have G_laps_text := ok_laps_text (P := P) (w := w) (base := base) T G_lap_start G_time_text
  have G_are_figures := ok_are_figures (P := P) (w := w) (base := base) T
  have G_are_time_parts := ok_are_time_parts (P := P) (w := w) (base := base) T G_are_figures
  have G_read_time := ok_read_time (P := P) (w := w) (base := base) T G_are_time_parts G_time_text
  have R_read_time := rk_read_time (P := P) (w := w) (base := base) T KB NB G_are_time_parts G_time_text
  have G_lines_of := ok_lines_of (P := P) (w := w) (base := base) T
  have R_lines_of := rk_lines_of (P := P) (w := w) (base := base) T KB NB
  have G_read_lap := ok_read_lap (P := P) (w := w) (base := base) T G_lap_start G_read_time
  have R_read_lap := rk_read_lap (P := P) (w := w) (base := base) T KB NB G_lap_start G_read_time R_read_time
  have G_read_laps := ok_read_laps (P := P) (w := w) (base := base) T G_lines_of G_read_lap
  have R_read_laps := rk_read_laps (P := P) (w := w) (base := base) T KB NB G_lines_of G_read_lap R_lines_of R_read_lap
  have G_law_told := ok_law_told (P := P) (w := w) (base := base) T KB NB G_read_time G_read_laps R_read_time R_read_laps
  have G_law_due := ok_law_due (P := P) (w := w) (base := base) T
  have G_law_laps := ok_law_laps (P := P) (w := w) (base := base) T G_law_due
  exact ok_law T G_law_drawn G_time_text G_laps_text G_law_told G_law_due G_law_laps
end
set_option maxHeartbeats 4000000 in
theorem tx_mk {K : PySem.W.Frag} {h : Heap} {mg : Str → Option Value} (X : K.In h) (G : h.Ns mainGlobals mg) {f0 : Addr} {od0 an0 : Option Addr} {sl0 : Array (Option Value)} {oc0 kV0 dc0 pm0 cd0 ct0 : Value} {f1 : Addr} {od1 an1 : Option Addr} {sl1 : Array (Option Value)} {oc1 kV1 dc1 pm1 cd1 ct1 : Value} {f2 : Addr} {od2 an2 : Option Addr} {sl2 : Array (Option Value)} {oc2 kV2 dc2 pm2 cd2 ct2 : Value} {f3 : Addr} {od3 an3 : Option Addr} {sl3 : Array (Option Value)} {oc3 kV3 dc3 pm3 cd3 ct3 : Value} {f4 : Addr} {od4 an4 : Option Addr} {sl4 : Array (Option Value)} {oc4 kV4 dc4 pm4 cd4 ct4 : Value} {f5 : Addr} {od5 an5 : Option Addr} {sl5 : Array (Option Value)} {oc5 kV5 dc5 pm5 cd5 ct5 : Value} {f6 : Addr} {od6 an6 : Option Addr} {sl6 : Array (Option Value)} {oc6 kV6 dc6 pm6 cd6 ct6 : Value} {f7 : Addr} {od7 an7 : Option Addr} {sl7 : Array (Option Value)} {oc7 kV7 dc7 pm7 cd7 ct7 : Value} {f8 : Addr} {od8 an8 : Option Addr} {sl8 : Array (Option Value)} {oc8 kV8 dc8 pm8 cd8 ct8 : Value} {f9 : Addr} {od9 an9 : Option Addr} {sl9 : Array (Option Value)} {oc9 kV9 dc9 pm9 cd9 ct9 : Value} {f10 : Addr} {od10 an10 : Option Addr} {sl10 : Array (Option Value)} {oc10 kV10 dc10 pm10 cd10 ct10 : Value} {f11 : Addr} {od11 an11 : Option Addr} {sl11 : Array (Option Value)} {oc11 kV11 dc11 pm11 cd11 ct11 : Value} {f12 : Addr} {od12 an12 : Option Addr} {sl12 : Array (Option Value)} {oc12 kV12 dc12 pm12 cd12 ct12 : Value} {f13 : Addr} {od13 an13 : Option Addr} {sl13 : Array (Option Value)} {oc13 kV13 dc13 pm13 cd13 ct13 : Value} {f14 : Addr} {od14 an14 : Option Addr} {sl14 : Array (Option Value)} {oc14 kV14 dc14 pm14 cd14 ct14 : Value} {f15 : Addr} {od15 an15 : Option Addr} {sl15 : Array (Option Value)} {oc15 kV15 dc15 pm15 cd15 ct15 : Value} {f16 : Addr} {od16 an16 : Option Addr} {sl16 : Array (Option Value)} {oc16 kV16 dc16 pm16 cd16 ct16 : Value} {CNoText : Addr} {CNoClock : Addr} {CEarly : Addr} {CRingError : Addr} {tk0 : Tok} {tk1 : Tok} {tk2 : Tok} {tk3 : Tok}
    (a0 : PySem.W.nsIn K mainGlobals "_law_cell" = some (some (.ref f0))) (l0 : K.lookup f0 = some ⟨oc0, od0, .func (PySem.W.fnOf "_law_cell" "_law_cell" (defArgs s_law_cell) (defBody s_law_cell) (defScope s_law_cell) .none kV0 dc0 pm0 an0 cd0 ct0), sl0⟩) (c0 : PySem.W.codeIn K cd0 "_law_cell" = true) (k0 : PySem.W.keepIn K (.ref f0) = true) (a1 : PySem.W.nsIn K mainGlobals "_law_drawn" = some (some (.ref f1))) (l1 : K.lookup f1 = some ⟨oc1, od1, .func (PySem.W.fnOf "_law_drawn" "_law_drawn" (defArgs s_law_drawn) (defBody s_law_drawn) (defScope s_law_drawn) .none kV1 dc1 pm1 an1 cd1 ct1), sl1⟩) (c1 : PySem.W.codeIn K cd1 "_law_drawn" = true) (k1 : PySem.W.keepIn K (.ref f1) = true) (a2 : PySem.W.nsIn K mainGlobals "figures_of" = some (some (.ref f2))) (l2 : K.lookup f2 = some ⟨oc2, od2, .func (PySem.W.fnOf "figures_of" "figures_of" (defArgs s_figures_of) (defBody s_figures_of) (defScope s_figures_of) .none kV2 dc2 pm2 an2 cd2 ct2), sl2⟩) (c2 : PySem.W.codeIn K cd2 "figures_of" = true) (k2 : PySem.W.keepIn K (.ref f2) = true) (a3 : PySem.W.nsIn K mainGlobals "two_figures" = some (some (.ref f3))) (l3 : K.lookup f3 = some ⟨oc3, od3, .func (PySem.W.fnOf "two_figures" "two_figures" (defArgs s_two_figures) (defBody s_two_figures) (defScope s_two_figures) .none kV3 dc3 pm3 an3 cd3 ct3), sl3⟩) (c3 : PySem.W.codeIn K cd3 "two_figures" = true) (k3 : PySem.W.keepIn K (.ref f3) = true) (a4 : PySem.W.nsIn K mainGlobals "time_text" = some (some (.ref f4))) (l4 : K.lookup f4 = some ⟨oc4, od4, .func (PySem.W.fnOf "time_text" "time_text" (defArgs s_time_text) (defBody s_time_text) (defScope s_time_text) .none kV4 dc4 pm4 an4 cd4 ct4), sl4⟩) (c4 : PySem.W.codeIn K cd4 "time_text" = true) (k4 : PySem.W.keepIn K (.ref f4) = true) (a5 : PySem.W.nsIn K mainGlobals "lap_start" = some (some (.ref f5))) (l5 : K.lookup f5 = some ⟨oc5, od5, .func (PySem.W.fnOf "lap_start" "lap_start" (defArgs s_lap_start) (defBody s_lap_start) (defScope s_lap_start) .none kV5 dc5 pm5 an5 cd5 ct5), sl5⟩) (c5 : PySem.W.codeIn K cd5 "lap_start" = true) (k5 : PySem.W.keepIn K (.ref f5) = true) (a6 : PySem.W.nsIn K mainGlobals "laps_text" = some (some (.ref f6))) (l6 : K.lookup f6 = some ⟨oc6, od6, .func (PySem.W.fnOf "laps_text" "laps_text" (defArgs s_laps_text) (defBody s_laps_text) (defScope s_laps_text) .none kV6 dc6 pm6 an6 cd6 ct6), sl6⟩) (c6 : PySem.W.codeIn K cd6 "laps_text" = true) (k6 : PySem.W.keepIn K (.ref f6) = true) (a7 : PySem.W.nsIn K mainGlobals "are_figures" = some (some (.ref f7))) (l7 : K.lookup f7 = some ⟨oc7, od7, .func (PySem.W.fnOf "are_figures" "are_figures" (defArgs s_are_figures) (defBody s_are_figures) (defScope s_are_figures) .none kV7 dc7 pm7 an7 cd7 ct7), sl7⟩) (c7 : PySem.W.codeIn K cd7 "are_figures" = true) (k7 : PySem.W.keepIn K (.ref f7) = true) (a8 : PySem.W.nsIn K mainGlobals "are_time_parts" = some (some (.ref f8))) (l8 : K.lookup f8 = some ⟨oc8, od8, .func (PySem.W.fnOf "are_time_parts" "are_time_parts" (defArgs s_are_time_parts) (defBody s_are_time_parts) (defScope s_are_time_parts) .none kV8 dc8 pm8 an8 cd8 ct8), sl8⟩) (c8 : PySem.W.codeIn K cd8 "are_time_parts" = true) (k8 : PySem.W.keepIn K (.ref f8) = true) (a9 : PySem.W.nsIn K mainGlobals "read_time" = some (some (.ref f9))) (l9 : K.lookup f9 = some ⟨oc9, od9, .func (PySem.W.fnOf "read_time" "read_time" (defArgs s_read_time) (defBody s_read_time) (defScope s_read_time) .none kV9 dc9 pm9 an9 cd9 ct9), sl9⟩) (c9 : PySem.W.codeIn K cd9 "read_time" = true) (k9 : PySem.W.keepIn K (.ref f9) = true) (a10 : PySem.W.nsIn K mainGlobals "lines_of" = some (some (.ref f10))) (l10 : K.lookup f10 = some ⟨oc10, od10, .func (PySem.W.fnOf "lines_of" "lines_of" (defArgs s_lines_of) (defBody s_lines_of) (defScope s_lines_of) .none kV10 dc10 pm10 an10 cd10 ct10), sl10⟩) (c10 : PySem.W.codeIn K cd10 "lines_of" = true) (k10 : PySem.W.keepIn K (.ref f10) = true) (a11 : PySem.W.nsIn K mainGlobals "read_lap" = some (some (.ref f11))) (l11 : K.lookup f11 = some ⟨oc11, od11, .func (PySem.W.fnOf "read_lap" "read_lap" (defArgs s_read_lap) (defBody s_read_lap) (defScope s_read_lap) .none kV11 dc11 pm11 an11 cd11 ct11), sl11⟩) (c11 : PySem.W.codeIn K cd11 "read_lap" = true) (k11 : PySem.W.keepIn K (.ref f11) = true) (a12 : PySem.W.nsIn K mainGlobals "read_laps" = some (some (.ref f12))) (l12 : K.lookup f12 = some ⟨oc12, od12, .func (PySem.W.fnOf "read_laps" "read_laps" (defArgs s_read_laps) (defBody s_read_laps) (defScope s_read_laps) .none kV12 dc12 pm12 an12 cd12 ct12), sl12⟩) (c12 : PySem.W.codeIn K cd12 "read_laps" = true) (k12 : PySem.W.keepIn K (.ref f12) = true) (a13 : PySem.W.nsIn K mainGlobals "_law_told" = some (some (.ref f13))) (l13 : K.lookup f13 = some ⟨oc13, od13, .func (PySem.W.fnOf "_law_told" "_law_told" (defArgs s_law_told) (defBody s_law_told) (defScope s_law_told) .none kV13 dc13 pm13 an13 cd13 ct13), sl13⟩) (c13 : PySem.W.codeIn K cd13 "_law_told" = true) (k13 : PySem.W.keepIn K (.ref f13) = true) (a14 : PySem.W.nsIn K mainGlobals "_law_due" = some (some (.ref f14))) (l14 : K.lookup f14 = some ⟨oc14, od14, .func (PySem.W.fnOf "_law_due" "_law_due" (defArgs s_law_due) (defBody s_law_due) (defScope s_law_due) .none kV14 dc14 pm14 an14 cd14 ct14), sl14⟩) (c14 : PySem.W.codeIn K cd14 "_law_due" = true) (k14 : PySem.W.keepIn K (.ref f14) = true) (a15 : PySem.W.nsIn K mainGlobals "_law_laps" = some (some (.ref f15))) (l15 : K.lookup f15 = some ⟨oc15, od15, .func (PySem.W.fnOf "_law_laps" "_law_laps" (defArgs s_law_laps) (defBody s_law_laps) (defScope s_law_laps) .none kV15 dc15 pm15 an15 cd15 ct15), sl15⟩) (c15 : PySem.W.codeIn K cd15 "_law_laps" = true) (k15 : PySem.W.keepIn K (.ref f15) = true) (a16 : PySem.W.nsIn K mainGlobals "law" = some (some (.ref f16))) (l16 : K.lookup f16 = some ⟨oc16, od16, .func (PySem.W.fnOf "law" "law" (defArgs s_law) (defBody s_law) (defScope s_law) .none kV16 dc16 pm16 an16 cd16 ct16), sl16⟩) (c16 : PySem.W.codeIn K cd16 "law" = true) (k16 : PySem.W.keepIn K (.ref f16) = true) (aeNoText : PySem.W.nsIn K mainGlobals "NoText" = some (some (.ref CNoText))) (aeNoClock : PySem.W.nsIn K mainGlobals "NoClock" = some (some (.ref CNoClock))) (aeEarly : PySem.W.nsIn K mainGlobals "Early" = some (some (.ref CEarly))) (aeRingError : PySem.W.nsIn K mainGlobals "RingError" = some (some (.ref CRingError))) (xq : PySem.W.excIn K CNoText [.type "ValueError", .type "Exception", .type "BaseException", .type "object"] "ValueError.__new__" = true) (xr : PySem.W.excIn K CRingError [.type "ValueError", .type "Exception", .type "BaseException", .type "object"] "ValueError.__new__" = true) (xga : PySem.W.findIn K (.ref CNoText) "__getattribute__" = some (some (.builtin "BaseException.__getattribute__"))) (xgn : PySem.W.findIn K (.ref CNoText) "__getattr__" = some none) (xcl : PySem.W.findIn K (.ref CNoText) "__class__" = some (some (.builtin "object.__class__"))) (xkv : PySem.W.kitOne K (.ref CNoText) (.type "ValueError") = some true) (xkNoText : PySem.W.kitOne K (.ref CNoText) (.ref CNoText) = some true) (xkNoClock : PySem.W.kitOne K (.ref CNoText) (.ref CNoClock) = some false) (xkEarly : PySem.W.kitOne K (.ref CNoText) (.ref CEarly) = some false) (xmr : PySem.W.mroIn K CNoText (.ref CRingError) = some true) (xnr : CNoText ≠ CRingError) (z0 : PySem.W.nsIn K mainGlobals "ValueError" = some none) (z1 : PySem.W.nsIn K mainGlobals "all" = some none) (z2 : PySem.W.nsIn K mainGlobals "enumerate" = some none) (z3 : PySem.W.nsIn K mainGlobals "int" = some none) (z4 : PySem.W.nsIn K mainGlobals "isinstance" = some none) (z5 : PySem.W.nsIn K mainGlobals "len" = some none) (z6 : PySem.W.nsIn K mainGlobals "range" = some none) (z7 : PySem.W.nsIn K mainGlobals "reversed" = some none) (z8 : PySem.W.nsIn K mainGlobals "str" = some none) (y0 : PySem.W.nsIn K mainGlobals "FIGURES" = some (some (.str "0123456789" tk0))) (y1 : PySem.W.nsIn K mainGlobals "HOUR" = some (some (.int 3600 tk1))) (y2 : PySem.W.nsIn K mainGlobals "MINUTE" = some (some (.int 60 tk2))) (y3 : PySem.W.nsIn K mainGlobals "MOST_HOUR_FIGURES" = some (some (.int 6 tk3))) :
    ∃ t : Ad, Tx K mg t ∧ t.a_law = f16 ∧ t.g_law = PySem.W.fnOf "law" "law" (defArgs s_law) (defBody s_law) (defScope s_law) .none kV16 dc16 pm16 an16 cd16 ct16 := by
  have F0 := fun_mk (st := s_law_cell) l0 c0 k0
  have F1 := fun_mk (st := s_law_drawn) l1 c1 k1
  have F2 := fun_mk (st := s_figures_of) l2 c2 k2
  have F3 := fun_mk (st := s_two_figures) l3 c3 k3
  have F4 := fun_mk (st := s_time_text) l4 c4 k4
  have F5 := fun_mk (st := s_lap_start) l5 c5 k5
  have F6 := fun_mk (st := s_laps_text) l6 c6 k6
  have F7 := fun_mk (st := s_are_figures) l7 c7 k7
  have F8 := fun_mk (st := s_are_time_parts) l8 c8 k8
  have F9 := fun_mk (st := s_read_time) l9 c9 k9
  have F10 := fun_mk (st := s_lines_of) l10 c10 k10
  have F11 := fun_mk (st := s_read_lap) l11 c11 k11
  have F12 := fun_mk (st := s_read_laps) l12 c12 k12
  have F13 := fun_mk (st := s_law_told) l13 c13 k13
  have F14 := fun_mk (st := s_law_due) l14 c14 k14
  have F15 := fun_mk (st := s_law_laps) l15 c15 k15
  have F16 := fun_mk (st := s_law) l16 c16 k16
  exact ⟨⟨f0, _, f1, _, f2, _, f3, _, f4, _, f5, _, f6, _, f7, _, f8, _, f9, _, f10, _, f11, _, f12, _, f13, _, f14, _, f15, _, f16, _, tk0, tk1, tk2, tk3, CNoText, CNoClock, CEarly, CRingError⟩, ⟨F0, F0.binds (ps := ["_law_script", "_law_k"]) (fun _ _ _ _ _ _ => us2 (fun _ _ => rfl)), PySem.W.mg_of X G a0, F1, F1.binds (ps := ["_law_script", "_law_k", "_law_many"]) (fun _ _ _ _ _ _ => us3 (fun _ _ _ => rfl)), PySem.W.mg_of X G a1, F2, F2.binds (ps := ["number"]) (fun _ _ _ _ _ _ => us1 (fun _ => rfl)), PySem.W.mg_of X G a2, F3, F3.binds (ps := ["number"]) (fun _ _ _ _ _ _ => us1 (fun _ => rfl)), PySem.W.mg_of X G a3, F4, F4.binds (ps := ["seconds"]) (fun _ _ _ _ _ _ => us1 (fun _ => rfl)), PySem.W.mg_of X G a4, F5, F5.binds (ps := ["place"]) (fun _ _ _ _ _ _ => us1 (fun _ => rfl)), PySem.W.mg_of X G a5, F6, F6.binds (ps := ["sizes"]) (fun _ _ _ _ _ _ => us1 (fun _ => rfl)), PySem.W.mg_of X G a6, F7, F7.binds (ps := ["text"]) (fun _ _ _ _ _ _ => us1 (fun _ => rfl)), PySem.W.mg_of X G a7, F8, F8.binds (ps := ["parts"]) (fun _ _ _ _ _ _ => us1 (fun _ => rfl)), PySem.W.mg_of X G a8, F9, F9.binds (ps := ["text"]) (fun _ _ _ _ _ _ => us1 (fun _ => rfl)), PySem.W.mg_of X G a9, F10, F10.binds (ps := ["text"]) (fun _ _ _ _ _ _ => us1 (fun _ => rfl)), PySem.W.mg_of X G a10, F11, F11.binds (ps := ["line", "place"]) (fun _ _ _ _ _ _ => us2 (fun _ _ => rfl)), PySem.W.mg_of X G a11, F12, F12.binds (ps := ["text"]) (fun _ _ _ _ _ _ => us1 (fun _ => rfl)), PySem.W.mg_of X G a12, F13, F13.binds (ps := ["_law_way", "_law_text"]) (fun _ _ _ _ _ _ => us2 (fun _ _ => rfl)), PySem.W.mg_of X G a13, F14, F14.binds (ps := ["_law_text"]) (fun _ _ _ _ _ _ => us1 (fun _ => rfl)), PySem.W.mg_of X G a14, F15, F15.binds (ps := ["_law_text"]) (fun _ _ _ _ _ _ => us1 (fun _ => rfl)), PySem.W.mg_of X G a15, F16, F16.binds (ps := ["_law_script"]) (fun _ _ _ _ _ _ => us1 (fun _ => rfl)), PySem.W.mg_of X G a16, PySem.W.mg_none_of X G z0, PySem.W.mg_none_of X G z1, PySem.W.mg_none_of X G z2, PySem.W.mg_none_of X G z3, PySem.W.mg_none_of X G z4, PySem.W.mg_none_of X G z5, PySem.W.mg_none_of X G z6, PySem.W.mg_none_of X G z7, PySem.W.mg_none_of X G z8, PySem.W.mg_of X G y0, PySem.W.mg_of X G y1, PySem.W.mg_of X G y2, PySem.W.mg_of X G y3, PySem.W.mg_of X G aeNoText, PySem.W.mg_of X G aeNoClock, PySem.W.mg_of X G aeEarly, PySem.W.mg_of X G aeRingError, ⟨⟨_, _, xq, by decide, by decide⟩, xga, xgn, xcl⟩, xkv, xkNoText, xkNoClock, xkEarly, xq, xr, aeNoText, aeRingError, xmr, xnr⟩, rfl, rfl⟩
set_option maxHeartbeats 4000000 in
theorem law_mk {l : PySem.W.OpenLaw} {w : World} {K : PySem.W.Frag} {h : Heap} {mg : Str → Option Value} {fa : Addr} (X : K.In h) (G : h.Ns mainGlobals mg) (hfa : mg "law" = some (.ref fa)) {f0 : Addr} {od0 an0 : Option Addr} {sl0 : Array (Option Value)} {oc0 kV0 dc0 pm0 cd0 ct0 : Value} {f1 : Addr} {od1 an1 : Option Addr} {sl1 : Array (Option Value)} {oc1 kV1 dc1 pm1 cd1 ct1 : Value} {f2 : Addr} {od2 an2 : Option Addr} {sl2 : Array (Option Value)} {oc2 kV2 dc2 pm2 cd2 ct2 : Value} {f3 : Addr} {od3 an3 : Option Addr} {sl3 : Array (Option Value)} {oc3 kV3 dc3 pm3 cd3 ct3 : Value} {f4 : Addr} {od4 an4 : Option Addr} {sl4 : Array (Option Value)} {oc4 kV4 dc4 pm4 cd4 ct4 : Value} {f5 : Addr} {od5 an5 : Option Addr} {sl5 : Array (Option Value)} {oc5 kV5 dc5 pm5 cd5 ct5 : Value} {f6 : Addr} {od6 an6 : Option Addr} {sl6 : Array (Option Value)} {oc6 kV6 dc6 pm6 cd6 ct6 : Value} {f7 : Addr} {od7 an7 : Option Addr} {sl7 : Array (Option Value)} {oc7 kV7 dc7 pm7 cd7 ct7 : Value} {f8 : Addr} {od8 an8 : Option Addr} {sl8 : Array (Option Value)} {oc8 kV8 dc8 pm8 cd8 ct8 : Value} {f9 : Addr} {od9 an9 : Option Addr} {sl9 : Array (Option Value)} {oc9 kV9 dc9 pm9 cd9 ct9 : Value} {f10 : Addr} {od10 an10 : Option Addr} {sl10 : Array (Option Value)} {oc10 kV10 dc10 pm10 cd10 ct10 : Value} {f11 : Addr} {od11 an11 : Option Addr} {sl11 : Array (Option Value)} {oc11 kV11 dc11 pm11 cd11 ct11 : Value} {f12 : Addr} {od12 an12 : Option Addr} {sl12 : Array (Option Value)} {oc12 kV12 dc12 pm12 cd12 ct12 : Value} {f13 : Addr} {od13 an13 : Option Addr} {sl13 : Array (Option Value)} {oc13 kV13 dc13 pm13 cd13 ct13 : Value} {f14 : Addr} {od14 an14 : Option Addr} {sl14 : Array (Option Value)} {oc14 kV14 dc14 pm14 cd14 ct14 : Value} {f15 : Addr} {od15 an15 : Option Addr} {sl15 : Array (Option Value)} {oc15 kV15 dc15 pm15 cd15 ct15 : Value} {f16 : Addr} {od16 an16 : Option Addr} {sl16 : Array (Option Value)} {oc16 kV16 dc16 pm16 cd16 ct16 : Value} {CNoText : Addr} {CNoClock : Addr} {CEarly : Addr} {CRingError : Addr} {tk0 : Tok} {tk1 : Tok} {tk2 : Tok} {tk3 : Tok}
    (a0 : PySem.W.nsIn K mainGlobals "_law_cell" = some (some (.ref f0))) (l0 : K.lookup f0 = some ⟨oc0, od0, .func (PySem.W.fnOf "_law_cell" "_law_cell" (defArgs s_law_cell) (defBody s_law_cell) (defScope s_law_cell) .none kV0 dc0 pm0 an0 cd0 ct0), sl0⟩) (c0 : PySem.W.codeIn K cd0 "_law_cell" = true) (k0 : PySem.W.keepIn K (.ref f0) = true) (a1 : PySem.W.nsIn K mainGlobals "_law_drawn" = some (some (.ref f1))) (l1 : K.lookup f1 = some ⟨oc1, od1, .func (PySem.W.fnOf "_law_drawn" "_law_drawn" (defArgs s_law_drawn) (defBody s_law_drawn) (defScope s_law_drawn) .none kV1 dc1 pm1 an1 cd1 ct1), sl1⟩) (c1 : PySem.W.codeIn K cd1 "_law_drawn" = true) (k1 : PySem.W.keepIn K (.ref f1) = true) (a2 : PySem.W.nsIn K mainGlobals "figures_of" = some (some (.ref f2))) (l2 : K.lookup f2 = some ⟨oc2, od2, .func (PySem.W.fnOf "figures_of" "figures_of" (defArgs s_figures_of) (defBody s_figures_of) (defScope s_figures_of) .none kV2 dc2 pm2 an2 cd2 ct2), sl2⟩) (c2 : PySem.W.codeIn K cd2 "figures_of" = true) (k2 : PySem.W.keepIn K (.ref f2) = true) (a3 : PySem.W.nsIn K mainGlobals "two_figures" = some (some (.ref f3))) (l3 : K.lookup f3 = some ⟨oc3, od3, .func (PySem.W.fnOf "two_figures" "two_figures" (defArgs s_two_figures) (defBody s_two_figures) (defScope s_two_figures) .none kV3 dc3 pm3 an3 cd3 ct3), sl3⟩) (c3 : PySem.W.codeIn K cd3 "two_figures" = true) (k3 : PySem.W.keepIn K (.ref f3) = true) (a4 : PySem.W.nsIn K mainGlobals "time_text" = some (some (.ref f4))) (l4 : K.lookup f4 = some ⟨oc4, od4, .func (PySem.W.fnOf "time_text" "time_text" (defArgs s_time_text) (defBody s_time_text) (defScope s_time_text) .none kV4 dc4 pm4 an4 cd4 ct4), sl4⟩) (c4 : PySem.W.codeIn K cd4 "time_text" = true) (k4 : PySem.W.keepIn K (.ref f4) = true) (a5 : PySem.W.nsIn K mainGlobals "lap_start" = some (some (.ref f5))) (l5 : K.lookup f5 = some ⟨oc5, od5, .func (PySem.W.fnOf "lap_start" "lap_start" (defArgs s_lap_start) (defBody s_lap_start) (defScope s_lap_start) .none kV5 dc5 pm5 an5 cd5 ct5), sl5⟩) (c5 : PySem.W.codeIn K cd5 "lap_start" = true) (k5 : PySem.W.keepIn K (.ref f5) = true) (a6 : PySem.W.nsIn K mainGlobals "laps_text" = some (some (.ref f6))) (l6 : K.lookup f6 = some ⟨oc6, od6, .func (PySem.W.fnOf "laps_text" "laps_text" (defArgs s_laps_text) (defBody s_laps_text) (defScope s_laps_text) .none kV6 dc6 pm6 an6 cd6 ct6), sl6⟩) (c6 : PySem.W.codeIn K cd6 "laps_text" = true) (k6 : PySem.W.keepIn K (.ref f6) = true) (a7 : PySem.W.nsIn K mainGlobals "are_figures" = some (some (.ref f7))) (l7 : K.lookup f7 = some ⟨oc7, od7, .func (PySem.W.fnOf "are_figures" "are_figures" (defArgs s_are_figures) (defBody s_are_figures) (defScope s_are_figures) .none kV7 dc7 pm7 an7 cd7 ct7), sl7⟩) (c7 : PySem.W.codeIn K cd7 "are_figures" = true) (k7 : PySem.W.keepIn K (.ref f7) = true) (a8 : PySem.W.nsIn K mainGlobals "are_time_parts" = some (some (.ref f8))) (l8 : K.lookup f8 = some ⟨oc8, od8, .func (PySem.W.fnOf "are_time_parts" "are_time_parts" (defArgs s_are_time_parts) (defBody s_are_time_parts) (defScope s_are_time_parts) .none kV8 dc8 pm8 an8 cd8 ct8), sl8⟩) (c8 : PySem.W.codeIn K cd8 "are_time_parts" = true) (k8 : PySem.W.keepIn K (.ref f8) = true) (a9 : PySem.W.nsIn K mainGlobals "read_time" = some (some (.ref f9))) (l9 : K.lookup f9 = some ⟨oc9, od9, .func (PySem.W.fnOf "read_time" "read_time" (defArgs s_read_time) (defBody s_read_time) (defScope s_read_time) .none kV9 dc9 pm9 an9 cd9 ct9), sl9⟩) (c9 : PySem.W.codeIn K cd9 "read_time" = true) (k9 : PySem.W.keepIn K (.ref f9) = true) (a10 : PySem.W.nsIn K mainGlobals "lines_of" = some (some (.ref f10))) (l10 : K.lookup f10 = some ⟨oc10, od10, .func (PySem.W.fnOf "lines_of" "lines_of" (defArgs s_lines_of) (defBody s_lines_of) (defScope s_lines_of) .none kV10 dc10 pm10 an10 cd10 ct10), sl10⟩) (c10 : PySem.W.codeIn K cd10 "lines_of" = true) (k10 : PySem.W.keepIn K (.ref f10) = true) (a11 : PySem.W.nsIn K mainGlobals "read_lap" = some (some (.ref f11))) (l11 : K.lookup f11 = some ⟨oc11, od11, .func (PySem.W.fnOf "read_lap" "read_lap" (defArgs s_read_lap) (defBody s_read_lap) (defScope s_read_lap) .none kV11 dc11 pm11 an11 cd11 ct11), sl11⟩) (c11 : PySem.W.codeIn K cd11 "read_lap" = true) (k11 : PySem.W.keepIn K (.ref f11) = true) (a12 : PySem.W.nsIn K mainGlobals "read_laps" = some (some (.ref f12))) (l12 : K.lookup f12 = some ⟨oc12, od12, .func (PySem.W.fnOf "read_laps" "read_laps" (defArgs s_read_laps) (defBody s_read_laps) (defScope s_read_laps) .none kV12 dc12 pm12 an12 cd12 ct12), sl12⟩) (c12 : PySem.W.codeIn K cd12 "read_laps" = true) (k12 : PySem.W.keepIn K (.ref f12) = true) (a13 : PySem.W.nsIn K mainGlobals "_law_told" = some (some (.ref f13))) (l13 : K.lookup f13 = some ⟨oc13, od13, .func (PySem.W.fnOf "_law_told" "_law_told" (defArgs s_law_told) (defBody s_law_told) (defScope s_law_told) .none kV13 dc13 pm13 an13 cd13 ct13), sl13⟩) (c13 : PySem.W.codeIn K cd13 "_law_told" = true) (k13 : PySem.W.keepIn K (.ref f13) = true) (a14 : PySem.W.nsIn K mainGlobals "_law_due" = some (some (.ref f14))) (l14 : K.lookup f14 = some ⟨oc14, od14, .func (PySem.W.fnOf "_law_due" "_law_due" (defArgs s_law_due) (defBody s_law_due) (defScope s_law_due) .none kV14 dc14 pm14 an14 cd14 ct14), sl14⟩) (c14 : PySem.W.codeIn K cd14 "_law_due" = true) (k14 : PySem.W.keepIn K (.ref f14) = true) (a15 : PySem.W.nsIn K mainGlobals "_law_laps" = some (some (.ref f15))) (l15 : K.lookup f15 = some ⟨oc15, od15, .func (PySem.W.fnOf "_law_laps" "_law_laps" (defArgs s_law_laps) (defBody s_law_laps) (defScope s_law_laps) .none kV15 dc15 pm15 an15 cd15 ct15), sl15⟩) (c15 : PySem.W.codeIn K cd15 "_law_laps" = true) (k15 : PySem.W.keepIn K (.ref f15) = true) (a16 : PySem.W.nsIn K mainGlobals "law" = some (some (.ref f16))) (l16 : K.lookup f16 = some ⟨oc16, od16, .func (PySem.W.fnOf "law" "law" (defArgs s_law) (defBody s_law) (defScope s_law) .none kV16 dc16 pm16 an16 cd16 ct16), sl16⟩) (c16 : PySem.W.codeIn K cd16 "law" = true) (k16 : PySem.W.keepIn K (.ref f16) = true) (aeNoText : PySem.W.nsIn K mainGlobals "NoText" = some (some (.ref CNoText))) (aeNoClock : PySem.W.nsIn K mainGlobals "NoClock" = some (some (.ref CNoClock))) (aeEarly : PySem.W.nsIn K mainGlobals "Early" = some (some (.ref CEarly))) (aeRingError : PySem.W.nsIn K mainGlobals "RingError" = some (some (.ref CRingError))) (xq : PySem.W.excIn K CNoText [.type "ValueError", .type "Exception", .type "BaseException", .type "object"] "ValueError.__new__" = true) (xr : PySem.W.excIn K CRingError [.type "ValueError", .type "Exception", .type "BaseException", .type "object"] "ValueError.__new__" = true) (xga : PySem.W.findIn K (.ref CNoText) "__getattribute__" = some (some (.builtin "BaseException.__getattribute__"))) (xgn : PySem.W.findIn K (.ref CNoText) "__getattr__" = some none) (xcl : PySem.W.findIn K (.ref CNoText) "__class__" = some (some (.builtin "object.__class__"))) (xkv : PySem.W.kitOne K (.ref CNoText) (.type "ValueError") = some true) (xkNoText : PySem.W.kitOne K (.ref CNoText) (.ref CNoText) = some true) (xkNoClock : PySem.W.kitOne K (.ref CNoText) (.ref CNoClock) = some false) (xkEarly : PySem.W.kitOne K (.ref CNoText) (.ref CEarly) = some false) (xmr : PySem.W.mroIn K CNoText (.ref CRingError) = some true) (xnr : CNoText ≠ CRingError) (z0 : PySem.W.nsIn K mainGlobals "ValueError" = some none) (z1 : PySem.W.nsIn K mainGlobals "all" = some none) (z2 : PySem.W.nsIn K mainGlobals "enumerate" = some none) (z3 : PySem.W.nsIn K mainGlobals "int" = some none) (z4 : PySem.W.nsIn K mainGlobals "isinstance" = some none) (z5 : PySem.W.nsIn K mainGlobals "len" = some none) (z6 : PySem.W.nsIn K mainGlobals "range" = some none) (z7 : PySem.W.nsIn K mainGlobals "reversed" = some none) (z8 : PySem.W.nsIn K mainGlobals "str" = some none) (y0 : PySem.W.nsIn K mainGlobals "FIGURES" = some (some (.str "0123456789" tk0))) (y1 : PySem.W.nsIn K mainGlobals "HOUR" = some (some (.int 3600 tk1))) (y2 : PySem.W.nsIn K mainGlobals "MINUTE" = some (some (.int 60 tk2))) (y3 : PySem.W.nsIn K mainGlobals "MOST_HOUR_FIGURES" = some (some (.int 6 tk3))) :
    ∃ fd : FuncData, (∀ (s : Shared) (v : Value), BindsTo s fd ⟨[v], []⟩ [("_law_script", v)]) ∧ ∀ base : Heap, K.In base → base.Ns mainGlobals mg → FnOk l.prog w K mg base CX0 7 fa fd ["_law_script"] (spOf K S_law) := by
  obtain ⟨t, T, e1, e2⟩ := tx_mk X G a0 l0 c0 k0 a1 l1 c1 k1 a2 l2 c2 k2 a3 l3 c3 k3 a4 l4 c4 k4 a5 l5 c5 k5 a6 l6 c6 k6 a7 l7 c7 k7 a8 l8 c8 k8 a9 l9 c9 k9 a10 l10 c10 k10 a11 l11 c11 k11 a12 l12 c12 k12 a13 l13 c13 k13 a14 l14 c14 k14 a15 l15 c15 k15 a16 l16 c16 k16 aeNoText aeNoClock aeEarly aeRingError xq xr xga xgn xcl xkv xkNoText xkNoClock xkEarly xmr xnr z0 z1 z2 z3 z4 z5 z6 z7 z8 y0 y1 y2 y3
  have e := hfa.symm.trans T.m_law
  cases e
  refine ⟨t.g_law, fun s v => ?_, fun base KB NB => ok_all T KB NB⟩
  rw [e2]
  exact .of_eq rfl
theorem walk {l : PySem.W.OpenLaw} {q : Program} {loose : List Str} {XP : (Str → Option Value) → Heap → Prop} {YP : World → Heap → Prop} {d : DefRec} {K : Params → PySem.W.Frag} (hn : l.most = some 63) (hdf : d.params.defaults = [])
    (hY : ∀ (w : World) (h : Heap), YP w h → (K w.params).In h)
    (F : ∀ (w : World) (mg : Str → Option Value) (fa : Addr) (h : Heap), (K w.params).In h → h.Ns mainGlobals mg → mg d.name = some (.ref fa) →
      ∃ fd : FuncData, (∀ (s : Shared) (u : Value), BindsTo s fd ⟨[u], []⟩ [("_law_script", u)]) ∧ ∀ base : Heap, (K w.params).In base → base.Ns mainGlobals mg → FnOk l.prog w (K w.params) mg base CX0 7 fa fd ["_law_script"] (spOf (K w.params) S_law)) :
    PySem.W.WalkO q loose XP YP l.row.toRowW d [] (fun f vs => PySem.call f vs) :=
  L2.walk_of (n := 63) (k := 7) (x := "_law_script") (CX := fun _ => CX0) (sp := fun w => spOf (K w.params) S_law) hn (by decide) hdf ⟨rfl, by decide, by decide⟩ hY F
    (fun w H a ns hl _ hS => ⟨H, [.lst (ns.map D.int)], fun d => d = .bl true, Same.refl _, .cons (.lst hS (DenL.ints ns)) .nil, ⟨ns, rfl, hl, rfl⟩, fun v G' H' d _ dv e => by subst e; exact dv.bl_inv⟩) fun _ _ _ _ _ z => z
end Law
open PySem PySem.W PyProof.Rows
set_option maxRecDepth 100000 in
set_option maxHeartbeats 0 in
theorem PySem.Challenge.cw_latebells_k81_whole_read_holds : PySem.Challenge.rw_latebells_k81_whole_read.Holds := by
  w_on; o_law; k_head; (case hw => w_witness2)
  k_fill
  refine Law.walk (l := PySem.Challenge.rw_latebells_k81_whole_read) rfl rfl (fun w h Y => PySem.W.kIn_of Y) ?F
  case F =>
    intro w mg fa h KX G hmg
    refine' Law.law_mk KX G hmg ?a0 ?l0 ?c0 ?k0 ?a1 ?l1 ?c1 ?k1 ?a2 ?l2 ?c2 ?k2 ?a3 ?l3 ?c3 ?k3 ?a4 ?l4 ?c4 ?k4 ?a5 ?l5 ?c5 ?k5 ?a6 ?l6 ?c6 ?k6 ?a7 ?l7 ?c7 ?k7 ?a8 ?l8 ?c8 ?k8 ?a9 ?l9 ?c9 ?k9 ?a10 ?l10 ?c10 ?k10 ?a11 ?l11 ?c11 ?k11 ?a12 ?l12 ?c12 ?k12 ?a13 ?l13 ?c13 ?k13 ?a14 ?l14 ?c14 ?k14 ?a15 ?l15 ?c15 ?k15 ?a16 ?l16 ?c16 ?k16 ?aeNoText ?aeNoClock ?aeEarly ?aeRingError ?xq ?xr ?xga ?xgn ?xcl ?xkv ?xkNoText ?xkNoClock ?xkEarly ?xmr ?xnr ?z0 ?z1 ?z2 ?z3 ?z4 ?z5 ?z6 ?z7 ?z8 ?y0 ?y1 ?y2 ?y3
    (case a0 => k_is); (case l0 => k_is); (case c0 => k_is); (case k0 => k_is)
    (case a1 => k_is); (case l1 => k_is); (case c1 => k_is); (case k1 => k_is)
    (case a2 => k_is); (case l2 => k_is); (case c2 => k_is); (case k2 => k_is)
    (case a3 => k_is); (case l3 => k_is); (case c3 => k_is); (case k3 => k_is)
    (case a4 => k_is); (case l4 => k_is); (case c4 => k_is); (case k4 => k_is)
    (case a5 => k_is); (case l5 => k_is); (case c5 => k_is); (case k5 => k_is)
    (case a6 => k_is); (case l6 => k_is); (case c6 => k_is); (case k6 => k_is)
    (case a7 => k_is); (case l7 => k_is); (case c7 => k_is); (case k7 => k_is)
    (case a8 => k_is); (case l8 => k_is); (case c8 => k_is); (case k8 => k_is)
    (case a9 => k_is); (case l9 => k_is); (case c9 => k_is); (case k9 => k_is)
    (case a10 => k_is); (case l10 => k_is); (case c10 => k_is); (case k10 => k_is)
    (case a11 => k_is); (case l11 => k_is); (case c11 => k_is); (case k11 => k_is)
    (case a12 => k_is); (case l12 => k_is); (case c12 => k_is); (case k12 => k_is)
    (case a13 => k_is); (case l13 => k_is); (case c13 => k_is); (case k13 => k_is)
    (case a14 => k_is); (case l14 => k_is); (case c14 => k_is); (case k14 => k_is)
    (case a15 => k_is); (case l15 => k_is); (case c15 => k_is); (case k15 => k_is)
    (case a16 => k_is); (case l16 => k_is); (case c16 => k_is); (case k16 => k_is)
    (case aeNoText => k_is); (case aeNoClock => k_is); (case aeEarly => k_is); (case aeRingError => k_is)
    (case xq => k_exc); (case xr => k_exc); (case xga => k_is); (case xgn => k_is)
    (case xcl => k_is); (case xkv => kit_is); (case xkNoText => kit_is); (case xkNoClock => kit_is)
    (case xkEarly => kit_is); (case xmr => k_is); (case xnr => exact (by decide)); (case z0 => k_is)
    (case z1 => k_is); (case z2 => k_is); (case z3 => k_is); (case z4 => k_is)
    (case z5 => k_is); (case z6 => k_is); (case z7 => k_is); (case z8 => k_is)
    (case y0 => k_is); (case y1 => k_is); (case y2 => k_is); (case y3 => k_is)
