import PyProof.Rows.All
import Wide.All
import OpenK.AllK
import Wide.FinOn
import Lean
import PyProof.EqAt
import PyProof.EqKinds
import PyProof.TupleCall
import PyProof.NeData
import PyProof.P3In
import PySem.Challenge.RW_latebells_k52_whole_set_anew
set_option compiler.extract_closed false
set_option Elab.async false
set_option linter.all false
set_option maxRecDepth 100000
set_option maxHeartbeats 4000000
theorem PySem.W.Fast.te8332293380840360376:True:=trivial
namespace ZA
theorem a1 (h:True:=by first | exact .inl rfl | exact .inr rfl | assumption):True:=trivial
theorem a2 (h:True:=by decide):True:=trivial
theorem a3 (h:True:=by rfl):True:=trivial
theorem a4 (h:True:=by intro _; rfl):True:=trivial
theorem a5 (h:True:=by first | exact Or.inl rfl | exact Or.inr (Or.inl rfl) | exact Or.inr (Or.inr rfl)):True:=trivial
theorem a6 (h:True:=by first | exact Or.inl rfl | exact Or.inr rfl):True:=trivial
end ZA
namespace L2
open PySem PySem.Spec PyProof.Rows
noncomputable abbrev Key:=Sum Int Str
noncomputable def keyIs:Key→Value→Bool
  | .inl k,v=>Value.isInt k v
  | .inr x,v=>Value.isStrOf x v
noncomputable def keyH (w:World):Key→Int
  | .inl k=>hashInt k
  | .inr x=>hashStr w x
theorem keyIs_shape:∀ {k:Key} {v:Value},keyIs k v = true→(∃ i t,k = Sum.inl i∧v = Value.int i t)∨(∃ x t,k = Sum.inr x∧v = Value.str x t)
  | .inl i,v,h=>by
    obtain ⟨t,e⟩:=Value.isInt_shape (k:=i) (v:=v) h
    exact .inl ⟨i,t,rfl,e⟩
  | .inr x,v,h=>by
    obtain ⟨t,e⟩:=Value.isStrOf_shape (x:=x) (v:=v) h
    exact .inr ⟨x,t,rfl,e⟩
theorem keyIs_int (i:Int) (t:Tok):keyIs (.inl i) (.int i t) = true:=by simp [keyIs,Value.isInt]
theorem keyIs_str (x:Str) (t:Tok):keyIs (.inr x) (.str x t) = true:=by simp [keyIs,Value.isStrOf]
theorem key_ll (a b:Int):decide ((Sum.inl a:Key) = Sum.inl b) = (a == b):=by
  by_cases e:a = b
  · subst e; simp
  · have h:¬ (Sum.inl a:Key) = Sum.inl b:=fun q=>e (Sum.inl.inj q)
    rw [decide_eq_false h]
    exact (beq_eq_false_iff_ne.mpr e).symm
theorem key_rr (a b:Str):decide ((Sum.inr a:Key) = Sum.inr b) = decide (a = b):=by
  by_cases e:a = b
  · subst e; simp
  · have h:¬ (Sum.inr a:Key) = Sum.inr b:=fun q=>e (Sum.inr.inj q)
    rw [decide_eq_false h,decide_eq_false e]
theorem key_lr (a:Int) (b:Str):decide ((Sum.inl a:Key) = Sum.inr b) = false:=decide_eq_false (fun q=>nomatch q)
theorem key_rl (a:Str) (b:Int):decide ((Sum.inr a:Key) = Sum.inl b) = false:=decide_eq_false (fun q=>nomatch q)
noncomputable def mixKind (prog:Program) (w:World):PySem.KeyKind prog w Key where
  is:=keyIs
  hash:=keyH w
  inj:=fun v a b ha hb=>by
    rcases keyIs_shape ha with ⟨i,t,rfl,rfl⟩ | ⟨x,t,rfl,rfl⟩
    · rcases keyIs_shape hb with ⟨j,u,rfl,e⟩ | ⟨y,u,rfl,e⟩
      · injection e with e1 _; rw [e1]
      · exact nomatch e
    · rcases keyIs_shape hb with ⟨j,u,rfl,e⟩ | ⟨y,u,rfl,e⟩
      · exact nomatch e
      · injection e with e1 _; rw [e1]
  byValue:=fun k v h=>by
    rcases keyIs_shape h with ⟨i,t,rfl,rfl⟩ | ⟨x,t,rfl,rfl⟩ <;> rfl
  pyHash:=fun hv h=>by
    rcases keyIs_shape hv with ⟨i,t,rfl,rfl⟩ | ⟨x,t,rfl,rfl⟩
    · exact wpAny_pyHash_int h
    · exact wpAny_pyHash_str h
  eqBool:=fun hu hv h=>by
    rcases keyIs_shape hu with ⟨i,t,rfl,rfl⟩ | ⟨x,t,rfl,rfl⟩
    · rcases keyIs_shape hv with ⟨j,u,rfl,rfl⟩ | ⟨y,u,rfl,rfl⟩
      · rw [key_ll] at h; exact wpAny_eqBool_int h
      · rw [key_lr] at h; exact SeqAt.EqAt.int_str i t y u _ _ _ _ h
    · rcases keyIs_shape hv with ⟨j,u,rfl,rfl⟩ | ⟨y,u,rfl,rfl⟩
      · rw [key_rl] at h; exact SeqAt.EqAt.str_int x t j u _ _ _ _ h
      · rw [key_rr] at h; exact wpAny_eqBool_str h
  «strs»:=fun k x t v h=>by
    rcases keyIs_shape h with ⟨i,u,rfl,e⟩ | ⟨y,u,rfl,e⟩
    · exact nomatch e
    · injection e with e1 _
      subst e1
      cases v <;> rfl
theorem mixKind_int (prog:Program) (w:World) (i:Int) (t:Tok):(mixKind prog w).is (.inl i) (.int i t) = true:=keyIs_int i t
theorem mixKind_str (prog:Program) (w:World) (x:Str) (t:Tok):(mixKind prog w).is (.inr x) (.str x t) = true:=keyIs_str x t
end L2
namespace L2
open PySem PySem.Spec PyProof.Rows
inductive V where
  | non | bl (b:Bool) | int (i:Int) | str (x:Str) | byt (b:Array UInt8) | flt (b:UInt64) | ref (a:Addr) | ty (n:String)
  deriving DecidableEq
noncomputable def RelV:V→Value→Prop
  | .non,u=>u = Value.none
  | .bl b,u=>u = Value.bool b
  | .int i,u=>∃ t,u = Value.int i t
  | .str x,u=>∃ t,u = Value.str x t
  | .byt b,u=>∃ t,u = Value.bytes b t
  | .flt b,u=>∃ t,u = Value.float b t
  | .ref a,u=>u = Value.ref a
  | .ty n,u=>u = Value.type n
noncomputable abbrev Vals:List V→List Value→Prop:=Paired RelV
theorem Vals.length {xs:List V} {us:List Value} (r:Vals xs us):xs.length = us.length:=Paired.length r
theorem Vals.get:∀ {xs:List V} {us:List Value} {i:Nat} {x:V},Vals xs us→xs[i]? = some x→∃ u,us[i]? = some u∧RelV x u
  | _,_,_,_,.nil,e=>by simp at e
  | _,_,0,_,.cons r _,e=>by simp at e; subst e; exact ⟨_,rfl,r⟩
  | _,_,i + 1,x,.cons _ t,e=>by
    obtain ⟨u,h1,h2⟩:=Vals.get (i:=i) (x:=x) t (by simpa using e)
    exact ⟨u,by simpa using h1,h2⟩
theorem Vals.append:∀ {xs ys:List V} {us ws:List Value},Vals xs us→Vals ys ws→Vals (xs ++ ys) (us ++ ws)
  | _,_,_,_,.nil,s=>s
  | _,_,_,_,.cons r t,s=>.cons r (Vals.append t s)
noncomputable def RelO:Option V→Option Value→Prop
  | some v,some u=>RelV v u
  | none,none=>True
  | _,_=>False
noncomputable def KV {κ:Type}:List (κ × V)→List (κ × Value)→Prop:=Paired fun (p:κ × V) (q:κ × Value)=>p.1 = q.1∧RelV p.2 q.2
noncomputable def kV:Key→V
  | .inl i=>.int i
  | .inr x=>.str x
inductive HO where
  | lst (xs:List V)
  | tup (xs:List V)
  | dK (kvs:List (Key × V)) | dT (kvs:List (List Key × V))
  | set (S:Int→Bool) (n:Nat)
  | ins (C dx:Addr) (fs:List (Str × V))
  | own (x:Addr)
  | xd (fs:List (Str × V))
  | met (f x:Addr)
  | rng (lo hi:Int)
  | frz (o:Obj) (u:HO)
  | tbl (ps:Array Value)
  | ext (φ:Heap→Prop)
noncomputable abbrev Hp:=Addr→Option HO
noncomputable def upd (H:Hp) (a:Addr) (o:HO):Hp:=fun b=>if b = a then some o else H b
theorem upd_same {H:Hp} {a:Addr} {o:HO}:upd H a o a = some o:=by unfold upd; rw [if_pos rfl]
theorem upd_ne {H:Hp} {a b:Addr} {o:HO} (h:b ≠ a):upd H a o b = H b:=by unfold upd; rw [if_neg h]
theorem ne_of {H:Hp} {a b:Addr} {o u:HO} (h:H a = some o) (h':H b = some u) (d:o ≠ u):a ≠ b:=by
  intro e; subst e; rw [h] at h'; exact d (Option.some.inj h')
theorem ne_of_none {H:Hp} {a b:Addr} {o:HO} (h:H a = some o) (h':H b = none):a ≠ b:=by
  intro e; subst e; rw [h] at h'; cases h'
section
variable (P:Program) (w:World)
noncomputable def ObjOk (H:Hp) (h:Heap) (a:Addr):HO→Prop
  | .lst xs=>xs.length ≤ sizeLine∧∃ (its:List Value) (n:Nat),Vals xs its∧h.get? a = some { cls:=.type "list",data:=.seq its.toArray n }
  | .tup xs=>xs.length ≤ sizeLine∧∃ its:List Value,Vals xs its∧IsTup h a its.toArray
  | .dK kvs=>kvs.length ≤ sizeLine∧(a == sysModules) = false∧∃ vs,KV kvs vs∧h.DictOf (mixKind P w) a vs
  | .dT kvs=>kvs.length ≤ sizeLine∧(a == sysModules) = false∧∃ xs:List (List Key × Addr × Value),
      Paired (fun (p:List Key × V) (q:List Key × Addr × Value)=>p.1 = q.1∧H q.2.1 = some (.tup (p.1.map kV))∧RelV p.2 q.2.2) kvs xs ∧
      ∃ o es ep,h.get? a = some o∧o.ExactDict∧o.data = .dict es ep∧es.toList = xs.map (entryOfKey (tupleKind (mixKind P w)))∧(xs.map (·.1)).Nodup
  | .set S n=>h.SetOf (intKind P w) a S n
  | .ins C dx fs=>H dx = some (.own a)∧fs.length ≤ 1000∧dx ≠ a∧h.get? a = some (PySem.W.instObj C dx) ∧
      ∃ mA,h.Ns1 dx mA∧(∀ f,RelO (fs.lookup f) (mA f))∧PySem.Within mA (fs.map (·.1))
  | .own _=>∃ o,h.get? a = some o
  | .xd fs=>∃ mA,h.Ns1 a mA∧∀ f,RelO (fs.lookup f) (mA f)
  | .rng lo hi=>∃ t u v,h.get? a = some { cls:=.type "range",data:=.fields #[.int lo t,.int hi u,.int 1 v] }
  | .frz o u=>h.get? a = some o∧ObjOk H h a u
  | .tbl ps=>h.get? a = some { cls:=.none,data:=.fields ps }
  | .met f x=>h.get? a = some (PySem.W.methodObj (.ref f) (.ref x))
  | .ext φ=>φ h∧(∃ o,h.get? a = some o)∧∀ h1 h2:Heap,φ h1→(∀ o,h1.get? a = some o→h2.get? a = some o)→φ h2
noncomputable def HOk (H:Hp) (h:Heap):Prop:=∀ a o,H a = some o→ObjOk P w H h a o
end
section
variable {P:Program} {w:World} {H H':Hp} {h h':Heap} {a:Addr} {o:HO}
theorem ObjOk.lt (x:ObjOk P w H h a o):a < h.objs.size:=by
  cases o with
  | lst xs=>obtain ⟨_,_,_,_,e⟩:=x; exact Heap.lt_size e
  | tup xs=>obtain ⟨_,_,_,p⟩:=x; exact p.lt
  | dK kvs=>obtain ⟨_,_,_,_,o,_,_,e,_⟩:=x; exact Heap.lt_size e
  | dT kvs=>obtain ⟨_,_,_,_,o,_,_,e,_⟩:=x; exact Heap.lt_size e
  | set S n=>obtain ⟨o,_,_,_,e,_⟩:=x; exact Heap.lt_size e
  | ins C dx fs=>obtain ⟨_,_,_,e,_⟩:=x; exact Heap.lt_size e
  | own y=>obtain ⟨_,e⟩:=x; exact Heap.lt_size e
  | xd fs=>obtain ⟨_,⟨_,_,_,e,_⟩,_⟩:=x; exact Heap.lt_size e
  | rng lo hi=>obtain ⟨_,_,_,e⟩:=x; exact Heap.lt_size e
  | frz ob u=>obtain ⟨e,_⟩:=x; exact Heap.lt_size e
  | tbl ps=>exact Heap.lt_size (show h.get? a = some _ from x)
  | met f y=>exact Heap.lt_size (show h.get? a = some _ from x)
  | ext φ=>obtain ⟨_,⟨_,e⟩,_⟩:=x; exact Heap.lt_size e
theorem Paired.mapP {α β:Type} {F G:α→β→Prop}:∀ {l₁:List α} {l₂:List β},Paired F l₁ l₂→(∀ a b,F a b→G a b)→Paired G l₁ l₂
  | _,_,.nil,_=>.nil
  | _,_,.cons r t,f=>.cons (f _ _ r) (Paired.mapP t f)
theorem ObjOk.stay (x:ObjOk P w H h a o) (k:∀ b u,(b = a∨H b = some (.own a))→h.get? b = some u→h'.get? b = some u)
    (ho:∀ b,H b = some (.own a)→H' b = some (.own a)) (ht:∀ b xs,H b = some (.tup xs)→H' b = some (.tup xs)):ObjOk P w H' h' a o:=by
  induction o with
  | lst xs=>obtain ⟨z,its,n,r,e⟩:=x; exact ⟨z,its,n,r,k _ _ (.inl rfl) e⟩
  | tup xs=>obtain ⟨z,its,r,ob,e,c⟩:=x; exact ⟨z,its,r,ob,k _ _ (.inl rfl) e,c⟩
  | dK kvs=>obtain ⟨z,y,vs,r,ob,es,ep,e,c⟩:=x; exact ⟨z,y,vs,r,ob,es,ep,k _ _ (.inl rfl) e,c⟩
  | dT kvs =>
    obtain ⟨z,y,xs,r,ob,es,ep,e,c⟩:=x
    exact ⟨z,y,xs,Paired.mapP r fun p q z=>⟨z.1,ht _ _ z.2.1,z.2.2⟩,ob,es,ep,k _ _ (.inl rfl) e,c⟩
  | set S n=>obtain ⟨ob,es,ep,t,e,c⟩:=x; exact ⟨ob,es,ep,t,k _ _ (.inl rfl) e,c⟩
  | ins C dx fs =>
    obtain ⟨d,z,ne,e,mA,⟨od,es,ep,e2,c⟩,r⟩:=x
    exact ⟨ho _ d,z,ne,k _ _ (.inl rfl) e,mA,⟨od,es,ep,k _ _ (.inr d) e2,c⟩,r⟩
  | own y=>obtain ⟨ob,e⟩:=x; exact ⟨ob,k _ _ (.inl rfl) e⟩
  | xd fs=>obtain ⟨mA,⟨od,es,ep,e,c⟩,r⟩:=x; exact ⟨mA,⟨od,es,ep,k _ _ (.inl rfl) e,c⟩,r⟩
  | rng lo hi=>obtain ⟨t,u,v,e⟩:=x; exact ⟨t,u,v,k _ _ (.inl rfl) e⟩
  | frz ob u ih=>obtain ⟨e,q⟩:=x; exact ⟨k _ _ (.inl rfl) e,ih q⟩
  | tbl ps =>
    have e:h.get? a = some { cls:=.none,data:=.fields ps }:=x
    show h'.get? a = some { cls:=.none,data:=.fields ps }
    exact k a _ (.inl rfl) e
  | met f y =>
    have e:h.get? a = some (PySem.W.methodObj (.ref f) (.ref y)):=x
    show h'.get? a = some (PySem.W.methodObj (.ref f) (.ref y))
    exact k a _ (.inl rfl) e
  | ext φ=>obtain ⟨p,⟨o,e⟩,st⟩:=x; exact ⟨st _ _ p fun o q=>k _ _ (.inl rfl) q,⟨o,k _ _ (.inl rfl) e⟩,st⟩
theorem HOk.lt (x:HOk P w H h) (e:H a = some o):a < h.objs.size:=(x a o e).lt
theorem HOk.fresh (x:HOk P w H h) (e:h.objs.size ≤ a):H a = none:=by
  cases q:H a with
  | none=>rfl
  | some u=>exact absurd (Nat.lt_of_lt_of_le (x.lt q) e) (Nat.lt_irrefl _)
theorem HOk.kept (x:HOk P w H h) (k:∀ b u,h.get? b = some u→h'.get? b = some u):HOk P w H h':=fun a o e =>
  (x a o e).stay (fun b u _ q=>k b u q) (fun _ q=>q) fun _ _ q=>q
theorem HOk.laid (x:HOk P w H h) (k:∀ b u,h.get? b = some u→h'.get? b = some u) (hp:h.objs.size ≤ a) (new:ObjOk P w (upd H a o) h' a o):HOk P w (upd H a o) h':=fun b u e=>by
  have hn:=x.fresh hp
  by_cases hb:b = a
  · subst hb; rw [upd_same] at e; cases e; exact new
  · rw [upd_ne hb] at e
    exact (x b u e).stay (fun c v _ q=>k c v q) (fun c q=>by rw [upd_ne (ne_of_none q hn)]; exact q) fun c xs q=>by rw [upd_ne (ne_of_none q hn)]; exact q
end
noncomputable def Rd (H:Hp) (a:Addr) (u:HO):Prop:=H a = some u∨∃ o,H a = some (.frz o u)
theorem Rd.ok {P:Program} {w:World} {H:Hp} {h:Heap} {a:Addr} {u:HO} (r:Rd H a u) (x:HOk P w H h):ObjOk P w H h a u:=by
  rcases r with r | ⟨o,r⟩
  · exact x a u r
  · obtain ⟨_,q⟩:=x a _ r
    exact q
noncomputable def Mut:Option HO→Prop
  | some (.lst _)=>True
  | some (.dK _)=>True
  | some (.dT _)=>True
  | some (.set _ _)=>True
  | some (.ins _ _ _)=>True
  | some (.ext _)=>True
  | _=>False
section
variable {P:Program} {w:World} {H:Hp} {h h':Heap} {x e:Addr} {o':HO}
theorem HOk.write (ok:HOk P w H h) (mu:Mut (H x)) (he:e = x∨H e = some (.own x)) (k:∀ b u,b ≠ e→h.get? b = some u→h'.get? b = some u) (heo:∃ u,h'.get? e = some u)
    (new:ObjOk P w (upd H x o') h' x o'):HOk P w (upd H x o') h':=fun b u q=>by
  have nown:∀ c y,H c = some (.own y)→c ≠ x:=fun c y r z=>by subst z; rw [r] at mu; exact mu
  have ntup:∀ c xs,H c = some (.tup xs)→c ≠ x:=fun c xs r z=>by subst z; rw [r] at mu; exact mu
  by_cases hb:b = x
  · subst hb; rw [upd_same] at q; cases q; exact new
  · rw [upd_ne hb] at q
    by_cases hbe:b = e
    · have q':H b = some (.own x):=by
        rcases he with z | z
        · exact absurd (hbe.trans z) hb
        · rw [hbe]; exact z
      rw [q] at q'; cases q'
      obtain ⟨v,hv⟩:=heo
      exact ⟨v,by rw [hbe]; exact hv⟩
    · refine (ok b u q).stay (fun c v hc r=>k c v ?_ r) (fun c r=>by rw [upd_ne (nown c b r)]; exact r) fun c xs r=>by rw [upd_ne (ntup c xs r)]; exact r
      rcases hc with rfl | hc
      · exact hbe
      · rintro rfl
        rcases he with z | z
        · exact nown c b hc z
        · rw [hc] at z; cases z; exact hb rfl
end
structure Un (fs ex:List Addr) (H H':Hp) (h h':Heap):Prop where
  keep:∀ b o,h.get? b = some o→H b = none→b ∉ fs→b ∉ ex→h'.get? b = some o
  slot:∀ b o,h.get? b = some o→H b = none→b ∈ fs→b ∉ ex→∃ sl,h'.get? b = some { o with slots:=sl }
  free:∀ b o,h.get? b = some o→H b = none→b ∉ ex→H' b = none
  there:∀ b o,h.get? b = some o→b ∉ ex→∃ o',h'.get? b = some o'
  tups:∀ b xs,H b = some (.tup xs)→H' b = some (.tup xs)
  frzs:∀ b o u,H b = some (.frz o u)→H' b = some (.frz o u)
  tbls:∀ b ps,H b = some (.tbl ps)→∃ more,H' b = some (.tbl (ps ++ more))
section
variable {fs fs' ex ex':List Addr} {H H1 H2:Hp} {h h1 h2 h':Heap} {a x e:Addr} {o:HO}
theorem Un.any (u:Un fs ex H H1 h h1) {b:Addr} {ob:Obj} (q:h.get? b = some ob) (n:H b = none) (hx:b ∉ ex):∃ sl,h1.get? b = some { ob with slots:=sl }:=by
  by_cases hb:b ∈ fs
  · exact u.slot b ob q n hb hx
  · exact ⟨ob.slots,u.keep b ob q n hb hx⟩
theorem Un.kept (k:∀ b u,h.get? b = some u→h'.get? b = some u):Un fs ex H H h h' :=
  ⟨fun b ob q _ _ _=>k b ob q,fun b ob q _ _ _=>⟨ob.slots,k b ob q⟩,fun _ _ _ n _=>n,fun b ob q _=>⟨ob,k b ob q⟩,fun _ _ q=>q,fun _ _ _ q=>q,fun _ ps q=>⟨#[],by rw [q]; simp⟩⟩
theorem Un.refl:Un fs ex H H h h:=Un.kept fun _ _ q=>q
theorem Un.laid (k:∀ b u,h.get? b = some u→h'.get? b = some u) (hp:h.objs.size ≤ a) (hn:H a = none):Un fs ex H (upd H a o) h h' where
  keep:=fun b u q _ _ _=>k b u q
  slot:=fun b u q _ _ _=>⟨u.slots,k b u q⟩
  free:=fun b u q n _=>by rw [upd_ne (Nat.ne_of_lt (Nat.lt_of_lt_of_le (Heap.lt_size q) hp))]; exact n
  there:=fun b u q _=>⟨u,k b u q⟩
  tups:=fun b xs q=>by rw [upd_ne (ne_of_none q hn)]; exact q
  frzs:=fun b u xs q=>by rw [upd_ne (ne_of_none q hn)]; exact q
  tbls:=fun b ps q=>⟨#[],by rw [upd_ne (ne_of_none q hn),q]; simp⟩
theorem Un.write (mu:Mut (H x)) (he:e = x∨H e = some (.own x)) (k:∀ b u,b ≠ e→h.get? b = some u→h'.get? b = some u) (heo:∃ u,h'.get? e = some u):Un fs ex H (upd H x o) h h':=by
  have hx:∀ b,H b = none→b ≠ x:=fun b n z=>by subst z; rw [n] at mu; exact mu
  have hb:∀ b,H b = none→b ≠ e:=fun b n z=>by
    subst z
    rcases he with r | r
    · exact hx b n r
    · rw [n] at r; cases r
  have hm:∀ b u,H b = some u→¬ Mut (some u)→b ≠ x:=fun b u q nm z=>by subst z; rw [q] at mu; exact nm mu
  refine ⟨fun b u q n _ _=>k b u (hb b n) q,fun b u q n _ _=>⟨u.slots,k b u (hb b n) q⟩,fun b u q n _=>by rw [upd_ne (hx b n)]; exact n,fun b u q _=>?_,
    fun b xs q=>by rw [upd_ne (hm b _ q fun z=>z)]; exact q,fun b u xs q=>by rw [upd_ne (hm b _ q fun z=>z)]; exact q,fun b ps q=>⟨#[],by rw [upd_ne (hm b _ q fun z=>z),q]; simp⟩⟩
  by_cases hbe:b = e
  · subst hbe; exact heo
  · exact ⟨u,k b u hbe q⟩
end
noncomputable def trk (h:Heap) (H:Hp):List Addr:=(List.range h.objs.size).filter fun a=>(H a).isSome
noncomputable def hidT (h:Heap) (H:Hp):Heap:=PySem.W.hideAll h (trk h H)
theorem hidT_size (h:Heap) (H:Hp):(hidT h H).objs.size = h.objs.size:=PySem.W.hideAll_size _ _
theorem hidT_get {h:Heap} {H:Hp} {b:Addr} {o:Obj} (e:h.get? b = some o) (n:H b = none):(hidT h H).get? b = some o :=
  PySem.W.hideAll_get _ e fun hm=>by
    have q:(H b).isSome = true:=(List.mem_filter.mp hm).2
    rw [n] at q; simp at q
theorem of_hidT {h:Heap} {H:Hp} {b:Addr} {o:Obj} (e:(hidT h H).get? b = some o):h.get? b = some o∧H b = none:=by
  have e':h.get? b = some o:=PySem.W.of_hideAll (trk h H) e
  refine ⟨e',?_⟩
  cases q:H b with
  | none=>rfl
  | some x =>
    have hm:b ∈ trk h H:=List.mem_filter.mpr ⟨List.mem_range.mpr (Heap.lt_size e'),by simp [q]⟩
    have z:(hidT h H).get? b = none:=PySem.W.hideAll_none (trk h H) hm
    rw [z] at e; cases e
noncomputable def allNews (g h:Heap) (L:Addr):List (Addr × Obj):=(List.range h.objs.size).filterMap fun a=>if a = L∨(g.get? a).isSome = true then none else (h.get? a).map fun o=>(a,o)
theorem mem_allNews {g h:Heap} {L a:Addr} {o:Obj} (h1:a ≠ L) (h2:g.get? a = none) (h3:h.get? a = some o):(a,o) ∈ allNews g h L :=
  List.mem_filterMap.mpr ⟨a,List.mem_range.mpr (Heap.lt_size h3),by simp [h1,h2,h3]⟩
theorem of_mem_allNews {g h:Heap} {L:Addr} {p:Addr × Obj} (hp:p ∈ allNews g h L):p.1 ≠ L∧g.get? p.1 = none∧h.get? p.1 = some p.2:=by
  obtain ⟨b,_,e⟩:=List.mem_filterMap.mp hp
  split at e
  · cases e
  · rename_i hn
    cases q:h.get? b with
    | none=>rw [q] at e; simp at e
    | some u =>
      rw [q] at e
      simp only [Option.map_some,Option.some.injEq] at e
      subst e
      refine ⟨fun z=>hn (.inl z),?_,q⟩
      show g.get? b = none
      cases r:g.get? b with
      | none=>rfl
      | some v=>exact (hn (.inr (by simp [r]))).elim
theorem news_all {g h:Heap} {L:Addr}:News g L h (allNews g h L):=fun p hp=>let ⟨a,b,c⟩:=of_mem_allNews hp; ⟨c,a,b⟩
end L2
namespace L2
open PySem PySem.Spec PyProof.Rows
structure Mod (K:PySem.W.Frag) (mg:Str→Option Value) (base:Heap):Prop where
  kin:K.In base
  glob:base.Ns mainGlobals mg
  blt:∃ mb,base.Ns builtinsNs mb∧∀ x:Str,x ≠ "__name__"→mb x = bootBuiltins x
  nolimit:base.NoLimit
structure Cx where
  prog:Program
  w:World
  K:PySem.W.Frag
  mg:Str→Option Value
  base:Heap
  A:Around
  N:List Str
  s₀:Shared
  H₀:Hp
  env:Env
  outer:List Env
  stack:List Env
  ex:List Addr
  fn:Str→Bool
  calm:Bool
  pn:List (Addr × Obj)
  xe:Value→Shared→Prop
noncomputable def frs (l:List Env):List Addr:=l.filterMap (·.frame)
noncomputable abbrev Cx.fs (X:Cx):List Addr:=frs X.outer
noncomputable def Vis (sc:Scope) (x:Str):Prop:=sc.names.lookup x = some .local∨sc.names.lookup x = some .cell∨sc.names.lookup x = some .free
noncomputable def Loc (sc:Scope) (x:Str):Prop:=sc.names.lookup x = some .local∨sc.names.lookup x = some .cell
noncomputable def Look (env:Env) (h:Heap) (m:Str→Option Value) (x:Str) (u:Value):Prop :=
  (env.kindOf x = some .local∧m x = some u)∨((env.kindOf x = some .cell∨env.kindOf x = some .free)∧∃ c,env.cells.lookup x = some c∧h.IsCell c (some u))
structure Cx.Ok (X:Cx):Prop where
  mod:Mod X.K X.mg X.base
  kind:X.env.scope.kind = .function
  glob:X.env.globals = mainGlobals
  blt:X.env.builtins = builtinsNs
  above:X.s₀.heap.objs.size ≤ X.env.locals
  inj:∀ x y c,X.env.cells.lookup x = some c→X.env.cells.lookup y = some c→x = y
  has:∀ x,(X.env.kindOf x = some .cell∨X.env.kindOf x = some .free)→∃ c,X.env.cells.lookup x = some c
  cab:∀ x c,X.fn x = true→X.env.cells.lookup x = some c→X.s₀.heap.objs.size ≤ c
  hd:X.calm = true→X.A.handled = none
  frames:X.A.frames = some X.stack
  stk:X.stack = X.outer∨(X.stack = X.env :: X.outer∧X.env.frame = some X.env.locals)
  exf:∀ b ∈ X.ex,b ≠ X.env.locals∧∀ x c,X.env.cells.lookup x = some c→c ≠ b
  bs:∀ b o,X.base.get? b = some o→X.s₀.heap.get? b = some o∧X.H₀ b = none
  bsz:X.base.objs.size ≤ X.s₀.heap.objs.size
  noex:∀ b o,X.base.get? b = some o→b ∉ X.ex
  exfs:∀ b ∈ X.ex,b ∉ X.fs
  funs:X.s₀.heap.FunFrames X.base X.outer
  frf:∀ b ∈ X.fs,X.H₀ b = none
structure Inv (X:Cx) (pins:List (Addr × Obj)) (σ:List (Option V)) (H:Hp) (s:Shared):Prop where
  ok:X.Ok
  os:s.os = X.s₀.os
  bare:AllBare s.gens
  base:Un X.fs X.ex X.H₀ H X.s₀.heap s.heap
  loc:∃ m,s.heap.Ns X.env.locals m∧∀ (i:Nat) (x:Str) (v:V),X.N[i]? = some x→σ[i]? = some (some v)→Vis X.env.scope x→∃ u,RelV v u∧Look X.env s.heap m x u
  cell:∀ x c,X.env.cells.lookup x = some c→∃ v,s.heap.IsCell c v
  free:H X.env.locals = none
  freeC:∀ x c,X.env.cells.lookup x = some c→H c = none
  pin:∀ p ∈ X.pn ++ pins,s.heap.get? p.1 = some p.2∧H p.1 = none∧p.1 ≠ X.env.locals∧p.1 ∉ X.fs∧∀ v,p.2.data ≠ .cell v
  hok:HOk X.prog X.w H s.heap
  len:σ.length = X.N.length
section
variable {X:Cx} {pins:List (Addr × Obj)} {σ:List (Option V)} {H H':Hp} {s:Shared} {h':Heap}
theorem Cx.Ok.nofr (ok:X.Ok) {b:Addr} {o:Obj} (e:X.base.get? b = some o):b ∉ X.fs:=fun hb=>by
  have:=(ok.funs.mem hb).1
  rw [e] at this; cases this
theorem Inv.bs (I:Inv X pins σ H s):∀ b o,X.base.get? b = some o→s.heap.get? b = some o∧H b = none:=fun b o e =>
  ⟨I.base.keep b o (I.ok.bs b o e).1 (I.ok.bs b o e).2 (I.ok.nofr e) (I.ok.noex b o e),I.base.free b o (I.ok.bs b o e).1 (I.ok.bs b o e).2 (I.ok.noex b o e)⟩
theorem Inv.bk (I:Inv X pins σ H s):∀ b o,X.base.get? b = some o→s.heap.get? b = some o:=fun b o e=>(I.bs b o e).1
theorem Inv.mod (I:Inv X pins σ H s):Mod X.K X.mg X.base:=I.ok.mod
theorem Inv.kIn (I:Inv X pins σ H s):X.K.In s.heap:=I.ok.mod.kin.keeps I.bk
theorem Inv.fr (I:Inv X pins σ H s):∃ m,Fr X.base X.env.locals s.heap m :=
  let ⟨m,hn,_⟩:=I.loc
  ⟨m,hn,I.bk,Nat.le_trans I.ok.bsz I.ok.above⟩
theorem Inv.lt (I:Inv X pins σ H s):X.env.locals < s.heap.objs.size:=let ⟨_,hn,_⟩:=I.loc; hn.lt
theorem Inv.sz (I:Inv X pins σ H s):X.s₀.heap.objs.size ≤ s.heap.objs.size:=Nat.le_trans I.ok.above (Nat.le_of_lt I.lt)
theorem Inv.nofs (I:Inv X pins σ H s) {a:Addr} (h:s.heap.objs.size ≤ a):a ∉ X.fs:=fun hb=>by
  obtain ⟨_,o,ho,_⟩:=I.ok.funs.mem hb
  exact absurd (Nat.lt_of_lt_of_le (Heap.lt_size ho) (Nat.le_trans I.sz h)) (Nat.lt_irrefl _)
theorem Inv.cne (I:Inv X pins σ H s):∀ x c,X.env.cells.lookup x = some c→c ≠ X.env.locals:=fun x c e z=>by
  obtain ⟨v,o,ho,hd⟩:=I.cell x c e
  obtain ⟨m,⟨o',es,ep,ho',hd',_⟩,_⟩:=I.loc
  rw [z,ho'] at ho; cases ho; rw [hd'] at hd; cases hd
theorem Inv.funs (I:Inv X pins σ H s):s.heap.FunFrames X.base X.outer:=by
  have all:∀ (l:List Env),(∀ b ∈ frs l,b ∈ X.fs)→X.s₀.heap.FunFrames X.base l→s.heap.FunFrames X.base l:=by
    intro l
    induction l with
    | nil=>intro _ _; trivial
    | cons env r ih =>
      intro hs hl
      obtain ⟨hk,⟨L,o,hf,hn,ho,hd⟩,hr⟩:=hl
      have hL:L ∈ X.fs:=hs L (by unfold frs; rw [List.filterMap_cons,hf]; exact List.mem_cons_self)
      obtain ⟨sl,e⟩:=I.base.slot L o ho (I.ok.frf L hL) hL fun z=>I.ok.exfs L z hL
      exact ⟨hk,⟨L,_,hf,hn,e,hd⟩,ih (fun b hb=>hs b (by unfold frs; rw [List.filterMap_cons,hf]; exact List.mem_cons_of_mem _ hb)) hr⟩
  exact all X.outer (fun _ hb=>hb) I.ok.funs
theorem Inv.stack (I:Inv X pins σ H s):s.heap.FunFrames X.base X.stack:=by
  rcases I.ok.stk with e | ⟨e,hf⟩
  · rw [e]; exact I.funs
  · rw [e]
    obtain ⟨m,hn,_⟩:=I.loc
    refine .cons (by rw [I.ok.kind]; decide) hf hn ?_ I.funs
    exact Heap.get?_none_of_le (Nat.le_trans I.ok.bsz I.ok.above)
theorem Inv.stkSub (I:Inv X pins σ H s):∀ b ∈ frs X.stack,b ∈ X.env.locals :: X.fs:=fun b hb=>by
  rcases I.ok.stk with e | ⟨e,hf⟩
  · rw [e] at hb; exact List.mem_cons_of_mem _ hb
  · rw [e] at hb
    unfold frs at hb
    rw [List.filterMap_cons,hf] at hb
    exact hb
theorem Inv.stkFree (I:Inv X pins σ H s):∀ b ∈ frs X.stack,H b = none:=fun b hb=>by
  rcases List.mem_cons.mp (I.stkSub b hb) with e | hb
  · rw [e]; exact I.free
  · obtain ⟨_,o,ho,_⟩:=I.ok.funs.mem hb
    exact I.base.free b o ho (I.ok.frf b hb) fun z=>I.ok.exfs b z hb
theorem Inv.step {g':Array GenState} {t':Nat} {d':Drawn} {ch:List Addr} (I:Inv X pins σ H s)
    (hch:∀ b ∈ ch,(b ∈ X.ex∨X.s₀.heap.objs.size ≤ b)∧b ≠ X.env.locals∧(∀ x c,X.env.cells.lookup x = some c→c ≠ b)∧∀ p ∈ X.pn ++ pins,p.1 ≠ b)
    (keep:∀ b o,b ≠ X.env.locals→b ∉ X.fs→b ∉ ch→s.heap.get? b = some o→H b = none→h'.get? b = some o)
    (slot:∀ b o,b ≠ X.env.locals→b ∈ X.fs→b ∉ ch→s.heap.get? b = some o→H b = none→∃ sl,h'.get? b = some { o with slots:=sl }) (free:∀ b o,b ∉ ch→s.heap.get? b = some o→H b = none→H' b = none)
    (there:∀ b o,b ∉ ch→s.heap.get? b = some o→∃ o',h'.get? b = some o')
    (tups:∀ b xs,H b = some (.tup xs)→H' b = some (.tup xs)) (frzs:∀ b o u,H b = some (.frz o u)→H' b = some (.frz o u)) (tbls:∀ b ps,H b = some (.tbl ps)→∃ more,H' b = some (.tbl (ps ++ more)))
    (ns:∀ m,s.heap.Ns X.env.locals m→h'.Ns X.env.locals m) (hok:HOk X.prog X.w H' h') (hg:AllBare g') :
    Inv X pins σ H' { s with heap:=h',gens:=g',drawn:=d',toks:=t' }:=by
  have neL:∀ b o,X.s₀.heap.get? b = some o→b ≠ X.env.locals:=fun b o e=>Nat.ne_of_lt (Nat.lt_of_lt_of_le (Heap.lt_size e) I.ok.above)
  have neC:∀ b o,X.s₀.heap.get? b = some o→b ∉ X.ex→b ∉ ch:=fun b o e hx hb=>by
    rcases (hch b hb).1 with z | z
    · exact hx z
    · exact absurd (Nat.lt_of_lt_of_le (Heap.lt_size e) z) (Nat.lt_irrefl _)
  have cellK:∀ x c,X.env.cells.lookup x = some c→∀ v,s.heap.IsCell c v→h'.IsCell c v:=fun x c e v zz1=>zz1.elim fun o zz=>zz.elim fun ho hd=>by
    have nch:c ∉ ch:=fun z=>(hch c z).2.2.1 x c e rfl
    by_cases hc:c ∈ X.fs
    · obtain ⟨sl,q⟩:=slot c o (I.cne x c e) hc nch ho (I.freeC x c e)
      exact ⟨_,q,hd⟩
    · exact ⟨o,keep c o (I.cne x c e) hc nch ho (I.freeC x c e),hd⟩
  refine ⟨I.ok,I.os,hg,⟨fun b o e n hb hx=>?_,fun b o e n hb hx=>?_,fun b o e n hx=>?_,fun b o e hx=>?_,fun b xs e=>tups b xs (I.base.tups b xs e),fun b o xs e=>frzs b o xs (I.base.frzs b o xs e),fun b ps e=>?_⟩,?_,fun x c e=>?_,?_,fun x c e=>?_,fun p hp=>?_,hok,I.len⟩
  · exact keep b o (neL b o e) hb (neC b o e hx) (I.base.keep b o e n hb hx) (I.base.free b o e n hx)
  · obtain ⟨sl,e1⟩:=I.base.slot b o e n hb hx
    obtain ⟨sl',e2⟩:=slot b _ (neL b o e) hb (neC b o e hx) e1 (I.base.free b o e n hx)
    exact ⟨sl',e2⟩
  · obtain ⟨o',e1⟩:=I.base.there b o e hx
    exact free b o' (neC b o e hx) e1 (I.base.free b o e n hx)
  · obtain ⟨o',e1⟩:=I.base.there b o e hx
    exact there b o' (neC b o e hx) e1
  · obtain ⟨m1,e1⟩:=I.base.tbls b ps e
    obtain ⟨m2,e2⟩:=tbls b _ e1
    exact ⟨m1 ++ m2,by rw [e2,Array.append_assoc]⟩
  · obtain ⟨m,hn,hl⟩:=I.loc
    refine ⟨m,ns m hn,fun i x v e1 e2 e3=>?_⟩
    obtain ⟨u,r,l⟩:=hl i x v e1 e2 e3
    refine ⟨u,r,?_⟩
    rcases l with l | ⟨k,c,e,z⟩
    · exact .inl l
    · exact .inr ⟨k,c,e,cellK x c e _ z⟩
  · obtain ⟨v,z⟩:=I.cell x c e
    exact ⟨v,cellK x c e v z⟩
  · obtain ⟨m,⟨o,_,_,ho,_⟩,_⟩:=I.loc
    exact free _ o (fun z=>(hch _ z).2.1 rfl) ho I.free
  · obtain ⟨v,o,ho,hd⟩:=I.cell x c e
    exact free c o (fun z=>(hch c z).2.2.1 x c e rfl) ho (I.freeC x c e)
  · obtain ⟨e,n,ne,nf,d⟩:=I.pin p hp
    have nch:p.1 ∉ ch:=fun z=>(hch p.1 z).2.2.2 p hp rfl
    exact ⟨keep p.1 p.2 ne nf nch e n,free p.1 p.2 nch e n,ne,nf,d⟩
theorem Inv.un {t':Nat} (I:Inv X pins σ H s) (u:Un X.fs [] H H' s.heap h') (hok:HOk X.prog X.w H' h'):Inv X pins σ H' { s with heap:=h',toks:=t' }:=by
  obtain ⟨m,⟨o,es,ep,ho,r⟩,_⟩:=id I.loc
  obtain ⟨sl,hL⟩:=u.any ho I.free (by simp)
  exact I.step (g':=s.gens) (d':=s.drawn) (ch:=[]) (fun _ z=>nomatch z) (fun b o _ hb _ e n=>u.keep b o e n hb (by simp)) (fun b o _ hb _ e n=>u.slot b o e n hb (by simp)) (fun b o _ e n=>u.free b o e n (by simp)) (fun b o _ e=>u.there b o e (by simp)) u.tups u.frzs u.tbls (fun m' hm=>by
    obtain ⟨o',es',ep',ho',r'⟩:=hm
    rw [ho] at ho'; cases ho'
    exact ⟨_,es',ep',hL,r'⟩) hok I.bare
theorem Inv.call {g':Array GenState} {t':Nat} {d':Drawn} {ch:List Addr} (I:Inv X pins σ H s) (u:Un (frs X.stack) ch H H' s.heap h') (hok:HOk X.prog X.w H' h') (hg:AllBare g')
    (hch:∀ b ∈ ch,(b ∈ X.ex∨X.s₀.heap.objs.size ≤ b)∧b ≠ X.env.locals∧(∀ x c,X.env.cells.lookup x = some c→c ≠ b)∧∀ p ∈ X.pn ++ pins,p.1 ≠ b) :
    Inv X pins σ H' { s with heap:=h',gens:=g',drawn:=d',toks:=t' }:=by
  obtain ⟨m,⟨o,es,ep,ho,r⟩,_⟩:=id I.loc
  obtain ⟨sl,hL⟩:=u.any ho I.free fun z=>(hch _ z).2.1 rfl
  exact I.step (ch:=ch) hch (fun b o hL hb hc e n=>u.keep b o e n (fun z=>(List.mem_cons.mp (I.stkSub b z)).elim hL hb) hc) (fun b o _ _ hc e n=>u.any e n hc) (fun b o hc e n=>u.free b o e n hc) (fun b o hc e=>u.there b o e hc) u.tups u.frzs u.tbls (fun m' hm=>by
    obtain ⟨o',es',ep',ho',r'⟩:=hm
    rw [ho] at ho'; cases ho'
    exact ⟨_,es',ep',hL,r'⟩) hok hg
theorem Inv.turned {t':Nat} {it:Addr} (I:Inv X pins σ H s) (k:∀ b o,b ≠ it→s.heap.get? b = some o→h'.get? b = some o) (hn:H it = none) (hL:it ≠ X.env.locals)
    (h1:it ∈ X.ex∨X.s₀.heap.objs.size ≤ it) (h2:∀ x c,X.env.cells.lookup x = some c→c ≠ it) (h3:∀ p ∈ X.pn ++ pins,p.1 ≠ it):Inv X pins σ H { s with heap:=h',toks:=t' }:=by
  have nit:∀ b u,H b = some u→b ≠ it:=fun b u e z=>by rw [z,hn] at e; cases e
  refine I.step (g':=s.gens) (d':=s.drawn) (ch:=[it]) (fun b hb=>?_) (fun b o _ _ hc e _=>k b o (fun z=>hc (by simp [z])) e) (fun b o _ _ hc e _=>⟨o.slots,k b o (fun z=>hc (by simp [z])) e⟩) (fun _ _ _ _ n=>n)
    (fun b o hc e=>⟨o,k b o (fun z=>hc (by simp [z])) e⟩) (fun _ _ e=>e) (fun _ _ _ e=>e) (fun b ps e=>⟨#[],by rw [e]; simp⟩) (fun m hm=>?_) (fun b u e=>?_) I.bare
  · have e:b = it:=by simpa using hb
    subst e
    exact ⟨h1,hL,h2,h3⟩
  · obtain ⟨o,es,ep,ho,r⟩:=hm
    exact ⟨o,es,ep,k _ o (Ne.symm hL) ho,r⟩
  · refine (I.hok b u e).stay (fun c v hc q=>k c v ?_ q) (fun _ q=>q) fun _ _ q=>q
    rcases hc with z | z
    · rw [z]; exact nit b u e
    · exact nit c _ z
theorem Inv.tok (I:Inv X pins σ H s) (t:Nat):Inv X pins σ H { s with toks:=t }:=I.un (h':=s.heap) (t':=t) Un.refl I.hok
theorem Inv.kept {t':Nat} (I:Inv X pins σ H s) (k:∀ b u,s.heap.get? b = some u→h'.get? b = some u):Inv X pins σ H { s with heap:=h',toks:=t' }:=I.un (Un.kept k) (I.hok.kept k)
theorem Inv.laid {a:Addr} {o:HO} {t':Nat} (I:Inv X pins σ H s) (k:∀ b u,s.heap.get? b = some u→h'.get? b = some u) (hp:s.heap.objs.size ≤ a) (new:ObjOk X.prog X.w (upd H a o) h' a o) :
    Inv X pins σ (upd H a o) { s with heap:=h',toks:=t' }:=I.un (Un.laid k hp (I.hok.fresh hp)) (I.hok.laid k hp new)
theorem Inv.write {x e:Addr} {o:HO} {t':Nat} (I:Inv X pins σ H s) (mu:Mut (H x)) (he:e = x∨H e = some (.own x)) (k:∀ b u,b ≠ e→s.heap.get? b = some u→h'.get? b = some u) (heo:∃ u,h'.get? e = some u)
    (new:ObjOk X.prog X.w (upd H x o) h' x o):Inv X pins σ (upd H x o) { s with heap:=h',toks:=t' }:=I.un (Un.write mu he k heo) (I.hok.write mu he k heo new)
theorem Inv.pins_of {pins':List (Addr × Obj)} (I:Inv X pins σ H s) (h:∀ p ∈ pins',s.heap.get? p.1 = some p.2∧H p.1 = none∧p.1 ≠ X.env.locals∧p.1 ∉ X.fs∧∀ v,p.2.data ≠ .cell v):Inv X pins' σ H s :=
  ⟨I.ok,I.os,I.bare,I.base,I.loc,I.cell,I.free,I.freeC,fun p hp=>(List.mem_append.mp hp).elim (fun z=>I.pin p (List.mem_append_left _ z)) (h p),I.hok,I.len⟩
theorem nodup_ix {N:List Str} (hN:N.Nodup) {i j:Nat} {x:Str} (a:N[i]? = some x) (b:N[j]? = some x):i = j:=by
  obtain ⟨h1,e1⟩:=List.getElem?_eq_some_iff.mp a
  obtain ⟨h2,e2⟩:=List.getElem?_eq_some_iff.mp b
  exact (List.getElem_inj hN).mp (e1.trans e2.symm)
theorem store_ok2 {M:Model} {A:Around} {E:Value→Shared→Prop} {i:Nat} {x:Str} {v:V} {u:Value} {Q:Unit→Shared→Prop} (I:Inv X pins σ H s) (hN:X.N.Nodup) (hi:X.N[i]? = some x) (hx:Loc X.env.scope x) (r:RelV v u)
    (h:∀ s',Inv X pins (σ.set i (some v)) H s'→(∃ a,Heap.SameBut a s.heap s'.heap∧(a = X.env.locals∨X.env.cells.lookup x = some a))→Q () s') (hf:autoParam (X.fn x = true∨X.env.scope.names.lookup x = some .local) ZA.a1._auto_1):wpAny M A (storeName X.env x u) Q E s:=by
  obtain ⟨m,hn,hl⟩:=id I.loc
  have hcls:(X.env.scope.kind == .class || (X.env.scope.kind == .module && X.env.locals != X.env.globals)) = false:=by rw [I.ok.kind]; rfl
  have hiσ:i < σ.length:=by rw [I.len]; exact (List.getElem?_eq_some_iff.mp hi).1
  have cne:=I.cne
  have tracked:∀ {a:Addr} {h':Heap},(∃ o,s.heap.get? a = some o∧H a = none)→Heap.SameBut a s.heap h'→HOk X.prog X.w H h':=fun {a h'} ha hs b ob e=>by
    obtain ⟨_,_,hfree⟩:=ha
    refine (I.hok b ob e).stay (fun c w' hc q=>(hs.2 c ?_).trans q) (fun _ q=>q) fun _ _ q=>q
    rintro rfl
    rcases hc with rfl | hc
    · rw [hfree] at e; cases e
    · rw [hfree] at hc; cases hc
  rcases hx with hk | hk
  · refine wpAny_storeName_local hk hn (fun h' hn' hs=>?_) hcls
    obtain ⟨oL,_,_,hoL,_⟩:=id hn
    refine h _ ⟨I.ok,I.os,I.bare,⟨fun b o e n hb hx=>?_,fun b o e n hb hx=>?_,I.base.free,fun b o e hx=>?_,I.base.tups,I.base.frzs,I.base.tbls⟩,⟨_,hn',fun j y v' e1 e2 e3=>?_⟩,fun y c e=>?_,I.free,I.freeC,fun p hp=>?_,tracked ⟨oL,hoL,I.free⟩ hs,by simpa using I.len⟩ ⟨_,hs,.inl rfl⟩
    · exact (hs.2 b (Nat.ne_of_lt (Nat.lt_of_lt_of_le (Heap.lt_size e) I.ok.above))).trans (I.base.keep b o e n hb hx)
    · obtain ⟨sl,e1⟩:=I.base.slot b o e n hb hx
      exact ⟨sl,(hs.2 b (Nat.ne_of_lt (Nat.lt_of_lt_of_le (Heap.lt_size e) I.ok.above))).trans e1⟩
    · obtain ⟨o',e1⟩:=I.base.there b o e hx
      exact ⟨o',(hs.2 b (Nat.ne_of_lt (Nat.lt_of_lt_of_le (Heap.lt_size e) I.ok.above))).trans e1⟩
    · by_cases hj:j = i
      · subst hj
        rw [hi] at e1; cases e1
        rw [List.getElem?_set_self hiσ] at e2
        cases e2
        exact ⟨u,r,.inl ⟨hk,by simp⟩⟩
      · rw [List.getElem?_set_ne (Ne.symm hj)] at e2
        obtain ⟨u',r',q⟩:=hl j y v' e1 e2 e3
        refine ⟨u',r',?_⟩
        rcases q with ⟨k,e⟩ | ⟨k,c,e,z⟩
        · refine .inl ⟨k,?_⟩
          have:y ≠ x:=fun e=>hj (nodup_ix hN e1 (e ▸ hi))
          simp [this,e]
        · exact .inr ⟨k,c,e,z.sameBut hs (cne y c e)⟩
    · obtain ⟨w',z⟩:=I.cell y c e
      exact ⟨w',z.sameBut hs (cne y c e)⟩
    · obtain ⟨e,n,ne,nf,d⟩:=I.pin p hp
      exact ⟨(hs.2 p.1 ne).trans e,n,ne,nf,d⟩
  · have hfn:X.fn x = true:=by
      rcases hf with z | z
      · exact z
      · rw [z] at hk; cases hk
    obtain ⟨c,hc⟩:=I.ok.has x (.inl hk)
    obtain ⟨w',z⟩:=I.cell x c hc
    refine wpAny_storeName_cell I.ok.kind hk hc z (fun h' hc' hs=>?_)
    obtain ⟨oc,hoc,hocd⟩:=id z
    refine h { s with heap:=h' } ⟨I.ok,I.os,I.bare,⟨fun b o e n hb hx=>?_,fun b o e n hb hx=>?_,I.base.free,fun b o e hx=>?_,I.base.tups,I.base.frzs,I.base.tbls⟩,⟨m,hn.sameBut hs (Ne.symm (cne x c hc)),fun j y v' e1 e2 e3=>?_⟩,fun y c' e=>?_,I.free,I.freeC,fun p hp=>?_,tracked ⟨oc,hoc,I.freeC x c hc⟩ hs,by simpa using I.len⟩ ⟨c,hs,.inr hc⟩
    · exact (hs.2 b (Nat.ne_of_lt (Nat.lt_of_lt_of_le (Heap.lt_size e) (I.ok.cab x c hfn hc)))).trans (I.base.keep b o e n hb hx)
    · obtain ⟨sl,e1⟩:=I.base.slot b o e n hb hx
      exact ⟨sl,(hs.2 b (Nat.ne_of_lt (Nat.lt_of_lt_of_le (Heap.lt_size e) (I.ok.cab x c hfn hc)))).trans e1⟩
    · obtain ⟨o',e1⟩:=I.base.there b o e hx
      exact ⟨o',(hs.2 b (Nat.ne_of_lt (Nat.lt_of_lt_of_le (Heap.lt_size e) (I.ok.cab x c hfn hc)))).trans e1⟩
    · by_cases hj:j = i
      · subst hj
        rw [hi] at e1; cases e1
        rw [List.getElem?_set_self hiσ] at e2
        cases e2
        exact ⟨u,r,.inr ⟨.inl hk,c,hc,hc'⟩⟩
      · rw [List.getElem?_set_ne (Ne.symm hj)] at e2
        obtain ⟨u',r',q⟩:=hl j y v' e1 e2 e3
        refine ⟨u',r',?_⟩
        rcases q with q | ⟨k,c',e,z'⟩
        · exact .inl q
        · refine .inr ⟨k,c',e,z'.sameBut hs ?_⟩
          rintro rfl
          exact hj (nodup_ix hN e1 (I.ok.inj _ _ _ e hc ▸ hi))
    · by_cases hcc:c' = c
      · subst hcc; exact ⟨_,hc'⟩
      · obtain ⟨w2,z2⟩:=I.cell y c' e
        exact ⟨w2,z2.sameBut hs hcc⟩
    · obtain ⟨e,n,ne,nf,d⟩:=I.pin p hp
      refine ⟨(hs.2 p.1 ?_).trans e,n,ne,nf,d⟩
      intro q
      rw [q,hoc] at e
      have q':oc = p.2:=Option.some.inj e
      exact d w' (by rw [← q']; exact hocd)
theorem store_ok {M:Model} {A:Around} {E:Value→Shared→Prop} {i:Nat} {x:Str} {v:V} {u:Value} {Q:Unit→Shared→Prop} (I:Inv X pins σ H s) (hN:X.N.Nodup) (hi:X.N[i]? = some x) (hx:Loc X.env.scope x) (r:RelV v u)
    (h:∀ s',Inv X pins (σ.set i (some v)) H s'→Q () s') (hf:autoParam (X.fn x = true∨X.env.scope.names.lookup x = some .local) ZA.a1._auto_1):wpAny M A (storeName X.env x u) Q E s :=
  store_ok2 I hN hi hx r (fun s' I' _=>h s' I') hf
theorem Inv.call' {s':Shared} {ch:List Addr} (I:Inv X pins σ H s) (ho:s'.os = s.os) (u:Un (frs X.stack) ch H H' s.heap s'.heap) (hok:HOk X.prog X.w H' s'.heap) (hg:AllBare s'.gens)
    (hch:∀ b ∈ ch,(b ∈ X.ex∨X.s₀.heap.objs.size ≤ b)∧b ≠ X.env.locals∧(∀ x c,X.env.cells.lookup x = some c→c ≠ b)∧∀ p ∈ X.pn ++ pins,p.1 ≠ b):Inv X pins σ H' s':=by
  obtain ⟨h',g',d',t',o'⟩:=s'
  have e:o' = s.os:=ho
  subst e
  exact I.call (g':=g') (t':=t') (d':=d') u hok hg hch
end
noncomputable abbrev XK:=Value→Option Addr→Hp→Prop
noncomputable abbrev St:=List (Option V)
noncomputable abbrev VK:=V→Hp→Prop
noncomputable abbrev TE:=St→Hp→VK→Prop
noncomputable abbrev TT:=St→Hp→(Bool→Hp→Prop)→Prop
noncomputable abbrev TA:=St→Hp→(List V→Hp→Prop)→Prop
structure Ends where
  nx:St→Hp→Prop
  rt:VK
  bk:St→Hp→Prop:=fun _ _=>False
  ct:St→Hp→Prop:=fun _ _=>False
noncomputable abbrev TS:=Ends→St→Hp→Prop
noncomputable def EP (X:Cx) (pins:List (Addr × Obj)) (σ:St) (Q:VK) (u:Value) (s':Shared):Prop:=∃ v H',Inv X pins σ H' s'∧RelV v u∧Q v H'
noncomputable def TP (X:Cx) (pins:List (Addr × Obj)) (σ:St) (Q:Bool→Hp→Prop) (b:Bool) (s':Shared):Prop:=∃ H',Inv X pins σ H' s'∧Q b H'
noncomputable def AP (X:Cx) (pins:List (Addr × Obj)) (σ:St) (Q:List V→Hp→Prop) (us:List Value) (s':Shared):Prop:=∃ vs H',Inv X pins σ H' s'∧Vals vs us∧Q vs H'
noncomputable def SP (X:Cx) (pins:List (Addr × Obj)) (D:Ends) (f:Flow) (s':Shared):Prop :=
  match f with
  | .next=>∃ σ' H',Inv X pins σ' H' s'∧D.nx σ' H'
  | .brk=>∃ σ' H',Inv X pins σ' H' s'∧D.bk σ' H'
  | .cont=>∃ σ' H',Inv X pins σ' H' s'∧D.ct σ' H'
  | .ret u=>∃ v σ' H',Inv X pins σ' H' s'∧RelV v u∧D.rt v H'
noncomputable def PE (X:Cx) (e:Expr) (t:TE):Prop :=
  ∀ (pins:List (Addr × Obj)) (s:Shared) (σ:St) (H:Hp) (Q:VK),Inv X pins σ H s→t σ H Q→wpAny (model X.prog X.w) X.A (eval e X.env) (EP X pins σ Q) X.xe s
noncomputable def PT (X:Cx) (e:Expr) (t:TT):Prop :=
  ∀ (pins:List (Addr × Obj)) (s:Shared) (σ:St) (H:Hp) (Q:Bool→Hp→Prop),Inv X pins σ H s→t σ H Q→wpAny (model X.prog X.w) X.A (isTrue e X.env (eval e X.env)) (TP X pins σ Q) X.xe s
noncomputable def PW (X:Cx) (e:Expr) (t:TT):Prop :=
  ∀ (whole:Sem Value) (pins:List (Addr × Obj)) (s:Shared) (σ:St) (H:Hp) (Q:Bool→Hp→Prop),Inv X pins σ H s→t σ H Q→wpAny (model X.prog X.w) X.A (isTrue e X.env whole) (TP X pins σ Q) X.xe s
theorem PW.pt {X:Cx} {e:Expr} {t:TT} (h:PW X e t):PT X e t:=h _
noncomputable def PA (X:Cx) (es:List Expr) (t:TA):Prop :=
  ∀ (pos:Pos) (pins:List (Addr × Obj)) (s:Shared) (σ:St) (H:Hp) (Q:List V→Hp→Prop),Inv X pins σ H s→t σ H Q→wpAny (model X.prog X.w) X.A (spliced (backTo pos (starEach es X.env))) (AP X pins σ Q) X.xe s
noncomputable def PS (X:Cx) (st:Stmt) (t:TS):Prop :=
  ∀ (pins:List (Addr × Obj)) (s:Shared) (σ:St) (H:Hp) (D:Ends),Inv X pins σ H s→t D σ H→wpAny (model X.prog X.w) X.A (exec st X.env) (SP X pins D) X.xe s
noncomputable def PSs (X:Cx) (st:List Stmt) (t:TS):Prop :=
  ∀ (pins:List (Addr × Obj)) (s:Shared) (σ:St) (H:Hp) (D:Ends),Inv X pins σ H s→t D σ H→wpAny (model X.prog X.w) X.A (execs st X.env) (SP X pins D) X.xe s
theorem thn {α:Type} {t:Sem α} {Q Q':α→Shared→Prop} {M:Model} {A:Around} {E:Value→Shared→Prop} {s:Shared} (h:wpAny M A t Q E s) (hQ:∀ a s,Q a s→Q' a s):wpAny M A t Q' E s:=wpAny_mono h hQ fun _ _ x=>x
end L2
namespace L2
open PySem PySem.Spec PyProof.Rows
section
variable {X:Cx}
noncomputable def tVar (i:Nat):TE:=fun σ H Q=>∃ v,σ[i]? = some (some v)∧Q v H
noncomputable def tC (v:V):TE:=fun _ H Q=>Q v H
theorem pe_var {i:Nat} {x:Str} {pos:Pos} (hN:X.N[i]? = some x) (hv:Vis X.env.scope x) (hd:autoParam ((x == ("__debug__":Str)) = false) ZA.a2._auto_1) (hcd:autoParam ((x == ("__classdict__":Str)) = false) ZA.a2._auto_1):PE X (.Name x pos) (tVar i):=by
  intro pins s σ H Q I h
  obtain ⟨v,e,h⟩:=h
  obtain ⟨m,hn,hl⟩:=I.loc
  obtain ⟨u,r,l⟩:=hl i x v hN e hv
  have fin:EP X pins σ Q u s:=⟨v,H,I,r,h⟩
  rcases l with ⟨hk,hm⟩ | ⟨hk,c,hc,hcell⟩
  · exact wpAny_Name (wpAny_loadName_local I.ok.kind hk hn hm fin) hd
  · rcases hk with hk | hk
    · exact wpAny_Name (wpAny_loadName_cell I.ok.kind hk hc hcell fin) hd
    · exact wpAny_Name (wpAny_loadName_free I.ok.kind hk hc hcell fin hcd) hd
theorem pe_int {i j pos}:PE X (.Constant (.int i) j pos) (tC (.int i)):=fun _ _ _ H _ I h=>wpAny_Constant_int ⟨.int i,H,I.tok _,⟨_,rfl⟩,h⟩
theorem pe_bl {b j pos}:PE X (.Constant (.bool b) j pos) (tC (.bl b)):=fun _ _ _ H _ I h=>Constant_bool ⟨.bl b,H,I,rfl,h⟩
theorem pe_non {j pos}:PE X (.Constant .none j pos) (tC .non):=fun _ _ _ H _ I h=>Constant_none ⟨.non,H,I,rfl,h⟩
theorem pe_str {x j pos}:PE X (.Constant (.str x) j pos) (tC (.str x)):=fun _ _ _ H _ I h=>Calls.Constant_str ⟨.str x,H,I.tok _,⟨_,rfl⟩,h⟩
noncomputable def Gl (X:Cx) (x:Str):Prop:=X.env.kindOf x = some .globalImplicit
theorem ld_glob {E:Value→Shared→Prop} {pins:List (Addr × Obj)} {s:Shared} {σ:St} {H:Hp} {x:Str} {u:Value} {pos:Pos} {Q:Value→Shared→Prop} (I:Inv X pins σ H s) (hg:Gl X x) (hm:X.mg x = some u) (h:Q u s)
    (hd:autoParam ((x == ("__debug__":Str)) = false) ZA.a2._auto_1):wpAny (model X.prog X.w) X.A (eval (.Name x pos) X.env) Q E s :=
  Calls.Name_function_global I.ok.kind hg (Calls.loadGlobal_global (by rw [I.ok.glob]; exact I.mod.glob.keeps I.bk) hm h) hd
theorem ld_blt {E:Value→Shared→Prop} {pins:List (Addr × Obj)} {s:Shared} {σ:St} {H:Hp} {x:Str} {u:Value} {pos:Pos} {Q:Value→Shared→Prop} (I:Inv X pins σ H s) (hg:Gl X x) (hm:X.mg x = none) (hv:bootBuiltins x = some u) (h:Q u s)
    (hn:autoParam (x ≠ "__name__") ZA.a2._auto_1) (hd:autoParam ((x == ("__debug__":Str)) = false) ZA.a2._auto_1):wpAny (model X.prog X.w) X.A (eval (.Name x pos) X.env) Q E s:=by
  obtain ⟨mb,h1,h2⟩:=I.mod.blt
  exact Calls.Name_function_global I.ok.kind hg (Calls.loadGlobal_builtin (by rw [I.ok.glob]; exact I.mod.glob.keeps I.bk) hm (by rw [I.ok.blt]; exact h1.keeps I.bk) ((h2 x hn).trans hv) h) hd
variable {a b:Expr} {ta tb:TE} {pos:Pos}
variable {tA tB':TT} {rest:List Expr}
noncomputable def tAnd (t u:TT):TT:=fun σ H Q=>t σ H fun c H1=>if c = true then u σ H1 Q else Q false H1
noncomputable def tOr (t u:TT):TT:=fun σ H Q=>t σ H fun c H1=>if c = true then Q true H1 else u σ H1 Q
noncomputable def tNot (t:TT):TT:=fun σ H Q=>t σ H fun c H1=>Q (!c) H1
theorem pw_and1 (ha:PT X a tA):PW X (.BoolOp .And [a] pos) tA:=by
  intro wh pins s σ H Q I h
  refine isTrue_and (thn (ha pins s σ H Q I h) fun c s1 e=>?_)
  cases c with
  | true=>exact isTrue_and_nil e
  | false=>exact e
theorem pw_or1 (ha:PT X a tA):PW X (.BoolOp .Or [a] pos) tA:=by
  intro wh pins s σ H Q I h
  refine isTrue_or (thn (ha pins s σ H Q I h) fun c s1 e=>?_)
  cases c with
  | false=>exact isTrue_or_nil e
  | true=>exact e
theorem pw_and (ha:PT X a tA) (hb:PW X (.BoolOp .And (b :: rest) pos) tB'):PW X (.BoolOp .And (a :: b :: rest) pos) (tAnd tA tB'):=by
  intro wh pins s σ H Q I h
  refine isTrue_and (thn (ha pins s σ H _ I h) fun c s1 zz2=>zz2.elim fun H1 zz=>zz.elim fun I1 q1=>?_)
  cases c with
  | true=>exact hb wh pins s1 σ H1 Q I1 q1
  | false=>exact ⟨H1,I1,q1⟩
theorem pw_or (ha:PT X a tA) (hb:PW X (.BoolOp .Or (b :: rest) pos) tB'):PW X (.BoolOp .Or (a :: b :: rest) pos) (tOr tA tB'):=by
  intro wh pins s σ H Q I h
  refine isTrue_or (thn (ha pins s σ H _ I h) fun c s1 zz3=>zz3.elim fun H1 zz=>zz.elim fun I1 q1=>?_)
  cases c with
  | true=>exact ⟨H1,I1,q1⟩
  | false=>exact hb wh pins s1 σ H1 Q I1 q1
theorem pt_not (ha:PT X a tA):PT X (.UnaryOp .Not a pos) (tNot tA):=by
  intro pins s σ H Q I h
  exact isTrue_not (ha pins s σ H (fun c H1=>Q (!c) H1) I h)
noncomputable def tIf (t:TT) (ta tb:TE):TE:=fun σ H Q=>t σ H fun c H1=>if c = true then ta σ H1 Q else tb σ H1 Q
theorem pe_ifExp {c:Expr} (hc:PT X c tA) (ha:PE X a ta) (hb:PE X b tb):PE X (.IfExp c a b pos) (tIf tA ta tb):=by
  intro pins s σ H Q I h
  refine wpAny_IfExp (thn (hc pins s σ H _ I h) fun d s1 zz4=>zz4.elim fun H1 zz=>zz.elim fun I1 q1=>?_)
  cases d with
  | true=>exact ha pins s1 σ H1 Q I1 q1
  | false=>exact hb pins s1 σ H1 Q I1 q1
end
end L2
namespace L2
open PySem PySem.Spec PyProof.Rows
noncomputable def SqL (K:PySem.W.Frag) (H:Hp) (a:Addr) (xs:List V):Prop :=
  Rd H a (.lst xs) ∨
    ∃ (o:Obj) (its:Array Value) (n:Nat),K.lookup a = some o∧o.cls = .type "list"∧o.dict = none∧o.data = .seq its n∧its.size ≤ sizeLine∧Vals xs its.toList
noncomputable def SqT (K:PySem.W.Frag) (H:Hp) (a:Addr) (xs:List V):Prop :=
  Rd H a (.tup xs) ∨
    ∃ (o:Obj) (its:Array Value) (n:Nat),K.lookup a = some o∧o.cls = .type "tuple"∧o.data = .seq its n∧its.size ≤ sizeLine∧Vals xs its.toList
noncomputable def absV:Value→Option V
  | .none=>some .non
  | .bool b=>some (.bl b)
  | .int i _=>some (.int i)
  | .str x _=>some (.str x)
  | .bytes b _=>some (.byt b)
  | .float b _=>some (.flt b)
  | .ref a=>some (.ref a)
  | .type n=>some (.ty n)
  | _=>none
theorem RelV.abs {x:V} {u:Value} (r:RelV x u):absV u = some x:=by
  cases x with
  | non=>cases r; rfl
  | bl _=>cases r; rfl
  | int _=>obtain ⟨t,rfl⟩:=r; rfl
  | str _=>obtain ⟨t,rfl⟩:=r; rfl
  | byt _=>obtain ⟨t,rfl⟩:=r; rfl
  | flt _=>obtain ⟨t,rfl⟩:=r; rfl
  | ref _=>cases r; rfl
  | ty _=>cases r; rfl
theorem RelV.inj {x y:V} {u:Value} (r:RelV x u) (q:RelV y u):x = y:=Option.some.inj (r.abs.symm.trans q.abs)
theorem Vals.inj:∀ {xs ys:List V} {us:List Value},Vals xs us→Vals ys us→xs = ys
  | _,_,_,.nil,.nil=>rfl
  | _,_,_,.cons r t,.cons r' t'=>by rw [r.inj r',Vals.inj t t']
section
variable {X:Cx} {pins:List (Addr × Obj)} {σ:St} {H:Hp} {s:Shared} {a:Addr} {xs ys:List V}
theorem SqL.of {K:PySem.W.Frag} (h:H a = some (.lst xs)):SqL K H a xs:=.inl (.inl h)
theorem SqT.of {K:PySem.W.Frag} (h:H a = some (.tup xs)):SqT K H a xs:=.inl (.inl h)
theorem Inv.list (I:Inv X pins σ H s) (h:SqL X.K H a xs):∃ its:List Value,Vals xs its∧PlainL s.heap a its.toArray∧xs.length ≤ sizeLine:=by
  rcases h with h | ⟨o,its,n,hk,hc,hd,hs,hz,r⟩
  · obtain ⟨z,its,n,r,e⟩:=h.ok I.hok
    exact ⟨its,r,⟨_,n,e,rfl,rfl,rfl⟩,z⟩
  · refine ⟨its.toList,r,⟨o,n,I.kIn a o hk,hc,hd,by simpa using hs⟩,?_⟩
    have e:=r.length
    simp only [Array.length_toList] at e
    omega
theorem Inv.tuple (I:Inv X pins σ H s) (h:SqT X.K H a xs):∃ its:List Value,Vals xs its∧IsTup s.heap a its.toArray∧xs.length ≤ sizeLine:=by
  rcases h with h | ⟨o,its,n,hk,hc,hs,hz,r⟩
  · obtain ⟨z,its,r,p⟩:=h.ok I.hok
    exact ⟨its,r,p,z⟩
  · refine ⟨its.toList,r,⟨o,I.kIn a o hk,hc,n,by simpa using hs⟩,?_⟩
    have e:=r.length
    simp only [Array.length_toList] at e
    omega
theorem Inv.list_inj (I:Inv X pins σ H s) (h:SqL X.K H a xs) (h':SqL X.K H a ys):xs = ys:=by
  obtain ⟨its,r,⟨o,n,e,_,_,d⟩,_⟩:=I.list h
  obtain ⟨its',r',⟨o',n',e',_,_,d'⟩,_⟩:=I.list h'
  rw [e] at e'; cases e'
  rw [d] at d'
  injection d' with d1 _
  have:its = its':=by simpa using congrArg Array.toList d1
  subst this
  exact r.inj r'
theorem Inv.tuple_inj (I:Inv X pins σ H s) (h:SqT X.K H a xs) (h':SqT X.K H a ys):xs = ys:=by
  obtain ⟨its,r,⟨o,e,_,n,d⟩,_⟩:=I.tuple h
  obtain ⟨its',r',⟨o',e',_,n',d'⟩,_⟩:=I.tuple h'
  rw [e] at e'; cases e'
  rw [d] at d'
  injection d' with d1 _
  have:its = its':=by simpa using congrArg Array.toList d1
  subst this
  exact r.inj r'
end
noncomputable abbrev Cx.wish (X:Cx) (E:Value→Shared→Prop):Cx:={ X with xe:=E }
noncomputable abbrev Cx.nox (X:Cx):Cx:=X.wish fun _ _=>False
theorem Cx.Ok.wish {X:Cx} (ok:X.Ok) (E:Value→Shared→Prop):(X.wish E).Ok :=
  ⟨ok.mod,ok.kind,ok.glob,ok.blt,ok.above,ok.inj,ok.has,ok.cab,ok.hd,ok.frames,ok.stk,ok.exf,ok.bs,ok.bsz,ok.noex,ok.exfs,ok.funs,ok.frf⟩
theorem Cx.Ok.unwish {X:Cx} {E:Value→Shared→Prop} (ok:(X.wish E).Ok):X.Ok :=
  ⟨ok.mod,ok.kind,ok.glob,ok.blt,ok.above,ok.inj,ok.has,ok.cab,ok.hd,ok.frames,ok.stk,ok.exf,ok.bs,ok.bsz,ok.noex,ok.exfs,ok.funs,ok.frf⟩
section
variable {X:Cx} {pins:List (Addr × Obj)} {σ:St} {H:Hp} {s:Shared} {E:Value→Shared→Prop}
theorem Inv.wish (I:Inv X pins σ H s) (E:Value→Shared→Prop):Inv (X.wish E) pins σ H s:=⟨I.ok.wish E,I.os,I.bare,I.base,I.loc,I.cell,I.free,I.freeC,I.pin,I.hok,I.len⟩
theorem Inv.unwish (I:Inv (X.wish E) pins σ H s):Inv X pins σ H s:=⟨I.ok.unwish,I.os,I.bare,I.base,I.loc,I.cell,I.free,I.freeC,I.pin,I.hok,I.len⟩
theorem SP.unwish {D:Ends} {f:Flow} {s':Shared} (h:SP (X.wish E) pins D f s'):SP X pins D f s':=by
  cases f with
  | next=>obtain ⟨σ',H',I,q⟩:=h; exact ⟨σ',H',I.unwish,q⟩
  | brk=>obtain ⟨σ',H',I,q⟩:=h; exact ⟨σ',H',I.unwish,q⟩
  | cont=>obtain ⟨σ',H',I,q⟩:=h; exact ⟨σ',H',I.unwish,q⟩
  | ret u=>obtain ⟨v,σ',H',I,r,q⟩:=h; exact ⟨v,σ',H',I.unwish,r,q⟩
theorem PSs.nox {st:List Stmt} {t:TS} (h:PSs X.nox st t):PSs X st t:=fun pins s σ H D I hw =>
  wpAny_mono (h pins s σ H D (I.wish _) hw) (fun _ _ q=>q.unwish) fun _ _ z=>False.elim z
end
section
variable {X:Cx} {st:Stmt} {rest:List Stmt} {t u:TS} {e:Expr} {te:TE} {pos:Pos}
noncomputable def tNext:TS:=fun D σ H=>D.nx σ H
noncomputable def tSeq (t u:TS):TS:=fun D σ H=>t { D with nx:=u D } σ H
theorem pss_nil:PSs X [] tNext:=fun _ _ σ H _ I h=>wpAny_execs_nil ⟨σ,H,I,h⟩
theorem pss_cons (h1:PS X st t) (h2:PSs X rest u):PSs X (st :: rest) (tSeq t u):=by
  intro pins s σ H D I h
  refine wpAny_execs_cons (thn (h1 pins s σ H { D with nx:=u D } I h) fun f s1 q=>?_)
  cases f with
  | next =>
    obtain ⟨σ',H',I',q⟩:=q
    exact h2 pins s1 σ' H' D I' q
  | ret v=>exact q
  | brk=>exact q
  | cont=>exact q
theorem pss_one (h1:PS X st t):PSs X [st] t:=by
  intro pins s σ H D I h
  refine wpAny_execs_cons (thn (h1 pins s σ H D I h) fun f s1 q=>?_)
  cases f with
  | next=>exact wpAny_execs_nil q
  | ret v=>exact q
  | brk=>exact q
  | cont=>exact q
theorem Inv.quiet {pins:List (Addr × Obj)} {σ:St} {H:Hp} {s:Shared} (I:Inv X pins σ H s):interactive X.env = false:=by simp [interactive,I.ok.kind]
noncomputable def tDrop (te:TE):TS:=fun D σ H=>te σ H fun _ H1=>D.nx σ H1
theorem ps_expr (he:PE X e te) (hs:autoParam (swapsWith e none pos.line X.env = pure false) ZA.a3._auto_1):PS X (.Expr e pos) (tDrop te):=by
  intro pins s σ H D I h
  exact wpAny_Expr_any (thn (he pins s σ H _ I h) fun v s1 zz5=>zz5.elim fun x zz=>zz.elim fun H1 zz=>zz.elim fun I1 zz=>zz.elim fun r1 q1=>⟨σ,H1,I1,q1⟩) I.quiet hs
noncomputable def tRet (te:TE):TS:=fun D σ H=>te σ H D.rt
theorem ps_ret (he:PE X e te):PS X (.Return (some e) pos) (tRet te):=by
  intro pins s σ H D I h
  exact wpAny_Return_some (thn (he pins s σ H _ I h) fun v s1 zz6=>zz6.elim fun x zz=>zz.elim fun H1 zz=>zz.elim fun I1 zz=>zz.elim fun r1 q1=>⟨x,σ,H1,I1,r1,q1⟩)
noncomputable def tIfS (c:TT) (t u:TS):TS:=fun D σ H=>c σ H fun b H1=>if b = true then t D σ H1 else u D σ H1
theorem ps_if {c:Expr} {a b:List Stmt} {tc:TT} (hc:PT X c tc) (ha:PSs X a t) (hb:PSs X b u):PS X (.If c a b pos) (tIfS tc t u):=by
  intro pins s σ H D I h
  refine wpAny_If (thn (hc pins s σ H _ I h) fun d s1 zz7=>zz7.elim fun H1 zz=>zz.elim fun I1 q1=>?_)
  cases d with
  | true=>exact ha pins s1 σ H1 D I1 q1
  | false=>exact hb pins s1 σ H1 D I1 q1
end
noncomputable abbrev TG:=V→St→Hp→(St→Hp→Prop)→Prop
noncomputable abbrev TGs:=List V→St→Hp→(St→Hp→Prop)→Prop
noncomputable def PG (X:Cx) (target:Expr) (t:TG):Prop :=
  ∀ (pins:List (Addr × Obj)) (s:Shared) (σ:St) (H:Hp) (v:V) (u:Value) (Q:St→Hp→Prop),Inv X pins σ H s→RelV v u→t v σ H Q →
    wpAny (model X.prog X.w) X.A (assign target X.env u) (fun _ s'=>∃ σ' H',Inv X pins σ' H' s'∧Q σ' H') X.xe s
noncomputable def PGs (X:Cx) (ts:List Expr) (t:TGs):Prop :=
  ∀ (pins:List (Addr × Obj)) (s:Shared) (σ:St) (H:Hp) (vs:List V) (us:List Value) (Q:St→Hp→Prop),Inv X pins σ H s→Vals vs us→t vs σ H Q →
    wpAny (model X.prog X.w) X.A (assignInOrder ((assignEach ts X.env).map (·.2)) us) (fun _ s'=>∃ σ' H',Inv X pins σ' H' s'∧Q σ' H') X.xe s
section
variable {X:Cx} {pos:Pos}
noncomputable def gName (i:Nat):TG:=fun v σ H Q=>Q (σ.set i (some v)) H
theorem pg_name {i:Nat} {x:Str} (hN:X.N.Nodup) (hi:X.N[i]? = some x) (hx:Loc X.env.scope x) (hf:autoParam (X.fn x = true∨X.env.scope.names.lookup x = some .local) ZA.a1._auto_1):PG X (.Name x pos) (gName i):=by
  intro pins s σ H v u Q I r h
  exact wpAny_assign_Name (store_ok I hN hi hx r (fun s' I'=>⟨_,H,I',h⟩) hf)
noncomputable def gNil:TGs:=fun vs σ H Q=>vs = []∧Q σ H
noncomputable def gCons (t:TG) (u:TGs):TGs:=fun vs σ H Q=>∃ v r,vs = v :: r∧t v σ H fun σ' H'=>u r σ' H' Q
theorem pgs_nil:PGs X [] gNil:=by
  intro pins s σ H vs us Q I r h
  obtain ⟨e,h⟩:=h
  subst e
  cases r
  exact assignInOrder_nil ⟨σ,H,I,h⟩
theorem pgs_cons {e:Expr} {es:List Expr} {t:TG} {u:TGs} (h1:PG X e t) (h2:PGs X es u)
    (hs:autoParam ((assignEach (e :: es) X.env).map (·.2) = assign e X.env :: (assignEach es X.env).map (·.2)) ZA.a3._auto_1):PGs X (e :: es) (gCons t u):=by
  intro pins s σ H vs us Q I r h
  obtain ⟨v,vr,e1,h⟩:=h
  subst e1
  cases r with
  | cons r rr =>
    rw [hs]
    refine assignInOrder_cons (thn (h1 pins s σ H _ _ _ I r h) fun _ s1 zz8=>zz8.elim fun σ1 zz=>zz.elim fun H1 zz=>zz.elim fun I1 q1=>?_)
    exact h2 pins s1 σ1 H1 _ _ Q I1 rr q1
noncomputable def gTup (K:PySem.W.Frag) (n:Nat) (t:TGs):TG:=fun v σ H Q=>∃ a xs,v = .ref a∧SqT K H a xs∧xs.length = n∧t xs σ H Q
theorem pg_tup {es:List Expr} {k:Nat} {t:TGs} {n:Nat} (hc:X.calm = true) (h:PGs X es t)
    (hn:autoParam ((assignEach es X.env).length = n) ZA.a3._auto_1) (hst:autoParam ((assignEach es X.env).findIdx? (·.1) = none) ZA.a3._auto_1):PG X (.Tuple es k pos) (gTup X.K n t):=by
  intro pins s σ H v u Q I r hw
  obtain ⟨a,xs,e1,hq,hl,hw⟩:=hw
  subst e1
  cases r
  obtain ⟨its,rv,ht,hz⟩:=I.tuple hq
  refine assign_Tuple_tuple (I.ok.hd hc) ht (by simp [hn,← hl,rv.length]) hst fun h' hx=>?_
  have I1:Inv X pins σ H { s with heap:=h' }:=I.kept (t':=s.toks) fun b o e=>hx b o (Nat.ne_of_lt (Heap.lt_size e)) e
  exact h pins _ σ H xs _ Q I1 (by simpa using rv) hw
noncomputable def tAsg (te:TE) (g:TG):TS:=fun D σ H=>te σ H fun x H1=>g x σ H1 D.nx
theorem ps_set {i:Nat} {x:Str} {e:Expr} {te:TE} {pos':Pos} (hN:X.N.Nodup) (hi:X.N[i]? = some x) (hx:Loc X.env.scope x) (he:PE X e te) (hs:autoParam (swapsWith e (some (.Name x pos')) pos.line X.env = pure false) ZA.a3._auto_1) (hf:autoParam (X.fn x = true∨X.env.scope.names.lookup x = some .local) ZA.a1._auto_1) :
    PS X (.Assign [.Name x pos'] e pos) (tAsg te (gName i)):=by
  intro pins s σ H D I h
  refine wpAny_Assign_Name (thn (he pins s σ H _ I h) fun v s1 zz9=>zz9.elim fun y zz=>zz.elim fun H1 zz=>zz.elim fun I1 zz=>zz.elim fun r1 q1=>?_) hs
  exact store_ok I1 hN hi hx r1 (fun s2 I2=>⟨_,H1,I2,q1⟩) hf
end
section
variable {X:Cx} {pos:Pos}
end
structure It where
  go:Nat→Hp→Prop
  yld:Nat→Hp→V→Hp→Prop
  stop:Nat→Hp→Prop
noncomputable def FpOk (X:Cx) (pins:List (Addr × Obj)) (H:Hp) (b:Addr):Prop :=
  H b = none∧b ≠ X.env.locals∧b ∉ X.fs∧(b ∈ X.ex∨X.s₀.heap.objs.size ≤ b)∧(∀ x c,X.env.cells.lookup x = some c→c ≠ b)∧∀ p ∈ X.pn ++ pins,p.1 ≠ b
theorem Inv.fpOk {X:Cx} {pins:List (Addr × Obj)} {σ:St} {H H':Hp} {s:Shared} {b:Addr} (I:Inv X pins σ H s) (hb:s.heap.objs.size ≤ b) (hn:H' b = none):FpOk X pins H' b:=by
  refine ⟨hn,Nat.ne_of_gt (Nat.lt_of_lt_of_le I.lt hb),I.nofs hb,.inr (Nat.le_trans I.sz hb),fun x c e z=>?_,fun p hp z=>?_⟩
  · obtain ⟨v,q⟩:=I.cell x c e
    exact absurd (Nat.lt_of_lt_of_le q.lt (by rw [z]; exact hb)) (Nat.lt_irrefl _)
  · exact absurd (Nat.lt_of_lt_of_le (Heap.lt_size (I.pin p hp).1) (by rw [z]; exact hb)) (Nat.lt_irrefl _)
structure Turn (P:Program) (w:World) (K:PySem.W.Frag) (tg:Expr) (J:It) (fp:List Addr) (it:Addr) (tn:Nat→Heap→Prop):Prop where
  mem:it ∈ fp
  obj:∀ i h,tn i h→∀ b ∈ fp,∃ o,h.get? b = some o∧∀ v,o.data ≠ .cell v
  keep:∀ i h h',tn i h→(∀ b ∈ fp,∀ o,h.get? b = some o→h'.get? b = some o)→tn i h'
  item:∀ (X:Cx),X.prog = P→X.w = w→X.K = K→X.calm = true→∀ (i:Nat) (pins:List (Addr × Obj)) (s:Shared) (σ:St) (H:Hp) (E:Value→Shared→Prop),Inv X pins σ H s→(∀ b ∈ fp,FpOk X pins H b)→tn i s.heap→J.go i H →
    wpAny (model P w) X.A (pyNext (.ref it)) (fun r s1=>∃ u,r = some u ∧
      wpAny (model P w) X.A (letOwnedTupleGo tg (.ref it) u) (fun _ s2=>∃ x H',Inv X pins σ H' s2∧RelV x u∧J.yld i H x H'∧tn (i + 1) s2.heap∧∀ b ∈ fp,H' b = none) E s1) E s
  done:∀ (X:Cx),X.prog = P→X.w = w→X.K = K→X.calm = true→∀ (i:Nat) (pins:List (Addr × Obj)) (s:Shared) (σ:St) (H:Hp) (E:Value→Shared→Prop),Inv X pins σ H s→(∀ b ∈ fp,FpOk X pins H b)→tn i s.heap→J.stop i H →
    wpAny (model P w) X.A (pyNext (.ref it)) (fun r s1=>r = none∧Inv X pins σ H s1) E s
  self:∀ (A:Around) (i:Nat) (s:Shared) (Q:Value→Shared→Prop) (E:Value→Shared→Prop),tn i s.heap→Q (.ref it) s→wpAny (model P w) A (pyIter (.ref it)) Q E s
noncomputable abbrev TI:=St→Hp→(It→Hp→Prop)→Prop
noncomputable def PIE (X:Cx) (pins:List (Addr × Obj)) (σ:St) (tg:Expr) (R:It→Hp→Prop) (itv:Value) (s2:Shared):Prop :=
  ∃ (it:Addr) (fp:List Addr) (tn:Nat→Heap→Prop) (J:It) (H':Hp),itv = .ref it∧Inv X pins σ H' s2∧Turn X.prog X.w X.K tg J fp it tn∧tn 0 s2.heap∧(∀ b ∈ fp,FpOk X pins H' b)∧R J H'
noncomputable def PI (X:Cx) (tg iter:Expr) (wi:TI):Prop :=
  ∀ (pins:List (Addr × Obj)) (s:Shared) (σ:St) (H:Hp) (R:It→Hp→Prop),Inv X pins σ H s→wi σ H R →
    wpAny (model X.prog X.w) X.A (eval iter X.env) (fun v s1=>wpAny (model X.prog X.w) X.A (pyIter v) (PIE X pins σ tg R) X.xe s1) X.xe s
theorem go_of {M:Model} {A:Around} {E:Value→Shared→Prop} {s:Shared} {tg:Expr} {it:Addr} {u:Value} {o:Obj} {n:String} {vs:Array Value} {Q:Unit→Shared→Prop} (ho:s.heap.get? it = some o) (hc:o.cls = .type n) (hd:o.data = .fields vs)
    (hn:["enumerate","zip","dict_itemiterator","dict_reverseitemiterator","odict_iterator","itertools.zip_longest","itertools.pairwise"].contains n = false) (hQ:Q () s):wpAny M A (letOwnedTupleGo tg (.ref it) u) Q E s:=by
  unfold letOwnedTupleGo
  cases tg <;> first
    | exact wpAny_pure hQ
    | (cases u <;> first
        | exact wpAny_pure hQ
        | (refine wpAny_bind (wpAny_load ho ?_)
           rw [hc,hd]
           show wpAny M A (if (["enumerate","zip","dict_itemiterator","dict_reverseitemiterator","odict_iterator","itertools.zip_longest","itertools.pairwise"].contains n && vs[0]? == some (rawInt _)) = true then _ else _) Q E s
           rw [if_neg (by intro h; rw [hn,Bool.false_and] at h; cases h)]
           exact wpAny_pure hQ))
noncomputable def Itl (K:PySem.W.Frag) (a:Addr):It :=
  ⟨fun i H=>∃ xs x,SqL K H a xs∧xs[i]? = some x,fun i H x H'=>H' = H∧∀ xs,SqL K H a xs→xs[i]? = some x,fun i H=>∃ xs,SqL K H a xs∧xs.length ≤ i⟩
noncomputable def Itt (K:PySem.W.Frag) (a:Addr):It :=
  ⟨fun i H=>∃ xs x,SqT K H a xs∧xs[i]? = some x,fun i H x H'=>H' = H∧∀ xs,SqT K H a xs→xs[i]? = some x,fun i H=>∃ xs,SqT K H a xs∧xs.length ≤ i⟩
theorem turn_list {P:Program} {w:World} {K:PySem.W.Frag} {tg:Expr} (a it:Addr):Turn P w K tg (Itl K a) [it] it (fun i h=>h.IsListIter it a i) where
  mem:=by simp
  obj:=fun i h st b hb=>by
    have e:b = it:=by simpa using hb
    subst e
    obtain ⟨o,e,c,d⟩:=st
    exact ⟨o,e,fun v z=>by rw [d] at z; cases z⟩
  keep:=fun i h h' st k=>st.at fun o e=>k it (by simp) o e
  item:=by
    intro X hP hw hK hc i pins s σ H E I hf st hg
    subst hP hw hK
    obtain ⟨xs,x,hq,hx⟩:=hg
    obtain ⟨its,rv,p,hz⟩:=I.list hq
    obtain ⟨u,hu,ru⟩:=rv.get hx
    obtain ⟨f0,f1,f2,f3,f4,f5⟩:=hf it (by simp)
    refine wpAny_pyNext_list_item st p.isList (x:=u) (by simpa using hu) fun h' st' sb=>?_
    have I1:Inv X pins σ H { s with heap:=h' }:=I.turned (t':=s.toks) (fun b o hb e=>(sb.2 b hb).trans e) f0 f1 f3 f4 f5
    obtain ⟨o,e,c,d⟩:=id st'
    exact ⟨u,rfl,go_of (s:={ s with heap:=h' }) e c d (by decide) ⟨x,H,I1,ru,⟨rfl,fun ys hy=>by rw [I.list_inj hy hq]; exact hx⟩,st',fun b hb=>(hf b hb).1⟩⟩
  done:=by
    intro X hP hw hK hc i pins s σ H E I hf st hg
    subst hP hw hK
    obtain ⟨xs,hq,hx⟩:=hg
    obtain ⟨its,rv,p,hz⟩:=I.list hq
    obtain ⟨f0,f1,f2,f3,f4,f5⟩:=hf it (by simp)
    have hl:=rv.length
    exact wpAny_pyNext_list_end (I.ok.hd hc) st p.isList (by simp; omega) fun h' eb=>⟨rfl,I.turned (t':=s.toks) (fun b o hb e=>eb b o hb e) f0 f1 f3 f4 f5⟩
  self:=fun _ _ _ _ _ st h=>wpAny_pyIter_listiter st h
theorem turn_tuple {P:Program} {w:World} {K:PySem.W.Frag} {tg:Expr} (a it:Addr):Turn P w K tg (Itt K a) [it] it (fun i h=>h.IsTupleIter it a i) where
  mem:=by simp
  obj:=fun i h st b hb=>by
    have e:b = it:=by simpa using hb
    subst e
    obtain ⟨o,e,c,d⟩:=st
    exact ⟨o,e,fun v z=>by rw [d] at z; cases z⟩
  keep:=fun i h h' st k=>st.at fun o e=>k it (by simp) o e
  item:=by
    intro X hP hw hK hc i pins s σ H E I hf st hg
    subst hP hw hK
    obtain ⟨xs,x,hq,hx⟩:=hg
    obtain ⟨its,rv,p,hz⟩:=I.tuple hq
    obtain ⟨u,hu,ru⟩:=rv.get hx
    obtain ⟨f0,f1,f2,f3,f4,f5⟩:=hf it (by simp)
    refine wpAny_pyNext_tuple_item st (show s.heap.IsTuple a its.toArray from p) (x:=u) (by simpa using hu) fun h' st' sb=>?_
    have I1:Inv X pins σ H { s with heap:=h' }:=I.turned (t':=s.toks) (fun b o hb e=>(sb.2 b hb).trans e) f0 f1 f3 f4 f5
    obtain ⟨o,e,c,d⟩:=id st'
    exact ⟨u,rfl,go_of (s:={ s with heap:=h' }) e c d (by decide) ⟨x,H,I1,ru,⟨rfl,fun ys hy=>by rw [I.tuple_inj hy hq]; exact hx⟩,st',fun b hb=>(hf b hb).1⟩⟩
  done:=by
    intro X hP hw hK hc i pins s σ H E I hf st hg
    subst hP hw hK
    obtain ⟨xs,hq,hx⟩:=hg
    obtain ⟨its,rv,p,hz⟩:=I.tuple hq
    obtain ⟨f0,f1,f2,f3,f4,f5⟩:=hf it (by simp)
    have hl:=rv.length
    exact wpAny_pyNext_tuple_end (I.ok.hd hc) st (show s.heap.IsTuple a its.toArray from p) (by simp; omega) fun h' eb=>⟨rfl,I.turned (t':=s.toks) (fun b o hb e=>eb b o hb e) f0 f1 f3 f4 f5⟩
  self:=fun _ _ _ _ _ st h=>wpAny_pyIter_tupleiter st h
end L2
namespace L2
open PySem PySem.Spec PyProof.Rows
section
variable {X:Cx} {tg:Expr}
noncomputable def tFor (wi:TI) (g:TG) (tb:TS):TS:=fun D σ H=>wi σ H fun J H1=>∃ W:Nat→Nat→St→Hp→Prop,(∃ m,W 0 m σ H1)∧∀ i m σ H,W i m σ H →
  (J.stop i H∧D.nx σ H)∨(J.go i H∧∃ N:St→Hp→Prop,(∀ σ' H',N σ' H'→∃ m',m' < m∧W (i + 1) m' σ' H')∧∀ x H',J.yld i H x H'→g x σ H' fun σ2 H2=>tb { D with nx:=N,ct:=N,bk:=D.nx } σ2 H2)
noncomputable def pinsAt (fp:List Addr) (h:Heap):List (Addr × Obj):=fp.filterMap fun b=>(h.get? b).map fun o=>(b,o)
theorem mem_pinsAt {fp:List Addr} {h:Heap} {b:Addr} {o:Obj} (hb:b ∈ fp) (e:h.get? b = some o):(b,o) ∈ pinsAt fp h:=List.mem_filterMap.mpr ⟨b,hb,by rw [e]; rfl⟩
theorem of_pinsAt {fp:List Addr} {h:Heap} {p:Addr × Obj} (hp:p ∈ pinsAt fp h):p.1 ∈ fp∧h.get? p.1 = some p.2:=by
  obtain ⟨b,hb,e⟩:=List.mem_filterMap.mp hp
  cases q:h.get? b with
  | none=>rw [q] at e; cases e
  | some o =>
    rw [q] at e
    have e':(b,o) = p:=Option.some.inj e
    subst e'
    exact ⟨hb,q⟩
theorem Inv.pinned {pins:List (Addr × Obj)} {σ:St} {H:Hp} {s:Shared} {fp:List Addr} (I:Inv X pins σ H s) (hf:∀ b ∈ fp,FpOk X pins H b) (ho:∀ b ∈ fp,∃ o,s.heap.get? b = some o∧∀ v,o.data ≠ .cell v):Inv X (pins ++ pinsAt fp s.heap) σ H s :=
  I.pins_of fun p hp=>(List.mem_append.mp hp).elim (fun z=>I.pin p (List.mem_append_right _ z)) fun z=>by
    obtain ⟨hb,e⟩:=of_pinsAt z
    obtain ⟨f0,f1,f2,_⟩:=hf p.1 hb
    obtain ⟨o,e',d⟩:=ho p.1 hb
    rw [e] at e'; cases e'
    exact ⟨e,f0,f1,f2,d⟩
theorem Inv.unpinned {pins pl:List (Addr × Obj)} {σ:St} {H:Hp} {s:Shared} (I:Inv X (pins ++ pl) σ H s):Inv X pins σ H s:=I.pins_of fun p hp=>I.pin p (List.mem_append_right _ (List.mem_append_left _ hp))
theorem ps_for {iter:Expr} {body:List Stmt} {wi:TI} {g:TG} {tb:TS} {pos:Pos} (hp:PassesOwn (model X.prog X.w) X.A X.env X.xe) (hc:X.calm = true) (hi:PI X tg iter wi) (hg:PG X tg g) (hb:PSs X body tb)
    (hs:autoParam (∀ x,foldedSetIterable iter X.env x = pure x) ZA.a4._auto_1):PS X (.For tg iter body [] pos) (tFor wi g tb):=by
  intro pins s σ H D I h
  refine wpAny_For (thn (hi pins s σ H _ I h) fun v s1 h1=>thn h1 fun itv s2 h2=>?_) hs
  obtain ⟨it,fp,tn,J,H2,e,I2,T,st2,f2,W,⟨m0,w0⟩,turn⟩:=h2
  subst e
  have stat:∀ {H':Hp},(∀ b ∈ fp,H' b = none)→∀ b ∈ fp,FpOk X pins H' b:=fun hn b hb=>⟨hn b hb,(f2 b hb).2⟩
  refine codeAny_forLoop_any (fun n s'=>∃ i σ' H',Inv X pins σ' H' s'∧tn i s'.heap∧(∀ b ∈ fp,H' b = none)∧W i n σ' H') ?_ m0 ⟨0,σ,H2,I2,st2,fun b hb=>(f2 b hb).1,w0⟩
  rintro n s3 ⟨i,σ3,H3,I3,st3,fr3,w3⟩
  rcases turn i n σ3 H3 w3 with ⟨stop,qn⟩ | ⟨go,N,hN,step⟩
  · refine wpAny_passesOwn hp (thn (T.done X rfl rfl rfl hc i pins s3 σ3 H3 X.xe I3 (stat fr3) st3 stop) fun r s4 zz10=>zz10.elim fun hr I4=>?_)
    subst hr
    exact wpAny_execs_nil ⟨σ3,H3,I4,qn⟩
  · refine wpAny_passesOwn hp (thn (T.item X rfl rfl rfl hc i pins s3 σ3 H3 X.xe I3 (stat fr3) st3 go) fun r s4 zz11=>zz11.elim fun u zz=>zz.elim fun hr h4=>?_)
    subst hr
    refine wpAny_passesOwn hp (thn h4 fun _ s5 zz12=>zz12.elim fun x zz=>zz.elim fun H5 zz=>zz.elim fun I5 zz=>zz.elim fun r5 zz=>zz.elim fun y5 zz=>zz.elim fun st5 fr5=>?_)
    have I5':=I5.pinned (stat fr5) (T.obj _ _ st5)
    refine wpAny_passesOwn hp (thn (hg _ s5 σ3 H5 x u _ I5' r5 (step x H5 y5)) fun _ s6 zz13=>zz13.elim fun σ6 zz=>zz.elim fun H6 zz=>zz.elim fun I6 q6=>?_)
    refine wpAny_passesOwn hp (thn (hb _ s6 σ6 H6 _ I6 q6) fun f s7 q7=>?_)
    have again:∀ {σ7:St} {H7:Hp},Inv X (pins ++ pinsAt fp s5.heap) σ7 H7 s7→N σ7 H7→∃ m,m < n∧∃ i σ' H',Inv X pins σ' H' s7∧tn i s7.heap∧(∀ b ∈ fp,H' b = none)∧W i m σ' H':=fun {σ7 H7} I7 n7=>by
      obtain ⟨m',hm,w7⟩:=hN σ7 H7 n7
      refine ⟨m',hm,i + 1,σ7,H7,I7.unpinned,T.keep _ _ _ st5 fun b hb o e=>(I7.pin (b,o) (List.mem_append_right _ (List.mem_append_right _ (mem_pinsAt hb e)))).1,fun b hb=>?_,w7⟩
      obtain ⟨o,e,d⟩:=T.obj _ _ st5 b hb
      exact (I7.pin (b,o) (List.mem_append_right _ (List.mem_append_right _ (mem_pinsAt hb e)))).2.1
    cases f with
    | next=>obtain ⟨σ7,H7,I7,n7⟩:=q7; exact again I7 n7
    | cont=>obtain ⟨σ7,H7,I7,n7⟩:=q7; exact again I7 n7
    | brk=>obtain ⟨σ7,H7,I7,q7⟩:=q7; exact ⟨σ7,H7,I7.unpinned,q7⟩
    | ret v=>obtain ⟨x7,σ7,H7,I7,r7,q7⟩:=q7; exact ⟨x7,σ7,H7,I7.unpinned,r7,q7⟩
end
end L2
namespace L2
open PySem PySem.Spec PyProof.Rows
noncomputable abbrev R2:=V→V→Hp→VK→Prop
noncomputable def OpR (X:Cx) (f:Value→Value→Sem Value) (r:R2):Prop :=
  ∀ (pins:List (Addr × Obj)) (s:Shared) (σ:St) (H:Hp) (x y:V) (v u:Value) (Q:VK),Inv X pins σ H s→RelV x v→RelV y u→r x y H Q →
    wpAny (model X.prog X.w) X.A (f v u) (EP X pins σ Q) X.xe s
noncomputable def CallR (X:Cx) (f:Value) (r:List V→Hp→VK→Prop):Prop :=
  ∀ (pins:List (Addr × Obj)) (s:Shared) (σ:St) (H:Hp) (xs:List V) (us:List Value) (Q:VK),Inv X pins σ H s→Vals xs us→r xs H Q →
    wpAny (model X.prog X.w) X.A (call f us) (EP X pins σ Q) X.xe s
noncomputable def TruR (X:Cx) (r:V→Hp→(Bool→Hp→Prop)→Prop):Prop :=
  ∀ (pins:List (Addr × Obj)) (s:Shared) (σ:St) (H:Hp) (x:V) (v:Value) (Q:Bool→Hp→Prop),Inv X pins σ H s→RelV x v→r x H Q →
    wpAny (model X.prog X.w) X.A (truthy v) (TP X pins σ Q) X.xe s
noncomputable def tOp (r:R2) (ta tb:TE):TE:=fun σ H Q=>ta σ H fun x H1=>tb σ H1 fun y H2=>r x y H2 Q
noncomputable def rI (C:Int→Int→Prop) (g:Int→Int→V):R2:=fun x y H Q=>∃ i j,x = .int i∧y = .int j∧C i j∧Q (g i j) H
noncomputable def rI0 (g:Int→Int→V):R2:=fun x y H Q=>∃ i j,x = .int i∧y = .int j∧Q (g i j) H
section
variable {X:Cx} {a b c:Expr} {ta tb tc:TE} {pos:Pos}
theorem binT (ha:PE X a ta) (hb:PE X b tb) {pins:List (Addr × Obj)} {s:Shared} {σ:St} {H:Hp} {R:V→V→Hp→Prop} (I:Inv X pins σ H s)
    (h:ta σ H fun x H1=>tb σ H1 fun y H2=>R x y H2) {Q:Value→Shared→Prop} {f:Value→Value→Sem Value}
    (hf:∀ v u s2 x y H2,Inv X pins σ H2 s2→RelV x v→RelV y u→R x y H2→wpAny (model X.prog X.w) X.A (f v u) Q X.xe s2) :
    wpAny (model X.prog X.w) X.A (eval a X.env) (fun v s₁=>wpAny (model X.prog X.w) X.A (eval b X.env) (fun u s₂=>wpAny (model X.prog X.w) X.A (f v u) Q X.xe s₂) X.xe s₁) X.xe s:=by
  refine thn (ha pins s σ H _ I h) fun v s1 zz14=>zz14.elim fun x zz=>zz.elim fun H1 zz=>zz.elim fun I1 zz=>zz.elim fun r1 q1=>?_
  refine thn (hb pins s1 σ H1 _ I1 q1) fun u s2 zz15=>zz15.elim fun y zz=>zz.elim fun H2 zz=>zz.elim fun I2 zz=>zz.elim fun r2 q2=>?_
  exact hf v u s2 x y H2 I2 r1 r2 q2
theorem pe_op {op:Operator} {r:R2} (ho:OpR X (binaryOp op) r) (ha:PE X a ta) (hb:PE X b tb):PE X (.BinOp a op b pos) (tOp r ta tb):=by
  intro pins s σ H Q I h
  exact wpAny_BinOp (binT ha hb I h fun v u s2 x y H2 I2 rx ry q=>ho pins s2 σ H2 x y v u Q I2 rx ry q)
theorem opI {f:Value→Value→Sem Value} {C:Int→Int→Prop} {g:Int→Int→Int}
    (rule:∀ (i j:Int) (t u:Tok) (s:Shared) (Q:Value→Shared→Prop) (E:Value→Shared→Prop),C i j→Q (.int (g i j) s.toks) { s with toks:=s.toks + 1 }→wpAny (model X.prog X.w) X.A (f (.int i t) (.int j u)) Q E s) :
    OpR X f (rI C fun i j=>.int (g i j)):=by
  intro pins s σ H x y v u Q I rx ry h
  obtain ⟨i,j,rfl,rfl,hc,q⟩:=h
  obtain ⟨t,rfl⟩:=rx
  obtain ⟨t',rfl⟩:=ry
  exact rule i j t t' s _ _ hc ⟨.int (g i j),H,I.tok _,⟨_,rfl⟩,q⟩
theorem opI0 {f:Value→Value→Sem Value} {g:Int→Int→Int}
    (rule:∀ (i j:Int) (t u:Tok) (s:Shared) (Q:Value→Shared→Prop) (E:Value→Shared→Prop),Q (.int (g i j) s.toks) { s with toks:=s.toks + 1 }→wpAny (model X.prog X.w) X.A (f (.int i t) (.int j u)) Q E s) :
    OpR X f (rI0 fun i j=>.int (g i j)):=by
  intro pins s σ H x y v u Q I rx ry h
  obtain ⟨i,j,rfl,rfl,q⟩:=h
  obtain ⟨t,rfl⟩:=rx
  obtain ⟨t',rfl⟩:=ry
  exact rule i j t t' s _ _ ⟨.int (g i j),H,I.tok _,⟨_,rfl⟩,q⟩
theorem opB0 {f:Value→Value→Sem Value} {g:Int→Int→Bool}
    (rule:∀ (i j:Int) (t u:Tok) (s:Shared) (Q:Value→Shared→Prop) (E:Value→Shared→Prop),Q (.bool (g i j)) s→wpAny (model X.prog X.w) X.A (f (.int i t) (.int j u)) Q E s) :
    OpR X f (rI0 fun i j=>.bl (g i j)):=by
  intro pins s σ H x y v u Q I rx ry h
  obtain ⟨i,j,rfl,rfl,q⟩:=h
  obtain ⟨t,rfl⟩:=rx
  obtain ⟨t',rfl⟩:=ry
  exact rule i j t t' s _ _ ⟨.bl (g i j),H,I,rfl,q⟩
noncomputable def CDiv (i j:Int):Prop:=0 < j∧j < 1073741824
noncomputable def CMul (i j:Int):Prop:=(-(2 ^ 64) < i∧i < 2 ^ 64)∨(-(2 ^ 64) < j∧j < 2 ^ 64)
theorem CMul.ok {i j:Int} (h:CMul i j):IntMulOk i j:=by
  rcases h with ⟨h1,h2⟩ | ⟨h1,h2⟩
  · exact .of_left (intBits_le_64 h1 h2)
  · exact .of_right (intBits_le_64 h1 h2)
theorem op_add:OpR X (binaryOp .Add) (rI0 fun i j=>.int (i + j)):=opI0 fun _ _ _ _ _ _ _ q=>add_int q
theorem op_sub:OpR X (binaryOp .Sub) (rI0 fun i j=>.int (i - j)):=opI0 fun _ _ _ _ _ _ _ q=>sub_int q
theorem op_mul:OpR X (binaryOp .Mult) (rI CMul fun i j=>.int (i * j)):=opI fun _ _ _ _ _ _ _ hc q=>mul_int q hc.ok
theorem op_fdiv:OpR X (binaryOp .FloorDiv) (rI CDiv fun i j=>.int (i / j)):=opI fun i j _ _ _ _ _ hc q=>by
  have h1:(0:Int) < j:=hc.1
  have h2:j < 1073741824:=hc.2
  exact floordiv_int (by omega) (by rw [Int.fdiv_eq_ediv_of_nonneg i (by omega)]; exact q) (.inl (PyProof.noPylong_small (by omega)))
theorem op_mod:OpR X (binaryOp .Mod) (rI (fun _ j=>0 < j) fun i j=>.int (i % j)):=opI fun i j _ _ _ _ _ hc q=>by
  have h1:(0:Int) < j:=hc
  exact mod_int' (by omega) (by rw [Int.fmod_eq_emod_of_nonneg i (by omega)]; exact q)
end
section
variable {X:Cx} {a b c:Expr} {ta tb tc:TE} {pos:Pos}
theorem fin_bl {pins:List (Addr × Obj)} {σ:St} {H:Hp} {s:Shared} {Q:VK} {k k':Bool} (I:Inv X pins σ H s) (q:Q (.bl k) H) (e:k = k'):EP X pins σ Q (.bool k') s:=by
  subst e
  exact ⟨.bl k,H,I,rfl,q⟩
theorem op_lt:OpR X (compareOp .Lt) (rI0 fun i j=>.bl (decide (i < j))):=opB0 fun _ _ _ _ _ _ _ q=>lt_int q
theorem op_le:OpR X (compareOp .LtE) (rI0 fun i j=>.bl (decide (i ≤ j))):=opB0 fun _ _ _ _ _ _ _ q=>le_int q
theorem op_gt:OpR X (compareOp .Gt) (rI0 fun i j=>.bl (decide (j < i))):=opB0 fun _ _ _ _ _ _ _ q=>gt_int q
theorem op_isN:OpR X (compareOp .Is) (fun x y H Q=>y = .non∧Q (.bl (decide (x = .non))) H):=by
  intro pins s σ H x y v u Q I rx ry h
  obtain ⟨rfl,q⟩:=h
  cases ry
  refine is_none_gen (fin_bl I q ?_)
  cases x <;> first
    | (cases rx; rfl)
    | (obtain ⟨t,rfl⟩:=rx; rfl)
theorem op_notN:OpR X (compareOp .IsNot) (fun x y H Q=>y = .non∧Q (.bl (!decide (x = .non))) H):=by
  intro pins s σ H x y v u Q I rx ry h
  obtain ⟨rfl,q⟩:=h
  cases ry
  refine isnot_none_gen (fin_bl I q ?_)
  cases x <;> first
    | (cases rx; rfl)
    | (obtain ⟨t,rfl⟩:=rx; rfl)
theorem nomark (b:Expr) {op:CmpOp} (h:autoParam (op ≠ .In) ZA.a2._auto_1) (h2:autoParam (op ≠ .NotIn) ZA.a2._auto_1):behindInMarks op b = false:=by
  have e1:(op == CmpOp.In) = false:=by cases op <;> first | rfl | exact absurd rfl h
  have e2:(op == CmpOp.NotIn) = false:=by cases op <;> first | rfl | exact absurd rfl h2
  cases b <;> simp [behindInMarks,e1,e2]
theorem pe_cmpR {op:CmpOp} {r:R2} (ho:OpR X (compareOp op) r) (ha:PE X a ta) (hb:PE X b tb) (hm:behindInMarks op b = false):PE X (.Compare a [op] [b] pos) (tOp r ta tb):=by
  intro pins s σ H Q I h
  exact wpAny_Compare1 (binT ha hb I h fun v u s2 x y H2 I2 rx ry q=>ho pins s2 σ H2 x y v u Q I2 rx ry q) hm
noncomputable def tTest (t:TE):TT:=fun σ H Q=>t σ H fun x H'=>∃ k,x = .bl k∧Q k H'
theorem pt_cmpR {op:CmpOp} {r:R2} (ho:OpR X (compareOp op) r) (ha:PE X a ta) (hb:PE X b tb) (hm:behindInMarks op b = false):PT X (.Compare a [op] [b] pos) (tTest (tOp r ta tb)):=by
  intro pins s σ H Q I h
  refine wpAny_isTrue_Compare1 (thn (ha pins s σ H _ I h) fun v s1 zz16=>zz16.elim fun x zz=>zz.elim fun H1 zz=>zz.elim fun I1 zz=>zz.elim fun r1 q1=>thn (hb pins s1 σ H1 _ I1 q1) fun u s2 zz17=>zz17.elim fun y zz=>zz.elim fun H2 zz=>zz.elim fun I2 zz=>zz.elim fun r2 q2 =>
    thn (ho pins s2 σ H2 x y v u _ I2 r1 r2 q2) fun c s3 zz18=>zz18.elim fun z zz=>zz.elim fun H3 zz=>zz.elim fun I3 zz=>zz.elim fun r3 zz=>zz.elim fun k zz=>zz.elim fun e q3=>?_) hm
  subst e
  cases r3
  exact wpAny_truthy_bool ⟨H3,I3,q3⟩
noncomputable def TruV (K:PySem.W.Frag) (x:V) (H:Hp) (k:Bool):Prop :=
  match x with
  | .non=>k = false
  | .bl b=>k = b
  | .int i=>k = (i != 0)
  | .str y=>y.length ≤ sizeLine∧k = ((y.length:Int) != 0)
  | .byt y=>y.size ≤ sizeLine∧k = ((y.size:Int) != 0)
  | .ref p=>(∃ xs,SqL K H p xs∧k = !xs.isEmpty)∨(∃ xs,SqT K H p xs∧k = !xs.isEmpty)∨∃ kvs,H p = some (.dK kvs)∧k = !kvs.isEmpty
  | _=>False
theorem isEmpty_kv {κ:Type} {kvs:List (κ × V)} {vs:List (κ × Value)} (r:KV kvs vs):(!vs.isEmpty) = !kvs.isEmpty:=by
  cases r <;> rfl
theorem isEmpty_of {xs:List V} {its:List Value} (r:Vals xs its):(!its.toArray.isEmpty) = !xs.isEmpty:=by
  cases r <;> simp
theorem line63:(sizeLine:Nat) < 2 ^ 63:=by rw [sizeLine_eq]; decide
theorem tru_ok:TruR X (fun x H Q=>∃ k,TruV X.K x H k∧Q k H):=by
  intro pins s σ H x v Q I rx h
  obtain ⟨k,e,q⟩:=h
  have hl:=line63
  have hs:sizeLine = 16777216:=sizeLine_eq
  cases x with
  | non =>
    cases rx
    have e':k = false:=e
    subst e'
    exact truthy_none ⟨H,I,q⟩
  | bl b =>
    cases rx
    have e':k = b:=e
    subst e'
    exact wpAny_truthy_bool ⟨H,I,q⟩
  | int i =>
    obtain ⟨t,rfl⟩:=rx
    have e':k = (i != 0):=e
    subst e'
    exact PySem.P.truthy_int ⟨H,I,q⟩
  | str y =>
    obtain ⟨t,rfl⟩:=rx
    obtain ⟨hy,e'⟩ : y.length ≤ sizeLine∧k = ((y.length : Int) != 0):=e
    subst e'
    exact PySem.P.truthy_str (by omega) ⟨H,I.tok _,q⟩
  | byt y =>
    obtain ⟨t,rfl⟩:=rx
    obtain ⟨hy,e'⟩ : y.size ≤ sizeLine∧k = ((y.size : Int) != 0):=e
    subst e'
    exact PySem.W.truthy_bytes (by omega) ⟨H,I.tok _,q⟩
  | ref p =>
    cases rx
    have e':(∃ xs,SqL X.K H p xs∧k = !xs.isEmpty)∨(∃ xs,SqT X.K H p xs∧k = !xs.isEmpty)∨∃ kvs,H p = some (.dK kvs)∧k = !kvs.isEmpty:=e
    rcases e' with ⟨xs,hx,e'⟩ | ⟨xs,hx,e'⟩ | ⟨kvs,hx,e'⟩
    · subst e'
      obtain ⟨its,r,pl,hz⟩:=I.list hx
      have hlen:=r.length
      exact wpAny_truthy_list pl.isList (by simp only [List.size_toArray]; omega) ⟨H,I.tok _,by rw [isEmpty_of r]; exact q⟩
    · subst e'
      obtain ⟨its,r,pl,hz⟩:=I.tuple hx
      have hlen:=r.length
      exact truthy_tuple pl (by simp only [List.size_toArray]; omega) ⟨H,I.tok _,by rw [isEmpty_of r]; exact q⟩
    · subst e'
      obtain ⟨hz,hS,vs,r,m⟩ : kvs.length ≤ sizeLine∧(p == sysModules) = false∧∃ vs,KV kvs vs∧s.heap.DictOf (mixKind X.prog X.w) p vs:=I.hok p _ hx
      have hlen:kvs.length = vs.length:=Paired.length r
      exact wpAny_truthy_dict hS m (by omega) ⟨H,I.tok _,by rw [isEmpty_kv r]; exact q⟩
  | _=>exact (show False from e).elim
theorem pt_truth (ha:PE X a ta) (he:∀ whole,isTrue a X.env whole = (do let v ← whole; standAt a.pos; holding [v] (truthy v))) :
    PT X a (fun σ H Q=>ta σ H fun x H'=>∃ k,TruV X.K x H' k∧Q k H'):=by
  intro pins s σ H Q I h
  exact isTrue_plain (thn (ha pins s σ H _ I h) fun v s1 zz19=>zz19.elim fun x zz=>zz.elim fun H1 zz=>zz.elim fun I1 zz=>zz.elim fun r1 q1=>tru_ok pins s1 σ H1 x v Q I1 r1 q1) (he _)
theorem op_add_str:OpR X (binaryOp .Add) (fun x y H Q=>∃ i j,x = .str i∧y = .str j∧i.length + j.length ≤ sizeLine∧Q (.str (i ++ j)) H):=by
  intro pins s σ H x y v u Q I rx ry h
  obtain ⟨i,j,rfl,rfl,hz,q⟩:=h
  obtain ⟨t,rfl⟩:=rx
  obtain ⟨t',rfl⟩:=ry
  exact add_str (fun t' tk=>⟨.str (i ++ j),H,I.tok _,⟨_,rfl⟩,q⟩) hz
theorem vals1 {x:V} {us:List Value} (r:Vals [x] us):∃ u,us = [u]∧RelV x u:=by
  cases r with
  | cons r1 r2=>cases r2; exact ⟨_,rfl,r1⟩
theorem vals2 {x y:V} {us:List Value} (r:Vals [x,y] us):∃ u w',us = [u,w']∧RelV x u∧RelV y w':=by
  cases r with
  | cons r1 r2 =>
    cases r2 with
    | cons r3 r4=>cases r4; exact ⟨_,_,rfl,r1,r3⟩
theorem call_max2 (hc:X.calm = true):CallR X (.builtin "max") (fun xs H Q=>∃ i j,xs = [.int i,.int j]∧Q (.int (if j > i then j else i)) H):=by
  intro pins s σ H xs us Q I r h
  obtain ⟨i,j,rfl,q⟩:=h
  obtain ⟨u,w',rfl,⟨t,rfl⟩,⟨t',rfl⟩⟩:=vals2 r
  refine max_two_ints (I.ok.hd hc) fun h' tk k=>⟨_,H,I.kept k,?_,q⟩
  by_cases hj:j > i
  · rw [if_pos hj,if_pos hj]; exact ⟨_,rfl⟩
  · rw [if_neg hj,if_neg hj]; exact ⟨_,rfl⟩
theorem call_min2 (hc:X.calm = true):CallR X (.builtin "min") (fun xs H Q=>∃ i j,xs = [.int i,.int j]∧Q (.int (if j < i then j else i)) H):=by
  intro pins s σ H xs us Q I r h
  obtain ⟨i,j,rfl,q⟩:=h
  obtain ⟨u,w',rfl,⟨t,rfl⟩,⟨t',rfl⟩⟩:=vals2 r
  refine min_two_ints (I.ok.hd hc) fun h' tk k=>⟨_,H,I.kept k,?_,q⟩
  by_cases hj:j < i
  · rw [if_pos hj,if_pos hj]; exact ⟨_,rfl⟩
  · rw [if_neg hj,if_neg hj]; exact ⟨_,rfl⟩
end
end L2
namespace L2
open PySem PySem.Spec PyProof.Rows
structure ObjM (h:Heap) (x dx C:Addr) (mA:Str→Option Value):Prop where
  obj:h.get? x = some (PySem.W.instObj C dx)
  ns:h.Ns1 dx mA
  ne:dx ≠ x
theorem lookIn_ns {h:Heap} {dx:Addr} {mA:Str→Option Value} (n:h.Ns1 dx mA):∃ od,h.get? dx = some od∧∀ name,PySem.W.lookIn name od = some (mA name):=by
  obtain ⟨o,es,ep,ho,hd,hk,_,hm⟩:=n
  refine ⟨o,ho,fun name=>?_⟩
  have e:=hm name
  unfold nsFind findBy at e
  rw [← Array.find?_toList] at e
  unfold PySem.W.lookIn
  rw [hd]
  dsimp only
  split
  · rename_i y q
    rw [q] at e
    exact congrArg some e
  · rename_i q
    rw [q] at e
    have a:es.toList.any (·.refKey) = false:=by
      rw [List.any_eq_false]
      intro y hy
      obtain ⟨z,t,hkey⟩:=hk y (Array.mem_toList_iff.mp hy)
      simp [DictEntry.refKey,hkey]
    have a':¬ es.toList.any (·.refKey) = true:=by rw [a]; exact Bool.false_ne_true
    rw [if_neg a']
    exact congrArg some e
theorem ObjM.look {h:Heap} {x dx C:Addr} {mA:Str→Option Value} (I:ObjM h x dx C mA):∃ od,PySem.W.InstAt h x (PySem.W.instObj C dx) C (some od)∧∀ name,PySem.W.lookIn name od = some (mA name) :=
  let ⟨od,ho,hl⟩:=lookIn_ns I.ns
  ⟨od,⟨I.obj,rfl,rfl,ho⟩,hl⟩
section
variable {prog:Program} {w:World} {A:Around} {E:Value→Shared→Prop} {s:Shared} {K:PySem.W.Frag} {x dx C f:Addr} {mA:Str→Option Value} {name:Str} {v:Value}
theorem get_map {expr:Bool} {Q:Value→Shared→Prop} (X:K.In s.heap) (I:ObjM s.heap x dx C mA) (hg:PySem.W.plainGet K C name = true) (hh:PySem.W.hasDictIn K C = true)
    (ha:PySem.W.findIn K (.ref C) name = some none) (hv:mA name = some v) (hv':PySem.W.handedIn v = true) (h:Q v { s with toks:=s.toks + 1 }) :
    wpAny (model prog w) A (getAttr (.ref x) name expr) Q E s:=by
  obtain ⟨od,J,hl⟩:=I.look
  exact PySem.W.get_value X J (PySem.W.plainGet_of hg).1 (PySem.W.findObj_own hh ha rfl (by rw [hl,hv])) hv' h
theorem get_meth {pl:Sem Bool} {Q:Value × List Value→Shared→Prop} (X:K.In s.heap) (I:ObjM s.heap x dx C mA) (hg:PySem.W.plainGet K C name = true)
    (hf:PySem.W.findIn K (.ref C) name = some (some (.ref f))) (ht:PySem.W.isFn K (.ref f) = true) (hv:mA name = none) (h:Q (.ref f,[.ref x]) s) :
    wpAny (model prog w) A (getMethod (.ref x) name pl) Q E s:=by
  obtain ⟨od,J,hl⟩:=I.look
  exact PySem.W.method_fn X J (PySem.W.plainGet_of hg).1 (PySem.W.plainGet_of hg).2 hf (beq_iff_eq.mp ht) (by show (PySem.W.lookIn name od).map (·.isSome) = some false; rw [hl,hv]; rfl) h
theorem set_map {ns:List Str} {Q:Unit→Shared→Prop} (X:K.In s.heap) (I:ObjM s.heap x dx C mA)
    (hs:PySem.W.findIn K (.ref C) "__setattr__" = some (some (.builtin "object.__setattr__"))) (hp:PySem.W.plainOver K C = true) (ht:PySem.W.takerIn K C name = some none) (hh:PySem.W.hasDictIn K C = true)
    (hw:PySem.Within mA ns) (hsz:ns.length ≤ sizeLine)
    (h:∀ h',ObjM h' x dx C (fun y=>if y = name then some v else mA y)→Heap.SameBut dx s.heap h'→Q () { s with heap:=h',toks:=s.toks + 2 }) :
    wpAny (model prog w) A (setAttr (.ref x) name v) Q E s:=by
  obtain ⟨od,J,hl⟩:=I.look
  refine PySem.W.set_plain X J hs (PySem.W.osa_open (s:={ s with toks:=s.toks + 1 }) (r:=none) X J hp ht fun b=>?_)
  obtain ⟨cd,hc,hd'⟩:=PySem.W.any_some hh
  have hx:s.heap.get? x = some ⟨.ref C,some dx,.plain,#[]⟩:=I.obj
  refine wpAny_bind (wpAny_pure (wpAny_bind (wpAny_bind (wpAny_loadPart hx (wpAny_bind (PySem.W.Looks.here (s:={ s with toks:=s.toks + 1 }) (PySem.W.looks_clsIn X hc) ?_))))))
  rw [hd']
  refine wpAny_pure (a:=some dx) (wpAny_bind (wpAny_pure (wpAny_bind ?_)))
  refine wpAny_nsSet1 (s:={ s with toks:=s.toks + 1 }) I.ns fun h' hn2 hs2=>?_
  obtain ⟨oD,esD,epD,hoD,hdD,hcD⟩:=hn2.count (PySem.Within.cons name v hw)
  refine wpAny_bind (wpAny_lookBehind hoD (by rw [hdD]; exact pastItsLine_dict (Nat.le_trans hcD (by rw [List.length_cons]; omega))) ?_)
  exact wpAny_pure (h _ ⟨(hs2.2 _ (Ne.symm I.ne)).trans I.obj,hn2,I.ne⟩ hs2)
theorem make_map {R:Result→Shared→Prop} {vs:List Value} {kw:List (Str × Value)} (X:K.In s.heap) (hm:PySem.W.makesIn K C = true)
    (hi:PySem.W.findIn K (.ref C) "__init__" = some (some (.ref f))) (hf:PySem.W.typeIn K (.ref f) = some (.type "function"))
    (h:codeAny (model prog w) (A.under (.builtin "type.__call__" ⟨.ref C :: vs,kw⟩)) (.call (.ref f) ⟨.ref (s.heap.objs.size + 1) :: vs,kw⟩) (PySem.W.InitBack (s.heap.objs.size + 1) R)
      { s with heap:=(s.heap.push PySem.W.emptyDict).push (PySem.W.instObj C s.heap.objs.size) }) :
    codeAny (model prog w) A (.call (.ref C) ⟨vs,kw⟩) R s:=by
  obtain ⟨hh,g,d,t,os⟩:=s
  exact PySem.W.make_core (PySem.W.makes_of X hm) (PySem.W.looks_findIn X hi) (fun self=>PySem.W.bind_fn X self hf) (.inl rfl) h
end
noncomputable def putF (f:Str) (v:V):List (Str × V)→List (Str × V)
  | []=>[(f,v)]
  | (g,x) :: r=>if g = f then (g,v) :: r else (g,x) :: putF f v r
theorem lookup_putF (f g:Str) (v:V):∀ fs:List (Str × V),(putF f v fs).lookup g = if g = f then some v else fs.lookup g
  | []=>by
    show List.lookup g [(f,v)] = _
    by_cases h:g = f
    · have hb:(g == f) = true:=beq_iff_eq.mpr h
      simp only [List.lookup,hb,if_pos h]
    · have hb:(g == f) = false:=beq_eq_false_iff_ne.mpr h
      simp only [List.lookup,hb,if_neg h]
  | (k,x) :: r=>by
    have ih:=lookup_putF f g v r
    rw [show putF f v ((k,x) :: r) = (if k = f then (k,v) :: r else (k,x) :: putF f v r) from rfl]
    by_cases hk:k = f
    · rw [if_pos hk]
      by_cases h:g = k
      · have hb:(g == k) = true:=beq_iff_eq.mpr h
        simp only [List.lookup,hb,if_pos (h.trans hk)]
      · have hb:(g == k) = false:=beq_eq_false_iff_ne.mpr h
        simp only [List.lookup,hb,if_neg (fun e:g = f=>h (e.trans hk.symm))]
    · rw [if_neg hk]
      by_cases h:g = k
      · have hb:(g == k) = true:=beq_iff_eq.mpr h
        simp only [List.lookup,hb,if_neg (fun e:g = f=>hk (h.symm.trans e))]
      · have hb:(g == k) = false:=beq_eq_false_iff_ne.mpr h
        simp only [List.lookup,hb]
        exact ih
theorem keys_putF (f:Str) (v:V):∀ fs:List (Str × V),f ∈ (putF f v fs).map (·.1)∧∀ g,g ∈ fs.map (·.1)→g ∈ (putF f v fs).map (·.1)
  | []=>⟨by simp [putF],fun g h=>by simp at h⟩
  | (k,x) :: r=>by
    obtain ⟨i1,i2⟩:=keys_putF f v r
    rw [show putF f v ((k,x) :: r) = (if k = f then (k,v) :: r else (k,x) :: putF f v r) from rfl]
    by_cases hk:k = f
    · rw [if_pos hk]
      subst hk
      exact ⟨by simp,fun g h=>by simpa using h⟩
    · rw [if_neg hk]
      refine ⟨?_,fun g h=>?_⟩
      · rw [List.map_cons]
        exact List.mem_cons_of_mem _ i1
      · rw [List.map_cons] at h ⊢
        rcases List.mem_cons.mp h with e | e
        · exact List.mem_cons.mpr (.inl e)
        · exact List.mem_cons_of_mem _ (i2 g e)
theorem length_putF (f:Str) (v:V):∀ fs:List (Str × V),(putF f v fs).length ≤ fs.length + 1
  | []=>by simp [putF]
  | (k,x) :: r=>by
    have ih:=length_putF f v r
    rw [show putF f v ((k,x) :: r) = (if k = f then (k,v) :: r else (k,x) :: putF f v r) from rfl]
    by_cases hk:k = f
    · rw [if_pos hk,List.length_cons,List.length_cons]; omega
    · rw [if_neg hk,List.length_cons,List.length_cons]; omega
theorem RelO.some_of {v:V} {o:Option Value} (r:RelO (some v) o):∃ u,o = some u∧RelV v u:=by
  cases o with
  | none=>exact (show False from r).elim
  | some u=>exact ⟨u,rfl,r⟩
theorem RelO.none_of {o:Option Value} (r:RelO none o):o = none:=by
  cases o with
  | none=>rfl
  | some u=>exact (show False from r).elim
theorem handed_of {v:V} {u:Value} (r:RelV v u):PySem.W.handedIn u = true:=by
  cases v with
  | non=>cases (show u = Value.none from r); rfl
  | bl b=>cases (show u = Value.bool b from r); rfl
  | int i=>obtain ⟨t,e⟩:=(show ∃ t,u = Value.int i t from r); cases e; rfl
  | str x=>obtain ⟨t,e⟩:=(show ∃ t,u = Value.str x t from r); cases e; rfl
  | byt b=>obtain ⟨t,e⟩:=(show ∃ t,u = Value.bytes b t from r); cases e; rfl
  | flt b=>obtain ⟨t,e⟩:=(show ∃ t,u = Value.float b t from r); cases e; rfl
  | ref a=>cases (show u = Value.ref a from r); rfl
  | ty n=>cases (show u = Value.type n from r); rfl
section
variable {P:Program} {w:World} {H H':Hp} {h h':Heap} {a C dx:Addr} {fs fs':List (Str × V)}
theorem ins_get (hok:HOk P w H h) (e:H a = some (.ins C dx fs)):∃ mA,ObjM h a dx C mA∧(∀ f,RelO (fs.lookup f) (mA f))∧PySem.Within mA (fs.map (·.1))∧fs.length ≤ 1000∧H dx = some (.own a):=by
  obtain ⟨d,z,ne,ob,mA,n,r,q⟩:=(show ObjOk P w H h a (.ins C dx fs) from hok a _ e)
  exact ⟨mA,⟨ob,n,ne⟩,r,q,z,d⟩
end
structure Cls (K:PySem.W.Frag) (C:Addr):Prop where
  pg:PySem.W.plainGet K C Str.empty = true
  hd:PySem.W.hasDictIn K C = true
  po:PySem.W.plainOver K C = true
  sa:PySem.W.findIn K (.ref C) "__setattr__" = some (some (.builtin "object.__setattr__"))
theorem Cls.get {K:PySem.W.Frag} {C:Addr} (c:Cls K C) (f:Str):PySem.W.plainGet K C f = true:=c.pg
noncomputable def NoAttr (K:PySem.W.Frag) (C:Addr) (f:Str):Prop:=PySem.W.findIn K (.ref C) f = some none
theorem NoAttr.taker {K:PySem.W.Frag} {C:Addr} {f:Str} (n:NoAttr K C f):PySem.W.takerIn K C f = some none:=by
  unfold PySem.W.takerIn
  rw [show PySem.W.findIn K (.ref C) f = some none from n]
  rfl
structure Meth (K:PySem.W.Frag) (C:Addr) (m:Str) (f:Addr):Prop where
  at_:PySem.W.findIn K (.ref C) m = some (some (.ref f))
  fn:PySem.W.isFn K (.ref f) = true
  kp:PySem.W.keepIn K (.ref f) = true
section
variable {X:Cx} {pins:List (Addr × Obj)} {σ:St} {H:Hp} {s:Shared} {a C dx:Addr} {fs:List (Str × V)} {f:Str} {v:V} {A:Around} {E:Value→Shared→Prop}
theorem getattr_ok {b:Bool} {Q:Value→Shared→Prop} (I:Inv X pins σ H s) (e:H a = some (.ins C dx fs)) (c:Cls X.K C) (n:NoAttr X.K C f) (l:fs.lookup f = some v)
    (h:∀ u s',Inv X pins σ H s'→RelV v u→Q u s'):wpAny (model X.prog X.w) A (getAttr (.ref a) f b) Q E s:=by
  obtain ⟨mA,O,r,_,_,_⟩:=ins_get I.hok e
  obtain ⟨u,hu,ru⟩:=RelO.some_of (v:=v) (o:=mA f) (by rw [← l]; exact r f)
  exact get_map I.kIn O (c.get f) c.hd n hu (handed_of ru) (h u _ (I.tok _) ru)
theorem getmeth_ok {m:Str} {g:Addr} {pl:Sem Bool} {Q:Value × List Value→Shared→Prop} (I:Inv X pins σ H s) (e:H a = some (.ins C dx fs)) (c:Cls X.K C) (k:Meth X.K C m g) (l:fs.lookup m = none)
    (h:Q (.ref g,[.ref a]) s):wpAny (model X.prog X.w) A (getMethod (.ref a) m pl) Q E s:=by
  obtain ⟨mA,O,r,_,_,_⟩:=ins_get I.hok e
  have hn:mA m = none:=RelO.none_of (by rw [← l]; exact r m)
  exact get_meth I.kIn O (c.get m) k.at_ k.fn hn h
theorem setattr_ok {y:V} {u:Value} {Q:Unit→Shared→Prop} (I:Inv X pins σ H s) (e:H a = some (.ins C dx fs)) (c:Cls X.K C) (n:NoAttr X.K C f) (hl:fs.length < 1000) (ry:RelV y u)
    (h:∀ s',Inv X pins σ (upd H a (.ins C dx (putF f y fs))) s'→Q () s'):wpAny (model X.prog X.w) A (setAttr (.ref a) f u) Q E s:=by
  obtain ⟨mA,O,r,wi,_,ho⟩:=ins_get I.hok e
  have hz:(fs.map (·.1)).length ≤ sizeLine:=by rw [List.length_map,sizeLine_eq]; omega
  refine set_map I.kIn O c.sa c.po n.taker c.hd wi hz fun h' O' sb=>h _ ?_
  have hd:∃ o,h'.get? dx = some o:=let ⟨o,_,_,e',_⟩:=O'.ns; ⟨o,e'⟩
  refine I.write (x:=a) (e:=dx) (by rw [e]; exact True.intro) (.inr ho) (fun b q hb z=>(sb.2 b hb).trans z) hd ?_
  refine ⟨by rw [upd_ne O.ne]; exact ho,?_,O.ne,O'.obj,_,O'.ns,fun g=>?_,fun g hg=>?_⟩
  · have:=length_putF f y fs; omega
  · show RelO ((putF f y fs).lookup g) (if g = f then some u else mA g)
    rw [lookup_putF]
    by_cases q:g = f
    · rw [if_pos q,if_pos q]; exact ry
    · rw [if_neg q,if_neg q]; exact r g
  · by_cases q:g = f
    · rw [q]; exact (keys_putF f y fs).1
    · refine (keys_putF f y fs).2 g (wi g fun z=>hg ?_)
      show (if g = f then some u else mA g) = none
      rw [if_neg q]; exact z
theorem Inv.made (I:Inv X pins σ H s):Inv X pins σ (upd (upd H s.heap.objs.size (.own (s.heap.objs.size + 1))) (s.heap.objs.size + 1) (.ins C s.heap.objs.size []))
    { s with heap:=(s.heap.push PySem.W.emptyDict).push (PySem.W.instObj C s.heap.objs.size) }:=by
  have e1:(s.heap.push PySem.W.emptyDict).get? s.heap.objs.size = some PySem.W.emptyDict:=Heap.get?_push_size s.heap rfl
  have e2:((s.heap.push PySem.W.emptyDict).push (PySem.W.instObj C s.heap.objs.size)).get? (s.heap.objs.size + 1) = some (PySem.W.instObj C s.heap.objs.size):=by
    have:=Heap.get?_push_size (s.heap.push PySem.W.emptyDict) (o:=PySem.W.instObj C s.heap.objs.size) rfl
    rwa [Heap.size_push] at this
  have e3:(s.heap.push PySem.W.emptyDict).Ns s.heap.objs.size (fun _=>none):=⟨PySem.W.emptyDict,#[],_,e1,rfl,(fun e he=>absurd he (by simp)),fun _=>rfl⟩
  have I1:=I.laid (a:=s.heap.objs.size) (o:=.own (s.heap.objs.size + 1)) (h':=s.heap.push PySem.W.emptyDict) (t':=s.toks) (fun b u q=>Heap.get?_push_of_some _ q) (Nat.le_refl _) ⟨_,e1⟩
  refine I1.laid (a:=s.heap.objs.size + 1) (o:=.ins C s.heap.objs.size []) (t':=s.toks) (fun b u q=>Heap.get?_push_of_some _ q) (Nat.le_of_eq (Heap.size_push _ _)) ?_
  have ne:s.heap.objs.size ≠ s.heap.objs.size + 1:=Nat.ne_of_lt (Nat.lt_succ_self _)
  refine ⟨by rw [upd_ne ne,upd_same],Nat.zero_le _,ne,e2,fun _=>none,(Heap.Ns1.of_empty e3).at fun o q=>Heap.get?_push_of_some _ q,fun _=>True.intro,fun y hy=>absurd rfl hy⟩
theorem attr_of {prog:Program} {w:World} {env:Env} {e:Expr} {f:Str} {pos:Pos} {s:Shared} {Q:Value→Shared→Prop} (hb:attributeBase e f env (eval e env) = eval e env)
    (h:wpAny (model prog w) A (eval e env) (fun o s₁=>wpAny (model prog w) A (getAttr o f true) Q E s₁) E s):wpAny (model prog w) A (eval (.Attribute e f pos) env) Q E s :=
  Attribute_any_ h (by rw [arm_eval_Attribute,hb])
end
noncomputable def tFld (K:PySem.W.Frag) (ta:TE) (f:Str):TE:=fun σ H Q=>ta σ H fun x H1=>∃ a C dx fs v,x = .ref a∧H1 a = some (.ins C dx fs)∧Cls K C∧NoAttr K C f∧fs.lookup f = some v∧Q v H1
noncomputable def sFld (K:PySem.W.Frag) (ta tv:TE) (f:Str):TS:=fun D σ H=>tv σ H fun y H1=>ta σ H1 fun x H2=>∃ a C dx fs,x = .ref a∧H2 a = some (.ins C dx fs)∧Cls K C∧NoAttr K C f∧fs.length < 1000 ∧
  D.nx σ (upd H2 a (.ins C dx (putF f y fs)))
section
variable {X:Cx} {o e value:Expr} {f:Str} {pos pos' tpos:Pos} {ta tv:TE}
theorem pe_fld (he:PE X e ta) (hb:attributeBase e f X.env (eval e X.env) = eval e X.env):PE X (.Attribute e f pos) (tFld X.K ta f):=by
  intro pins s σ H Q I h
  refine attr_of hb (thn (he pins s σ H _ I h) fun u s1 zz20=>zz20.elim fun x zz=>zz.elim fun H1 zz=>zz.elim fun I1 zz=>zz.elim fun rx zz=>zz.elim fun a zz=>zz.elim fun C zz=>zz.elim fun dx zz=>zz.elim fun fs zz=>zz.elim fun v zz=>zz.elim fun ex zz=>zz.elim fun ea zz=>zz.elim fun c zz=>zz.elim fun n zz=>zz.elim fun l q=>?_)
  subst ex
  obtain rfl : u = Value.ref a:=rx
  exact getattr_ok I1 ea c n l fun u' s2 I2 ru=>⟨v,H1,I2,ru,q⟩
theorem ps_fld (ha:PE X o ta) (hv:PE X value tv) (hs:swapsWith value (some (.Attribute o f pos')) pos.line X.env = pure false):PS X (.Assign [.Attribute o f pos'] value pos) (sFld X.K ta tv f):=by
  intro pins s σ H D I h
  refine plainObj_wpAny_Assign_Attribute (thn (hv pins s σ H _ I h) fun u s1 zz21=>zz21.elim fun y zz=>zz.elim fun H1 zz=>zz.elim fun I1 zz=>zz.elim fun ry q=>thn (ha pins s1 σ H1 _ I1 q) fun ov s2 zz22=>zz22.elim fun x zz=>zz.elim fun H2 zz=>zz.elim fun I2 zz=>zz.elim fun rx zz=>zz.elim fun a zz=>zz.elim fun C zz=>zz.elim fun dx zz=>zz.elim fun fs zz=>zz.elim fun ex zz=>zz.elim fun ea zz=>zz.elim fun c zz=>zz.elim fun n zz=>zz.elim fun l q2=>?_) hs
  subst ex
  obtain rfl : ov = Value.ref a:=rx
  exact setattr_ok I2 ea c n l ry fun s3 I3=>⟨σ,_,I3,q2⟩
end
section
variable {X:Cx} {pins:List (Addr × Obj)} {σ:St} {H:Hp} {s:Shared} {A:Around} {E:Value→Shared→Prop} {Q:Value→Shared→Prop} {c:Value} {b:Bool}
end
end L2
namespace L2
open PySem PySem.Spec PyProof.Rows
structure Room (k:Nat) (A:Around):Prop where
  hd:A.handled = none
  dp:A.depth + 3 * k + 5 < recursionLimit
  un:A.units + 16 * k + 200 < cLine
theorem Room.mono {j k:Nat} {A:Around} (r:Room k A) (h:j ≤ k):Room j A:=⟨r.hd,by have:=r.dp; omega,by have:=r.un; omega⟩
theorem Room.deeper {k:Nat} {A:Around} (r:Room (k + 1) A) (env:Env):Room k (A.deeper env) :=
  ⟨r.hd,by have:=r.dp; show A.depth + 1 + 3 * k + 5 < _; omega,by have:=r.un; show A.units + 3 + 16 * k + 200 < _; omega⟩
theorem make_depth {A:Around} {C:Addr} {us:List Value} {kw:List (Str × Value)}:(A.under (.builtin "type.__call__" ⟨.ref C :: us,kw⟩)).depth = A.depth + 1:=by
  first | rfl | simp [Around.under,Code.weight,Code.isCreation,Code.isGuard,Code.isCaller,Code.frames,Code.isFrame,guardIds]
theorem make_units {A:Around} {C:Addr} {us:List Value} {kw:List (Str × Value)}:(A.under (.builtin "type.__call__" ⟨.ref C :: us,kw⟩)).units = A.units + 1:=by
  first | rfl | simp [Around.under,Code.cUnits,Code.frames,Code.isFrame]
theorem Room.make {k:Nat} {A:Around} (r:Room (k + 1) A) (C:Addr) (us:List Value) (kw:List (Str × Value)):Room k (A.under (.builtin "type.__call__" ⟨.ref C :: us,kw⟩)) :=
  ⟨r.hd,by have:=r.dp; rw [make_depth]; omega,by have:=r.un; rw [make_units]; omega⟩
theorem Room.depth {k:Nat} {A:Around} (r:Room k A):A.depth < recursionLimit:=by have:=r.dp; omega
theorem Room.units {k:Nat} {A:Around} (r:Room k A):A.units + 64 < cLine:=by have:=r.un; omega
noncomputable def tNil:TA:=fun _ H Q=>Q [] H
noncomputable def tCons (ta:TE) (tr:TA):TA:=fun σ H Q=>ta σ H fun x H1=>tr σ H1 fun xs H2=>Q (x :: xs) H2
section
variable {X:Cx} {e:Expr} {es:List Expr} {te:TE} {t:TA} {pos:Pos}
theorem pa_nil:PA X [] tNil:=fun _ _ _ _ H Q I h=>Calls.spliced_nil ⟨[],H,I,.nil,h⟩
theorem pa_cons (ha:PE X e te) (hr:PA X es t) (hs:autoParam (starEach (e :: es) X.env = (false,eval e X.env) :: starEach es X.env) ZA.a3._auto_1):PA X (e :: es) (tCons te t):=by
  intro pos pins s σ H Q I h
  rw [hs]
  show wpAny _ _ (spliced ((false,eval e X.env) :: backTo pos (starEach es X.env))) _ _ s
  refine Calls.spliced_cons (thn (ha pins s σ H _ I h) fun u s1 zz23=>zz23.elim fun x zz=>zz.elim fun H1 zz=>zz.elim fun I1 zz=>zz.elim fun r1 q1=>?_)
  exact thn (hr pos pins s1 σ H1 _ I1 q1) fun us s2 zz24=>zz24.elim fun xs zz=>zz.elim fun H2 zz=>zz.elim fun I2 zz=>zz.elim fun r2 q2=>⟨x :: xs,H2,I2,.cons r1 r2,q2⟩
noncomputable def tTup (t:TA):TE:=fun σ H Q=>t σ H fun xs H1=>xs.length ≤ sizeLine∧∀ p,H1 p = none→Q (.ref p) (upd H1 p (.tup xs))
noncomputable def tLst (t:TA):TE:=fun σ H Q=>t σ H fun xs H1=>xs.length ≤ sizeLine∧∀ p,H1 p = none→Q (.ref p) (upd H1 p (.lst xs))
theorem pe_tup {x1} (h:PA X es t):PE X (.Tuple es x1 pos) (tTup t):=by
  intro pins s σ H Q I hq
  refine wpAny_Tuple_spliced (thn (h pos pins s σ H _ I hq) fun us s1 zz25=>zz25.elim fun xs zz=>zz.elim fun H1 zz=>zz.elim fun I1 zz=>zz.elim fun r zz=>zz.elim fun z q=>⟨by rw [← r.length]; exact z,?_⟩)
  have hf:H1 s1.heap.objs.size = none:=I1.hok.fresh (Nat.le_refl _)
  refine ⟨.ref s1.heap.objs.size,upd H1 s1.heap.objs.size (.tup xs),I1.laid (t':=s1.toks) (fun b u e=>Heap.get?_push_of_some _ e) (Nat.le_refl _) ?_,rfl,q _ hf⟩
  exact ⟨z,us,r,⟨_,Heap.get?_push_size _ rfl,rfl,_,rfl⟩⟩
theorem pe_lst (h:PA X es t):PE X (.List es pos) (tLst t):=by
  intro pins s σ H Q I hq
  refine wpAny_List_spliced (thn (h pos pins s σ H _ I hq) fun us s1 zz26=>zz26.elim fun xs zz=>zz.elim fun H1 zz=>zz.elim fun I1 zz=>zz.elim fun r zz=>zz.elim fun z q=>⟨by rw [← r.length]; exact z,?_⟩)
  have hf:H1 s1.heap.objs.size = none:=I1.hok.fresh (Nat.le_refl _)
  refine ⟨.ref s1.heap.objs.size,upd H1 s1.heap.objs.size (.lst xs),I1.laid (t':=s1.toks) (fun b u e=>Heap.get?_push_of_some _ e) (Nat.le_refl _) ?_,rfl,q _ hf⟩
  exact ⟨z,us,0,r,Heap.get?_push_size _ rfl⟩
end
noncomputable abbrev Sp:=List V→Hp→VK→XK→Prop
noncomputable abbrev CXT:=List Env→Hp→Shared→XK→Value→Shared→Prop
structure Env0 (P:Program) (w:World) (K:PySem.W.Frag) (mg:Str→Option Value) (base:Heap) (A:Around) (outer:List Env) (s:Shared) (H:Hp):Prop where
  frames:A.frames = some outer
  mod:Mod K mg base
  bs:∀ b o,base.get? b = some o→s.heap.get? b = some o∧H b = none
  bsz:base.objs.size ≤ s.heap.objs.size
  funs:s.heap.FunFrames base outer
  frf:∀ b ∈ frs outer,H b = none
  hok:HOk P w H s.heap
  bare:AllBare s.gens
noncomputable def CE (outer:List Env) (P:Program) (w:World) (H:Hp) (s:Shared) (Q:VK) (u:Value) (s':Shared):Prop :=
  ∃ v H',s'.os = s.os∧AllBare s'.gens∧Un (frs outer) [] H H' s.heap s'.heap∧HOk P w H' s'.heap∧RelV v u∧Q v H'
noncomputable def CR (CX:CXT) (outer:List Env) (P:Program) (w:World) (H:Hp) (s:Shared) (Q:VK) (E:XK) (r:Result) (s':Shared):Prop :=
  match r with
  | .ok (.ret u)=>CE outer P w H s Q u s'
  | .ok _=>False
  | .error e=>CX outer H s E e s'
structure FnOk (P:Program) (w:World) (K:PySem.W.Frag) (mg:Str→Option Value) (base:Heap) (CX:CXT) (k:Nat) (f:Addr) (fd:FuncData) (ps:List Str) (sp:Sp):Prop where
  len:∀ vs H Q E,sp vs H Q E→vs.length = ps.length
  run:∀ (A:Around) (outer:List Env) (s:Shared) (H:Hp) (args:Args) (us:List Value) (vs:List V) (Q:VK) (E:XK),Room k A→Env0 P w K mg base A outer s H→BindsTo s fd args (ps.zip us)→Vals vs us→sp vs H Q E →
    codeAny (model P w) A (.call (.ref f) args) (CR CX outer P w H s Q E) s
theorem Env0.make {P:Program} {w:World} {K:PySem.W.Frag} {mg:Str→Option Value} {base:Heap} {A:Around} {outer:List Env} {s:Shared} {H:Hp} (e:Env0 P w K mg base A outer s H) (C:Addr) (us:List Value) (kw:List (Str × Value)) :
    Env0 P w K mg base (A.under (.builtin "type.__call__" ⟨.ref C :: us,kw⟩)) outer s H:=⟨by first | exact e.frames | (simpa [Around.under,Code.envs,Code.isFrame,pushEnvs] using e.frames),e.mod,e.bs,e.bsz,e.funs,e.frf,e.hok,e.bare⟩
section
variable {X:Cx} {pins:List (Addr × Obj)} {σ:St} {H:Hp} {s s':Shared}
theorem Inv.env0 (I:Inv X pins σ H s):Env0 X.prog X.w X.K X.mg X.base X.A X.stack s H :=
  ⟨I.ok.frames,I.ok.mod,I.bs,Nat.le_trans I.ok.bsz I.sz,I.stack,I.stkFree,I.hok,I.bare⟩
theorem Inv.after {Q:VK} {u:Value} (I:Inv X pins σ H s) (h:CE X.stack X.prog X.w H s Q u s'):EP X pins σ Q u s':=by
  obtain ⟨v,H',os,bare,un,hok,r,q⟩:=h
  obtain ⟨hh,g,d,t,os'⟩:=s'
  obtain rfl : os' = s.os:=os
  exact ⟨v,H',I.call (h':=hh) (g':=g) (d':=d) (t':=t) (ch:=[]) un hok bare (fun b z=>absurd z (by simp)),r,q⟩
end
noncomputable def tCall (sp:Sp) (dvs:List V) (E:XK) (t:TA):TE:=fun σ H Q=>t σ H fun vs H1=>sp (vs ++ dvs) H1 Q E
noncomputable def tMeth (C:Addr) (m:Str) (sp:Sp) (dvs:List V) (E:XK) (ta:TE) (t:TA):TE:=fun σ H Q=>ta σ H fun x H1=>∃ a dx fs,x = .ref a∧H1 a = some (.ins C dx fs)∧fs.lookup m = none ∧
  t σ H1 fun vs H2=>sp (x :: (vs ++ dvs)) H2 Q E
noncomputable def tMake (C:Addr) (sp:Sp) (dvs:List V) (E:XK) (t:TA):TE:=fun σ H Q=>t σ H fun vs H1=>∀ x dx,H1 x = none→H1 dx = none→dx ≠ x →
  sp (.ref x :: (vs ++ dvs)) (upd (upd H1 dx (.own x)) x (.ins C dx [])) (fun v H2=>v = .non∧Q (.ref x) H2) E
noncomputable def Binds (K:PySem.W.Frag) (fd:FuncData) (ps:List Str) (ds:List Value):Prop :=
  ∀ (s:Shared) (us:List Value),K.In s.heap→(us ++ ds).length = ps.length→BindsTo s fd ⟨us,[]⟩ (ps.zip (us ++ ds))
theorem Binds.all {K:PySem.W.Frag} {fd:FuncData} {ps:List Str} (h:∀ us:List Value,us.length = ps.length→bindArgs fd ⟨us,[]⟩ = pure (ps.zip us)):Binds K fd ps []:=fun s us _ hl=>by
  rw [List.append_nil] at hl ⊢
  exact .of_eq (h us hl)
noncomputable def Passes (CX:CXT) (X:Cx) (E:XK):Prop:=∀ (pins:List (Addr × Obj)) (σ:St) (H:Hp) (s:Shared) (e:Value) (s':Shared),Inv X pins σ H s→CX X.stack H s E e s'→X.xe e s'
section
variable {X:Cx} {CX:CXT} {k:Nat} {f C:Addr} {fd:FuncData} {ps:List Str} {sp:Sp} {dvs:List V} {ds:List Value} {E:XK} {x m:Str} {p pos apos:Pos} {e o:Expr} {es:List Expr} {ta:TE} {t:TA}
theorem run_fn {pins:List (Addr × Obj)} {σ:St} {H:Hp} {s:Shared} {Q:VK} {us:List Value} {vs:List V} (F:FnOk X.prog X.w X.K X.mg X.base CX k f fd ps sp) (hr:Room k X.A) (hb:Binds X.K fd ps ds) (hd:Vals dvs ds) (hx:Passes CX X E)
    (I:Inv X pins σ H s) (r:Vals vs us) (h:sp (vs ++ dvs) H Q E):wpAny (model X.prog X.w) X.A (call (.ref f) us) (EP X pins σ Q) X.xe s:=by
  have r2:Vals (vs ++ dvs) (us ++ ds):=r.append hd
  have hl:(us ++ ds).length = ps.length:=by rw [← r2.length]; exact F.len _ _ _ _ h
  refine wpAny_call (codeAny_mono (F.run X.A X.stack s H ⟨us,[]⟩ (us ++ ds) (vs ++ dvs) Q E hr I.env0 (hb s us I.kIn hl) r2 h) fun r s' hq=>?_)
  cases r with
  | error e=>exact hx pins σ H s e s' I hq
  | ok fl =>
    cases fl with
    | ret u=>exact I.after hq
    | next=>exact False.elim hq
    | brk=>exact False.elim hq
    | cont=>exact False.elim hq
theorem pe_call (F:FnOk X.prog X.w X.K X.mg X.base CX k f fd ps sp) (hr:Room k X.A) (hg:Gl X x) (hm:X.mg x = some (.ref f)) (hk:PySem.W.keepIn X.K (.ref f) = true) (hb:Binds X.K fd ps ds) (hd:Vals dvs ds) (hx:Passes CX X E)
    (ha:PA X (e :: es) t) (hdb:autoParam ((x == ("__debug__":Str)) = false) ZA.a2._auto_1) (he:autoParam (starEach (e :: es) X.env = (false,eval e X.env) :: starEach es X.env) ZA.a3._auto_1) (hpl:autoParam ((backTo pos (starEach es X.env)).any (·.1) = false) ZA.a3._auto_1) :
    PE X (.Call (.Name x p) (e :: es) [] pos) (tCall sp dvs E t):=by
  intro pins s σ H Q I h
  refine wpAny_Call_Name_kw (ld_glob I hg hm ?_ hdb)
  refine PySem.W.callWith_K (h₀:=X.base) I.ok.mod.kin hk (thn (ha pos pins s σ H _ I h) fun us s1 zz27=>zz27.elim fun vs zz=>zz.elim fun H1 zz=>zz.elim fun I1 zz=>zz.elim fun r q=>⟨I1.kIn,?_⟩) he hpl
  exact run_fn F hr hb hd hx I1 r q
theorem pe_meth {pl:Sem Bool} (he:PE X o ta) (c:Cls X.K C) (hm:Meth X.K C m f) (F:FnOk X.prog X.w X.K X.mg X.base CX k f fd ps sp) (hr:Room k X.A) (hb:Binds X.K fd ps ds) (hd:Vals dvs ds) (hx:Passes CX X E) (ha:PA X (e :: es) t)
    (hst:autoParam (starEach (e :: es) X.env = (false,eval e X.env) :: starEach es X.env) ZA.a3._auto_1) (hpl:autoParam ((backTo pos (starEach es X.env)).any (·.1) = false) ZA.a3._auto_1)
    (ht:autoParam (eval (.Call (.Attribute o m apos) (e :: es) [] pos) X.env = (do
      let ov ← eval o X.env
      standAt apos.atName
      let (f,first) ← holding [ov] (getMethod ov m pl)
      callWith pos f first (backTo pos (starEach (e :: es) X.env)) (backToKw pos (keywordEach [] X.env)))) ZA.a3._auto_1) :
    PE X (.Call (.Attribute o m apos) (e :: es) [] pos) (tMeth C m sp dvs E ta t):=by
  intro pins s σ H Q I h
  refine PySem.W.methodCall_KW (pl:=pl) (thn (he pins s σ H _ I h) fun u s1 zz28=>zz28.elim fun x zz=>zz.elim fun H1 zz=>zz.elim fun I1 zz=>zz.elim fun rx zz=>zz.elim fun a zz=>zz.elim fun dx zz=>zz.elim fun fs zz=>zz.elim fun ex zz=>zz.elim fun ea zz=>zz.elim fun l q=>?_) ht
  subst ex
  obtain rfl : u = Value.ref a:=rx
  refine getmeth_ok I1 ea c hm l ?_
  refine PySem.W.callWith_K (first:=[.ref a]) (h₀:=X.base) I.ok.mod.kin hm.kp (thn (ha pos pins s1 σ H1 _ I1 q) fun us s2 zz29=>zz29.elim fun vs zz=>zz.elim fun H2 zz=>zz.elim fun I2 zz=>zz.elim fun r q2=>⟨I2.kIn,?_⟩) hst hpl
  exact run_fn (us:=.ref a :: us) (vs:=.ref a :: vs) F hr hb hd hx I2 (.cons rfl r) q2
theorem pe_meth0 {pl:Sem Bool} (he:PE X o ta) (c:Cls X.K C) (hm:Meth X.K C m f) (F:FnOk X.prog X.w X.K X.mg X.base CX k f fd ps sp) (hr:Room k X.A) (hb:Binds X.K fd ps ds) (hd:Vals dvs ds) (hx:Passes CX X E)
    (ht:autoParam (eval (.Call (.Attribute o m apos) [] [] pos) X.env = (do
      let ov ← eval o X.env
      standAt apos.atName
      let (f,first) ← holding [ov] (getMethod ov m pl)
      callWith pos f first (backTo pos (starEach [] X.env)) (backToKw pos (keywordEach [] X.env)))) ZA.a3._auto_1) :
    PE X (.Call (.Attribute o m apos) [] [] pos) (tMeth C m sp dvs E ta tNil):=by
  intro pins s σ H Q I h
  refine PySem.W.methodCall_KW (pl:=pl) (thn (he pins s σ H _ I h) fun u s1 zz30=>zz30.elim fun x zz=>zz.elim fun H1 zz=>zz.elim fun I1 zz=>zz.elim fun rx zz=>zz.elim fun a zz=>zz.elim fun dx zz=>zz.elim fun fs zz=>zz.elim fun ex zz=>zz.elim fun ea zz=>zz.elim fun l q=>?_) ht
  subst ex
  obtain rfl : u = Value.ref a:=rx
  refine getmeth_ok I1 ea c hm l ?_
  exact PySem.W.callWith_K0 (first:=[.ref a]) I1.kIn hm.kp (run_fn (us:=[.ref a]) (vs:=[.ref a]) F hr hb hd hx I1 (.cons rfl .nil) q)
structure Mk (K:PySem.W.Frag) (C f:Addr):Prop where
  makes:PySem.W.makesIn K C = true
  init:PySem.W.findIn K (.ref C) "__init__" = some (some (.ref f))
  fn:PySem.W.isFn K (.ref f) = true
  kp:PySem.W.keepIn K (.ref C) = true
theorem run_make {pins:List (Addr × Obj)} {σ:St} {H:Hp} {s:Shared} {Q:VK} {us:List Value} {vs:List V} (M:Mk X.K C f) (F:FnOk X.prog X.w X.K X.mg X.base CX k f fd ps sp) (hr:Room (k + 1) X.A) (hb:Binds X.K fd ps ds) (hd:Vals dvs ds)
    (hx:Passes CX X E) (I:Inv X pins σ H s) (r:Vals vs us)
    (h:∀ x dx,H x = none→H dx = none→dx ≠ x→sp (.ref x :: (vs ++ dvs)) (upd (upd H dx (.own x)) x (.ins C dx [])) (fun v H2=>v = .non∧Q (.ref x) H2) E) :
    wpAny (model X.prog X.w) X.A (call (.ref C) us) (EP X pins σ Q) X.xe s:=by
  have hq:=h (s.heap.objs.size + 1) s.heap.objs.size (I.hok.fresh (Nat.le_succ _)) (I.hok.fresh (Nat.le_refl _)) (Nat.ne_of_lt (Nat.lt_succ_self _))
  have I2:=Inv.made (C:=C) I
  have r2:Vals (V.ref (s.heap.objs.size + 1) :: (vs ++ dvs)) (Value.ref (s.heap.objs.size + 1) :: (us ++ ds)):=.cons rfl (r.append hd)
  have hl:(Value.ref (s.heap.objs.size + 1) :: us ++ ds).length = ps.length:=by
    have e:=r2.length
    rw [F.len _ _ _ _ hq] at e
    exact e.symm
  refine wpAny_call (make_map (f:=f) I.kIn M.makes M.init (beq_iff_eq.mp M.fn) (codeAny_mono (F.run _ X.stack _ _ ⟨Value.ref (s.heap.objs.size + 1) :: us,[]⟩ (Value.ref (s.heap.objs.size + 1) :: (us ++ ds)) _ _ E (hr.make C us [])
    (I2.env0.make C us []) (hb _ (Value.ref (s.heap.objs.size + 1) :: us) I2.kIn hl) r2 hq) fun r s' hq'=>?_))
  cases r with
  | error e=>exact hx pins σ _ _ e s' I2 hq'
  | ok fl =>
    cases fl with
    | ret u =>
      obtain ⟨v,H',I3,rv,ev,q3⟩:=I2.after hq'
      subst ev
      exact ⟨rv,⟨V.ref (s.heap.objs.size + 1),H',I3,rfl,q3⟩⟩
    | next=>exact False.elim hq'
    | brk=>exact False.elim hq'
    | cont=>exact False.elim hq'
theorem pe_make (M:Mk X.K C f) (F:FnOk X.prog X.w X.K X.mg X.base CX k f fd ps sp) (hr:Room (k + 1) X.A) (hg:Gl X x) (hm:X.mg x = some (.ref C)) (hb:Binds X.K fd ps ds) (hd:Vals dvs ds) (hx:Passes CX X E)
    (ha:PA X (e :: es) t) (hdb:autoParam ((x == ("__debug__":Str)) = false) ZA.a2._auto_1) (he:autoParam (starEach (e :: es) X.env = (false,eval e X.env) :: starEach es X.env) ZA.a3._auto_1) (hpl:autoParam ((backTo pos (starEach es X.env)).any (·.1) = false) ZA.a3._auto_1) :
    PE X (.Call (.Name x p) (e :: es) [] pos) (tMake C sp dvs E t):=by
  intro pins s σ H Q I h
  refine wpAny_Call_Name_kw (ld_glob I hg hm ?_ hdb)
  refine PySem.W.callWith_K (h₀:=X.base) I.ok.mod.kin M.kp (thn (ha pos pins s σ H _ I h) fun us s1 zz31=>zz31.elim fun vs zz=>zz.elim fun H1 zz=>zz.elim fun I1 zz=>zz.elim fun r q=>⟨I1.kIn,?_⟩) he hpl
  exact run_make M F hr hb hd hx I1 r q
end
section
variable {X:Cx} {CX:CXT} {k:Nat} {f C:Addr} {fd:FuncData} {ps ks:List Str} {sp:Sp} {E:XK} {x m:Str} {p pos apos kpos:Pos} {e o:Expr} {es:List Expr} {kws:List Keyword} {te ta:TE} {t tk:TA} {nm:Option Str}
variable {g:List Value→List Value→List Value} {gV:List V→List V→List V}
end
structure FnScope (N P:List Str) (sc:Scope):Prop where
  kind:sc.kind = .function
  co:sc.isCoroutine = false
  gen:sc.isGenerator = false
  nd:N.Nodup
  pre:N.take P.length = P
  par:∀ x ∈ P,sc.names.lookup x = some .local∨sc.names.lookup x = some .cell
  nofree:∀ y ∈ sc.names,y.2 ≠ .free
theorem bindL_out {kindOf:Str→Option NameKind} {x:Str}:∀ {binds:List (Str × Value)} {m:Str→Option Value},(∀ v,(x,v) ∉ binds)→bindL kindOf binds m x = m x
  | [],_,_=>rfl
  | (n,v) :: r,m,h=>by
    unfold bindL
    rw [bindL_out fun w hw=>h w (List.mem_cons_of_mem _ hw)]
    split
    · have:x ≠ n:=by rintro rfl; exact h v List.mem_cons_self
      simp [this]
    · rfl
theorem bindC_out {kindOf:Str→Option NameKind} {x:Str}:∀ {binds:List (Str × Value)} {m:Str→Option Value},(∀ v,(x,v) ∉ binds)→bindC kindOf binds m x = m x
  | [],_,_=>rfl
  | (n,v) :: r,m,h=>by
    unfold bindC
    rw [bindC_out fun w hw=>h w (List.mem_cons_of_mem _ hw)]
    split
    · rfl
    · have:x ≠ n:=by rintro rfl; exact h v List.mem_cons_self
      simp [this]
theorem bindL_get {kindOf:Str→Option NameKind} {x:Str} {v:Value}:∀ {P:List Str} {vs:List Value} {i:Nat} {m:Str→Option Value},P.Nodup→P[i]? = some x→vs[i]? = some v→kindOf x = some .local →
    bindL kindOf (P.zip vs) m x = some v
  | [],_,_,_,_,h,_,_=>by simp at h
  | _ :: _,[],_,_,_,_,h,_=>by simp at h
  | p :: P,w :: vs,0,m,nd,h1,h2,hk=>by
    simp at h1 h2; subst h1; subst h2
    show bindL kindOf ((p,w) :: P.zip vs) m p = _
    unfold bindL
    rw [bindL_out fun v hv=>(List.nodup_cons.mp nd).1 (List.of_mem_zip hv).1,if_pos hk]
    simp
  | p :: P,w :: vs,i + 1,m,nd,h1,h2,hk=>by
    show bindL kindOf ((p,w) :: P.zip vs) m x = _
    unfold bindL
    exact bindL_get (i:=i) (List.nodup_cons.mp nd).2 (by simpa using h1) (by simpa using h2) hk
theorem bindC_get {kindOf:Str→Option NameKind} {x:Str} {v:Value}:∀ {P:List Str} {vs:List Value} {i:Nat} {m:Str→Option Value},P.Nodup→P[i]? = some x→vs[i]? = some v→kindOf x ≠ some .local →
    bindC kindOf (P.zip vs) m x = some v
  | [],_,_,_,_,h,_,_=>by simp at h
  | _ :: _,[],_,_,_,_,h,_=>by simp at h
  | p :: P,w :: vs,0,m,nd,h1,h2,hk=>by
    simp at h1 h2; subst h1; subst h2
    show bindC kindOf ((p,w) :: P.zip vs) m p = _
    unfold bindC
    rw [bindC_out fun v hv=>(List.nodup_cons.mp nd).1 (List.of_mem_zip hv).1,if_neg hk]
    simp
  | p :: P,w :: vs,i + 1,m,nd,h1,h2,hk=>by
    show bindC kindOf ((p,w) :: P.zip vs) m x = _
    unfold bindC
    exact bindC_get (i:=i) (List.nodup_cons.mp nd).2 (by simpa using h1) (by simpa using h2) hk
noncomputable def start (N:List Str) (vs:List V):St:=vs.map some ++ List.replicate (N.length - vs.length) none
noncomputable def cxOf (CX:CXT) (P:Program) (w:World) (K:PySem.W.Frag) (mg:Str→Option Value) (base:Heap) (N:List Str) (qual:Str) (scope:Scope) (f:Addr) (cd:Value) (A:Around) (outer:List Env) (s:Shared) (H:Hp) (E:XK):Cx where
  prog:=P
  w:=w
  K:=K
  mg:=mg
  base:=base
  A:=A.deeper (envOfC qual scope s.heap.objs.size f cd)
  N:=N
  s₀:=s
  H₀:=H
  env:=envOfC qual scope s.heap.objs.size f cd
  outer:=outer
  stack:=envOfC qual scope s.heap.objs.size f cd :: outer
  ex:=[]
  calm:=true
  fn:=fun _=>true
  pn:=[]
  xe:=fun e s'=>wpAny (model P w) (A.deeper (envOfC qual scope s.heap.objs.size f cd)) (leaving (envOfC qual scope s.heap.objs.size f cd) e) (fun _ s''=>CX outer H s E e s'') (fun e' s''=>CX outer H s E e' s'') s'
theorem cell_has {sc:Scope} {n:Nat} {x:Str} (h:sc.names.lookup x = some .cell):∃ c,(cellsFrom n sc.names []).lookup x = some c:=by
  have q:=PySem.W.cellsFrom_some sc.names n [] (.inl h)
  exact Option.isSome_iff_exists.mp q
theorem inv_start {CX:CXT} {P:Program} {w:World} {K:PySem.W.Frag} {mg:Str→Option Value} {base:Heap} {N ps:List Str} {qual:Str} {scope:Scope} {f:Addr} {cd:Value} {A:Around} {outer:List Env} {s s1:Shared} {H:Hp} {E:XK} {us:List Value} {vs:List V}
    (S:FnScope N ps scope) (hd:A.handled = none) (e0:Env0 P w K mg base A outer s H) (hl:vs.length = ps.length) (r:Vals vs us)
    (x:InCallC s s.heap.objs.size (bindL (envOfC qual scope s.heap.objs.size f cd).kindOf (ps.zip us) fun _=>none) (cellsFrom (s.heap.objs.size + 1) scope.names []) (bindC (envOfC qual scope s.heap.objs.size f cd).kindOf (ps.zip us) fun _=>none) s1) :
    Inv (cxOf CX P w K mg base N qual scope f cd A outer s H E) [] (start N vs) H s1:=by
  have hpl:ps.length ≤ N.length:=by have:=congrArg List.length S.pre; rw [List.length_take] at this; omega
  obtain ⟨h1,tk,rfl,hk⟩:=x.done
  have noA:∀ b:Addr,b ∉ (cxOf CX P w K mg base N qual scope f cd A outer s H E).ex:=fun b z=>absurd (show b ∈ ([]:List Addr) from z) (by simp)
  refine ⟨⟨e0.mod,S.kind,rfl,rfl,Nat.le_refl _,fun y z c h1 h2=>?_,fun y hy=>?_,fun y c _ h=>?_,fun _=>hd,Around.frames_deeper e0.frames,.inr ⟨rfl,rfl⟩,fun b z=>absurd z (noA b),e0.bs,e0.bsz,fun b _ _=>noA b,fun b z=>absurd z (noA b),e0.funs,e0.frf⟩,
    rfl,e0.bare,Un.kept hk,⟨_,x.toInCall.ns,fun i y v h1 h2 h3=>?_⟩,fun y c h=>⟨_,x.cell y c h⟩,e0.hok.fresh (Nat.le_refl _),fun y c h=>?_,fun p hp=>absurd (show p ∈ ([]:List (Addr × Obj)) from hp) (by simp),e0.hok.kept hk,?_⟩
  · exact name_of_addr x.apart (PySem.mem_of_lookup h1) (PySem.mem_of_lookup h2)
  · have hy:scope.names.lookup y = some .cell∨scope.names.lookup y = some .free:=hy
    rcases hy with hy | hy
    · exact cell_has hy
    · exact absurd rfl (S.nofree _ (PySem.mem_of_lookup hy))
  · exact Nat.le_of_lt (x.above y c (PySem.mem_of_lookup h))
  · have hi:i < vs.length:=by
      unfold start at h2
      by_cases hi:i < vs.length
      · exact hi
      · rw [List.getElem?_append_right (by simpa using hi)] at h2
        rw [List.getElem?_replicate] at h2
        split at h2 <;> cases h2
    have ha:vs[i]? = some v:=by
      unfold start at h2
      rw [List.getElem?_append_left (by simpa using hi),List.getElem?_map] at h2
      cases e:vs[i]? with
      | none=>rw [e] at h2; cases h2
      | some a=>rw [e] at h2; cases h2; rfl
    obtain ⟨u,hu,rv⟩:=r.get ha
    have hp:ps[i]? = some y:=by
      rw [← S.pre,List.getElem?_take_of_lt (by omega)]; exact h1
    have ndP:ps.Nodup:=by rw [← S.pre]; exact S.nd.sublist (List.take_sublist _ _)
    refine ⟨u,rv,?_⟩
    rcases S.par y (List.mem_of_getElem? hp) with k | k
    · exact .inl ⟨k,bindL_get ndP hp hu k⟩
    · obtain ⟨c,e⟩:=cell_has (n:=s.heap.objs.size + 1) k
      refine .inr ⟨.inl k,c,e,?_⟩
      have q:=x.cell y c e
      rw [bindC_get ndP hp hu (by show scope.names.lookup y ≠ _; rw [k]; decide)] at q
      exact q
  · exact e0.hok.fresh (Nat.le_of_lt (x.above y c (PySem.mem_of_lookup h)))
  · unfold start
    show _ = N.length
    rw [List.length_append,List.length_map,List.length_replicate]
    omega
theorem fn_of {CX:CXT} {P:Program} {w:World} {K:PySem.W.Frag} {mg:Str→Option Value} {base:Heap} {k:Nat} {f:Addr} {name qual:Str} {params:Arguments} {body:List Stmt} {scope:Scope} {dV kV doc pm cdv ct oc:Value} {an od:Option Addr}
    {osl:Array (Option Value)} {N ps:List Str} {sp:Sp} (lk:K.lookup f = some ⟨oc,od,.func (PySem.W.fnOf name qual params body scope dV kV doc pm an cdv ct),osl⟩) (hcd:PySem.W.codeIn K cdv qual = true) (S:FnScope N ps scope)
    (len:∀ vs H Q E,sp vs H Q E→vs.length = ps.length)
    (hbody:∀ (A:Around) (outer:List Env) (s:Shared) (H:Hp) (vs:List V) (Q:VK) (E:XK),Room k (A.deeper (envOfC qual scope s.heap.objs.size f cdv))→sp vs H Q E →
      ∃ t,PSs (cxOf CX P w K mg base N qual scope f cdv A outer s H E) body t∧t { nx:=fun _ H'=>Q .non H',rt:=Q } (start N vs) H) :
    FnOk P w K mg base CX (k + 1) f (PySem.W.fnOf name qual params body scope dV kV doc pm an cdv ct) ps sp:=by
  refine ⟨len,fun A outer s H args us vs Q E hr e0 hb r hsp=>?_⟩
  have hl:=len _ _ _ _ hsp
  have KX:K.In s.heap:=e0.mod.kin.keeps fun b o e=>(e0.bs b o e).1
  have lim:s.heap.NoLimit:=e0.mod.nolimit.keeps fun b o e=>(e0.bs b o e).1
  have hkind:∀ y ∈ ps.zip us,scope.names.lookup y.1 = some .local∨(scope.names.lookup y.1 = some .cell∧((cellsFrom (s.heap.objs.size + 1) scope.names []).lookup y.1).isSome = true):=fun ⟨n,v⟩ hy=>by
    rcases S.par n (List.of_mem_zip hy).1 with q | q
    · exact .inl q
    · exact .inr ⟨q,PySem.W.cellsFrom_some _ _ _ (.inl q)⟩
  refine codeAny_call_function hr.depth (KX _ _ lk) rfl S.co S.gen rfl (PySem.W.codeRec_of KX hcd) (hb _ _ _ _ ?_)
  refine wpAny_newFunctionEnv_cells S.kind hkind fun env he s1 x=>?_
  subst he
  refine ⟨lim.keeps x.toInCall.keep,codeAny_func ?_⟩
  obtain ⟨t,ht,hq⟩:=hbody A outer s H vs Q E (hr.deeper _) hsp
  have I:Inv (cxOf CX P w K mg base N qual scope f cdv A outer s H E) [] (start N vs) H s1:=inv_start S hr.hd e0 hl r x
  refine wpAny_mono (ht [] s1 (start N vs) H _ I hq) (fun fl s' hs=>?_) fun e s' hs=>hs
  have fin:∀ {σ':St} {H':Hp} {v:V} {u:Value},Inv (cxOf CX P w K mg base N qual scope f cdv A outer s H E) [] σ' H' s'→RelV v u→Q v H'→CE outer P w H s Q u s' :=
    fun {σ' H' v u} J rv q=>⟨v,H',J.os,J.bare,J.base,J.hok,rv,q⟩
  cases fl with
  | ret u =>
    obtain ⟨v,σ',H',J,rv,q⟩:=hs
    exact fin J rv q
  | next =>
    obtain ⟨σ',H',J,q⟩:=hs
    exact fin (v:=V.non) (u:=Value.none) J rfl q
  | brk =>
    obtain ⟨_,_,_,q⟩:=hs
    exact False.elim q
  | cont =>
    obtain ⟨_,_,_,q⟩:=hs
    exact False.elim q
end L2
namespace L2
open PySem PySem.Spec PyProof.Rows
section
variable {X:Cx} {x:Str} {p pos:Pos} {e:Expr} {es:List Expr} {t:TA} {id T:String} {r:List V→Hp→VK→Prop}
noncomputable def tCB (r:List V→Hp→VK→Prop) (t:TA):TE:=fun σ H Q=>t σ H fun vs H1=>r vs H1 Q
theorem pe_callB (hc:CallR X (.builtin id) r) (hg:Gl X x) (hm:X.mg x = none) (hv:bootBuiltins x = some (.builtin id)) (ha:PA X (e :: es) t) (hn:autoParam (x ≠ "__name__") ZA.a2._auto_1) (hdb:autoParam ((x == ("__debug__":Str)) = false) ZA.a2._auto_1)
    (he:autoParam (starEach (e :: es) X.env = (false,eval e X.env) :: starEach es X.env) ZA.a3._auto_1) (hpl:autoParam ((backTo pos (starEach es X.env)).any (·.1) = false) ZA.a3._auto_1):PE X (.Call (.Name x p) (e :: es) [] pos) (tCB r t):=by
  intro pins s σ H Q I h
  refine wpAny_Call_Name_kw (ld_blt I hg hm hv ?_ hn hdb)
  exact PyProof.Rows.callWith_builtin1 (thn (ha pos pins s σ H _ I h) fun us s1 zz33=>zz33.elim fun vs zz=>zz.elim fun H1 zz=>zz.elim fun I1 zz=>zz.elim fun r1 q1=>hc pins s1 σ H1 vs us Q I1 r1 q1) he hpl
theorem pe_callTy (hc:CallR X (.type T) r) (hg:Gl X x) (hm:X.mg x = none) (hv:bootBuiltins x = some (.type T)) (ha:PA X (e :: es) t) (hn:autoParam (x ≠ "__name__") ZA.a2._auto_1) (hdb:autoParam ((x == ("__debug__":Str)) = false) ZA.a2._auto_1)
    (he:autoParam (starEach (e :: es) X.env = (false,eval e X.env) :: starEach es X.env) ZA.a3._auto_1) (hpl:autoParam ((backTo pos (starEach es X.env)).any (·.1) = false) ZA.a3._auto_1):PE X (.Call (.Name x p) (e :: es) [] pos) (tCB r t):=by
  intro pins s σ H Q I h
  refine wpAny_Call_Name_kw (ld_blt I hg hm hv ?_ hn hdb)
  exact PyProof.Rows.callWith_type1 (thn (ha pos pins s σ H _ I h) fun us s1 zz34=>zz34.elim fun vs zz=>zz.elim fun H1 zz=>zz.elim fun I1 zz=>zz.elim fun r1 q1=>hc pins s1 σ H1 vs us Q I1 r1 q1) he hpl
end
end L2
namespace HT
open PySem PyProof.Rows
section
open PySem.SeqAt
open PySem.AutoSeq1 (wpAny_loadPart')
open PySem.MeetsSeq PySem.MeetsSeq2 PySem.MeetsSeq3
end
section
variable {prog:Program} {w:World} {A:Around} {E:Value→Shared→Prop} {s:Shared}
theorem cat_tup {t b:Addr} {vs ws:List Value} {Q:Value→Shared→Prop} (ht:IsTup s.heap t vs.toArray) (hb:IsTup s.heap b ws.toArray) (hv:vs ≠ [])
    (h1:ws = []→Q (.ref t) s) (h2:ws ≠ []→Q (.ref s.heap.objs.size) { s with heap:=s.heap.push { cls:=.type "tuple",data:=.seq (vs ++ ws).toArray } })
    (hsz:vs.length + ws.length ≤ sizeLine):wpAny (model prog w) A (binaryOp .Add (.ref t) (.ref b)) Q E s:=by
  obtain ⟨⟨cls,dd,data,sl⟩,ho,hc,n,hd⟩:=id ht
  obtain ⟨⟨cls2,dd2,data2,sl2⟩,ho2,hc2,n2,hd2⟩:=id hb
  simp only at hc hd hc2 hd2
  subst hc hd hc2 hd2
  have e:vs.toArray ++ ws.toArray = (vs ++ ws).toArray:=by simp
  by_cases hw:ws = []
  · exact concat_meets ⟨_,ho,rfl⟩ ⟨_,ho2,rfl⟩ noFill_tuple_add seq_tuple_add PySem.F.slot_tuple_add PySem.F.entry_tuple_add (PySem.F.args_tuple_add_2 _ _)
      (tuple_addW1 t b vs.toArray ws.toArray n n2 dd dd2 sl sl2 (by simpa using hv) (by simp [hw])) ⟨ho,ho2,h1 hw⟩
  · refine concat_meets ⟨_,ho,rfl⟩ ⟨_,ho2,rfl⟩ noFill_tuple_add seq_tuple_add PySem.F.slot_tuple_add PySem.F.entry_tuple_add (PySem.F.args_tuple_add_2 _ _)
      (tuple_addW2 t b vs.toArray ws.toArray n n2 dd dd2 sl sl2 (by simpa using hv) (by simpa using hw) (by rw [List.size_toArray,List.size_toArray]; exact hsz)) ⟨ho,ho2,?_⟩
    rw [e]
    exact h2 hw
end
end HT
namespace L2
open PySem PySem.Spec PyProof.Rows
theorem intsAre_of {ns:List Int}:∀ {us:List Value},Vals (ns.map V.int) us→IntsAre us ns:=by
  induction ns with
  | nil=>intro us r; rw [List.map_nil] at r; cases r; exact .nil
  | cons n ns ih =>
    intro us r
    rw [List.map_cons] at r
    cases r with
    | cons r1 r2 =>
      obtain ⟨t,e⟩:=r1
      subst e
      exact .cons n t (ih r2)
section
variable {X:Cx} {e:Expr} {te:TE} {lo hi:Option Expr} {tl th:TO} {pos p2:Pos}
noncomputable def rCatT (K:PySem.W.Frag):R2:=fun x y H Q=>∃ a b xs ys,x = .ref a∧y = .ref b∧SqT K H a xs∧SqT K H b ys∧xs ≠ []∧xs.length + ys.length ≤ sizeLine ∧
  (ys = []→Q (.ref a) H)∧(ys ≠ []→∀ p,H p = none→Q (.ref p) (upd H p (.tup (xs ++ ys))))
theorem Vals.nil_iff {xs:List V} {us:List Value} (r:Vals xs us):us = [] ↔ xs = []:=by
  cases r with
  | nil=>simp
  | cons _ _=>simp
theorem op_catT:OpR X (binaryOp .Add) (rCatT X.K):=by
  intro pins s σ H x y v u Q I rx ry h
  obtain ⟨a,b,xs,ys,rfl,rfl,ha,hb,hx,hz,q1,q2⟩:=h
  cases rx
  cases ry
  obtain ⟨its,r1,p1,_⟩:=I.tuple ha
  obtain ⟨its2,r2,p2,_⟩:=I.tuple hb
  refine HT.cat_tup p1 p2 (fun z=>hx (r1.nil_iff.mp z)) (fun z=>⟨.ref a,H,I,rfl,q1 (r2.nil_iff.mp z)⟩) (fun z=>?_) (by rw [← r1.length,← r2.length]; exact hz)
  refine ⟨.ref s.heap.objs.size,_,I.laid (t':=s.toks) (o:=.tup (xs ++ ys)) (fun b ob q=>Heap.get?_push_of_some _ q) (Nat.le_refl _) ?_,rfl,q2 (fun w=>z (r2.nil_iff.mpr w)) _ (I.hok.fresh (Nat.le_refl _))⟩
  exact ⟨by rw [List.length_append]; exact hz,_,r1.append r2,IsTup.new _ _⟩
end
end L2
namespace L2
open PySem PySem.Spec PyProof.Rows
noncomputable def ixN (n:Nat) (i:Int):Option Nat:=if 0 ≤ i then (if i < n then some i.toNat else none) else if -(n:Int) ≤ i then some (i + n).toNat else none
noncomputable def atI {α:Type} (xs:List α) (i:Int):Option α:=(ixN xs.length i).bind fun j=>xs[j]?
theorem ixN_seq {n:Nat} {i:Int} {j:Nat} (h:ixN n i = some j):seqIndex? i n = some j∧j < n∧-(n:Int) ≤ i∧i < n:=by
  unfold ixN at h
  by_cases h0:0 ≤ i
  · rw [if_pos h0] at h
    by_cases h1:i < n
    · rw [if_pos h1] at h
      have e:i.toNat = j:=Option.some.inj h
      exact ⟨by rw [seqIndex_of h0 h1,e],by omega,by omega,h1⟩
    · rw [if_neg h1] at h; cases h
  · rw [if_neg h0] at h
    by_cases h1:-(n:Int) ≤ i
    · rw [if_pos h1] at h
      have e:(i + n).toNat = j:=Option.some.inj h
      exact ⟨by rw [seqIndex_neg (by omega) h1,e],by omega,h1,by omega⟩
    · rw [if_neg h1] at h; cases h
theorem atI_get {α:Type} {xs:List α} {i:Int} {v:α} (h:atI xs i = some v):∃ j,seqIndex? i xs.length = some j∧xs[j]? = some v∧j < xs.length∧-(xs.length:Int) ≤ i∧i < xs.length:=by
  unfold atI at h
  cases e:ixN xs.length i with
  | none=>rw [e] at h; cases h
  | some j =>
    rw [e] at h
    obtain ⟨h1,h2,h3,h4⟩:=ixN_seq e
    exact ⟨j,h1,h,h2,h3,h4⟩
theorem atI_nat {α:Type} {xs:List α} {j:Nat} {v:α} (h:xs[j]? = some v):atI xs (j:Int) = some v:=by
  have hj:j < xs.length:=(List.getElem?_eq_some_iff.mp h).1
  have e:ixN xs.length (j:Int) = some j:=by
    unfold ixN
    rw [if_pos (by omega),if_pos (by omega)]; simp
  unfold atI; rw [e]; exact h
noncomputable def PlainIx (b:Expr):Prop:=∀ o i,subscripted b false o i = operate [o,i] (getItem o i)
noncomputable def IxR (X:Cx) (r:R2):Prop :=
  ∀ (value slice:Expr) (pins:List (Addr × Obj)) (s:Shared) (σ:St) (H:Hp) (x y:V) (v u:Value) (Q:VK),Inv X pins σ H s→RelV x v→RelV y u→r x y H Q →
    subscripted slice false v u = operate [v,u] (getItem v u)→wpAny (model X.prog X.w) X.A (subscriptTail value slice v u) (EP X pins σ Q) X.xe s
noncomputable def MtR (X:Cx) (id:String) (r:V→List V→Hp→VK→Prop):Prop :=
  ∀ (pins:List (Addr × Obj)) (s:Shared) (σ:St) (H:Hp) (x:V) (xs:List V) (v:Value) (us:List Value) (Q:VK),Inv X pins σ H s→RelV x v→Vals xs us→r x xs H Q →
    wpAny (model X.prog X.w) X.A (call (.builtin id) (v :: us)) (EP X pins σ Q) X.xe s
section
variable {X:Cx} {a b:Expr} {ta tb:TE} {pos:Pos}
theorem IxR.or {r r':R2} (h:IxR X r) (h':IxR X r'):IxR X (fun x y H Q=>r x y H Q∨r' x y H Q):=by
  intro value slice pins s σ H x y v u Q I rx ry q hs
  rcases q with q | q
  · exact h value slice pins s σ H x y v u Q I rx ry q hs
  · exact h' value slice pins s σ H x y v u Q I rx ry q hs
theorem pe_ix {r:R2} (hr:IxR X r) (ha:PE X a ta) (hb:PE X b tb) (hs:PlainIx b):PE X (.Subscript a b pos) (tOp r ta tb):=by
  intro pins s σ H Q I h
  exact Subscript_ (binT ha hb I h fun v u s2 x y H2 I2 rx ry q=>hr a b pins s2 σ H2 x y v u Q I2 rx ry q (hs _ _))
noncomputable def rIxL (K:PySem.W.Frag):R2:=fun x y H Q=>∃ p xs i v,x = .ref p∧y = .int i∧SqL K H p xs∧atI xs i = some v∧Q v H
noncomputable def rIxT (K:PySem.W.Frag):R2:=fun x y H Q=>∃ p xs i v,x = .ref p∧y = .int i∧SqT K H p xs∧atI xs i = some v∧Q v H
noncomputable def rIxS:R2:=fun x y H Q=>∃ z i c,x = .str z∧y = .int i∧z.length ≤ sizeLine∧atI z.cps.toList i = some c∧Q (.str ⟨#[c]⟩) H
theorem ix_list:IxR X (rIxL X.K):=by
  intro value slice pins s σ H x y v u Q I rx ry h hs
  obtain ⟨p,xs,i,z,rfl,rfl,hq,he,q⟩:=h
  cases rx
  obtain ⟨t,rfl⟩:=ry
  obtain ⟨its,r,pl,hz⟩:=I.list hq
  obtain ⟨j,h1,h2,h3,h4,h5⟩:=atI_get he
  obtain ⟨w,ew,rw'⟩:=r.get h2
  have hl:=r.length
  have hn:=line63
  have fin:EP X pins σ Q w s:=⟨z,H,I,rw',q⟩
  by_cases h0:0 ≤ i
  · have hj:i.toNat = j:=by
      rw [seqIndex_of h0 h5] at h1
      exact Option.some.inj h1
    exact item_listR pl.isList h0 (by omega) (by rw [hj]; simpa using ew) fin hs
  · have hj:(i + (its.toArray.size:Int)).toNat = j:=by
      rw [seqIndex_neg (by omega) h4] at h1
      rw [List.size_toArray,← hl]
      exact Option.some.inj h1
    exact subscriptTail_builtinR (x:=w) pl.isList.typeIs slot_list_getitem.lookup
      (wpAny_getItem_list_neg (Q:=fun r s'=>r = w∧EP X pins σ Q r s') pl.isList (by omega) (by rw [List.size_toArray] <;> omega) (by omega) (by rw [hj]; simpa using ew) ⟨rfl,fin⟩) hs
theorem ix_tup:IxR X (rIxT X.K):=by
  intro value slice pins s σ H x y v u Q I rx ry h hs
  obtain ⟨p,xs,i,z,rfl,rfl,hq,he,q⟩:=h
  cases rx
  obtain ⟨t,rfl⟩:=ry
  obtain ⟨its,r,pl,hz⟩:=I.tuple hq
  obtain ⟨j,h1,h2,h3,h4,h5⟩:=atI_get he
  obtain ⟨w,ew,rw'⟩:=r.get h2
  have hl:=r.length
  have hn:=line63
  have fin:EP X pins σ Q w s:=⟨z,H,I,rw',q⟩
  exact subscriptTail_builtinR (x:=w) pl.typeIs slot_tuple_getitem.lookup
    (getItem_tuple (j:=j) (Q:=fun r s'=>r = w∧EP X pins σ Q r s') pl (by omega) (by omega) (by rw [List.size_toArray,← hl]; exact h1) (by simpa using ew) ⟨rfl,fin⟩) hs
theorem ix_str:IxR X rIxS:=by
  intro value slice pins s σ H x y v u Q I rx ry h hs
  obtain ⟨z,i,c,rfl,rfl,hz,he,q⟩:=h
  obtain ⟨t,rfl⟩:=rx
  obtain ⟨t',rfl⟩:=ry
  obtain ⟨j,h1,h2,h3,h4,h5⟩:=atI_get he
  have hl:z.cps.toList.length = z.length:=by simp [Str.length]
  rw [hl] at h1 h4 h5
  have hn:=line63
  exact tail_any (typeIs_str s z t) slot_str_getitem.lookup (getItem_str (c:=c) (by
    have e1:decide (i < -(2 ^ 63:Int)) = false:=decide_eq_false (by omega)
    have e2:decide (i ≥ 2 ^ 63) = false:=decide_eq_false (by omega)
    rw [e1,e2,Bool.or_false]) (by rw [h1]; simpa using h2) ⟨.str ⟨#[c]⟩,H,I.tok _,⟨_,rfl⟩,q⟩) hs
noncomputable def rIx (K:PySem.W.Frag):R2:=fun x y H Q=>rIxL K x y H Q∨rIxT K x y H Q∨rIxS x y H Q
theorem ix_seq:IxR X (rIx X.K):=ix_list.or (ix_tup.or ix_str)
theorem call_len_seq:CallR X (.builtin "len") (fun xs H Q=>∃ p ys,xs = [.ref p]∧(SqL X.K H p ys∨SqT X.K H p ys)∧Q (.int ys.length) H):=by
  intro pins s σ H xs us Q I r h
  obtain ⟨p,ys,rfl,hq,q⟩:=h
  obtain ⟨u,rfl,rx⟩:=vals1 r
  cases rx
  have hn:=line63
  rcases hq with hq | hq
  · obtain ⟨its,r',pl,hz⟩:=I.list hq
    have hlen:=r'.length
    exact Calls.call_len_list pl.isList (by simp only [List.size_toArray] <;> omega) ⟨.int ys.length,H,I.tok _,⟨s.toks + 1,by rw [List.size_toArray,hlen]⟩,q⟩
  · obtain ⟨its,r',pl,hz⟩:=I.tuple hq
    have hlen:=r'.length
    exact len_tuple pl (by simp only [List.size_toArray] <;> omega) ⟨.int ys.length,H,I.tok _,⟨s.toks + 1,by rw [List.size_toArray,hlen]⟩,q⟩
noncomputable def tyV (K:PySem.W.Frag) (T:String) (x:V) (H:Hp):Prop:=match x with
  | .str _=>T = "str"
  | .int _=>T = "int"
  | .ref p=>(T = "list"∧∃ xs,SqL K H p xs)∨(T = "tuple"∧∃ o,K.lookup p = some o∧o.cls = .type "tuple"∧o.dict = none) ∨
      (T = "dict"∧((∃ kvs,H p = some (.dK kvs))∨∃ kvs,H p = some (.dT kvs)))∨(T = "set"∧∃ S n,H p = some (.set S n))
  | _=>False
theorem tyV_is {pins:List (Addr × Obj)} {σ:St} {H:Hp} {s:Shared} {T:String} {x:V} {v:Value} (I:Inv X pins σ H s) (r:RelV x v) (ty:tyV X.K T x H) :
    s.TypeIs v T∧∀ a,v = .ref a→∃ ob,s.heap.get? a = some ob∧ob.dict = none:=by
  cases x with
  | str z =>
    obtain ⟨t,rfl⟩:=r
    cases (show T = "str" from ty)
    exact ⟨typeIs_str s z t,fun _ e=>nomatch e⟩
  | int i =>
    obtain ⟨t,rfl⟩:=r
    cases (show T = "int" from ty)
    exact ⟨typeIs_int s i t,fun _ e=>nomatch e⟩
  | ref p =>
    cases r
    rcases ty with ⟨rfl,xs,hq⟩ | ⟨rfl,o,hk,hc,hd⟩ | ⟨rfl,hk⟩ | ⟨rfl,S,n,hk⟩
    · obtain ⟨its,_,pl,_⟩:=I.list hq
      refine ⟨pl.isList.typeIs,fun a e=>?_⟩
      cases e
      obtain ⟨o,n,e,c,hd,_⟩:=pl
      exact ⟨o,e,hd⟩
    · refine ⟨⟨o,I.kIn p o hk,hc⟩,fun a e=>?_⟩
      cases e
      exact ⟨o,I.kIn _ o hk,hd⟩
    · have z:∃ o,s.heap.get? p = some o∧o.ExactDict:=by
        rcases hk with ⟨kvs,hk⟩ | ⟨kvs,hk⟩
        · obtain ⟨_,_,_,_,o,_,_,e,ex,_⟩:=I.hok p _ hk
          exact ⟨o,e,ex⟩
        · obtain ⟨_,_,_,_,o,_,_,e,ex,_⟩:=I.hok p _ hk
          exact ⟨o,e,ex⟩
      obtain ⟨o,e,ex⟩:=z
      refine ⟨⟨o,e,ex.1⟩,fun a e2=>?_⟩
      cases e2
      exact ⟨o,e,ex.2.1⟩
    · obtain ⟨o,_,_,_,e,ex,_⟩:=I.hok p _ hk
      refine ⟨⟨o,e,ex.1⟩,fun a e2=>?_⟩
      cases e2
      exact ⟨o,e,ex.2.1⟩
  | _=>exact False.elim ty
noncomputable def tBM (K:PySem.W.Frag) (T:String) (r:V→List V→Hp→VK→Prop) (to:TE) (t:TA):TE:=fun σ H Q=>to σ H fun x H1=>tyV K T x H1∧t σ H1 fun xs H2=>r x xs H2 Q
variable {o e:Expr} {es:List Expr} {to:TE} {t:TA} {name:Str} {apos cpos:Pos} {T id:String} {r:V→List V→Hp→VK→Prop}
theorem pe_bm (pa:PlainAttrs T) (slot:Slot T name id) (hty:typeOf (.builtin id) = pure (.type "method_descriptor")) (hm:MtR X id r) (ho:PE X o to) (ha:PA X (e :: es) t)
    (hbase:autoParam (attributeBase o name X.env (eval o X.env) = eval o X.env) ZA.a3._auto_1)
    (hfew:autoParam (((backTo cpos (starEach (e :: es) X.env)).all (fun x=>!x.1) && (backToKw cpos (keywordEach [] X.env)).all (fun x=>x.1.isSome)
      && decide ((e :: es).length + ([]:List Keyword).length + (if ([]:List Keyword).isEmpty then 0 else 1) < 30)) = true) ZA.a3._auto_1)
    (hline:autoParam ((apos.endLine == cpos.line) = true) ZA.a3._auto_1) (hs:autoParam (starEach (e :: es) X.env = (false,eval e X.env) :: starEach es X.env) ZA.a3._auto_1) (hplain:autoParam ((backTo cpos (starEach es X.env)).any (·.1) = false) ZA.a3._auto_1) :
    PE X (.Call (.Attribute o name apos) (e :: es) [] cpos) (tBM X.K T r to t):=by
  intro pins s σ H Q I h
  refine wpAny_Call_method_late hbase hfew hline rfl (thn (ho pins s σ H _ I h) fun v s1 zz35=>zz35.elim fun x zz=>zz.elim fun H1 zz=>zz.elim fun I1 zz=>zz.elim fun r1 zz=>zz.elim fun ty q1=>?_)
  obtain ⟨h1,h2⟩:=tyV_is I1 r1 ty
  refine ⟨T,id,pa,slot,hty,h1,h2,?_⟩
  have hA:=ha cpos pins s1 σ H1 _ I1 q1
  rw [hs] at hA ⊢
  refine Calls.callWith_builtin (by show (false || (backTo cpos (starEach es X.env)).any (·.1)) = false; rw [hplain] <;> rfl) (Calls.evalArgs_plain ?_)
  exact thn hA fun us s2 zz36=>zz36.elim fun vs zz=>zz.elim fun H2 zz=>zz.elim fun I2 zz=>zz.elim fun r2 q2=>hm pins s2 σ H2 x vs v us Q I2 r1 r2 q2
end
end L2
namespace L2
open PySem PySem.Spec PyProof.Rows
noncomputable def MtM (X:Cx) (id:String) (r:V→List V→Hp→VK→Prop):Prop :=
  ∀ (pins:List (Addr × Obj)) (s:Shared) (σ:St) (H:Hp) (x:V) (xs:List V) (v:Value) (us:List Value) (Q:VK),Inv X pins σ H s→RelV x v→Vals xs us→r x xs H Q →
    wpAny (model X.prog X.w) X.A (call (.builtin id) (v :: us)) (EP X pins σ Q) X.xe s
theorem Vals.one:∀ {x:V} {us:List Value},Vals [x] us→∃ u,us = [u]∧RelV x u
  | _,_,.cons r .nil=>⟨_,rfl,r⟩
section
variable {X:Cx} {pins:List (Addr × Obj)} {σ:St} {H:Hp} {s:Shared} {l b:Addr} {xs ys zs:List V}
theorem Inv.lset {its its':List Value} {n:Nat} {f:Array Value→Array Value} {t':Nat} (I:Inv X pins σ H s) (hH:H l = some (.lst xs))
    (e:s.heap.get? l = some { cls:=.type "list",data:=.seq its.toArray n }) (hf:f its.toArray = its'.toArray) (hv:Vals ys its') (hz:ys.length ≤ sizeLine) :
    Inv X pins σ (upd H l (.lst ys)) { s with heap:=s.heap.update l (Obj.mapSeq f),toks:=t' }:=by
  have q:=PySem.IsL.update e f
  rw [hf] at q
  refine I.write (x:=l) (e:=l) (by rw [hH]; exact trivial) (.inl rfl) (fun b' u hb hu=>(Heap.get?_update_other s.heap (Obj.mapSeq f) (Ne.symm hb)).trans hu) ⟨_,q⟩ ?_
  exact ⟨hz,its',_,hv,q⟩
theorem Inv.lnew {its:List Value} {t':Nat} (I:Inv X pins σ H s) (hv:Vals ys its) (hz:ys.length ≤ sizeLine) :
    Inv X pins σ (upd H s.heap.objs.size (.lst ys)) { s with heap:=s.heap.push { cls:=.type "list",data:=.seq its.toArray },toks:=t' } :=
  I.laid (fun _ _ q=>Heap.get?_push_of_some _ q) (Nat.le_refl _) ⟨hz,its,0,hv,Heap.get?_push_size _ rfl⟩
theorem Inv.fresh (I:Inv X pins σ H s):H s.heap.objs.size = none:=I.hok.fresh (Nat.le_refl _)
theorem Inv.lstM (I:Inv X pins σ H s) (hH:H l = some (.lst xs)):xs.length ≤ sizeLine∧∃ (its:List Value) (n:Nat),Vals xs its∧xs.length = its.length∧s.heap.get? l = some { cls:=.type "list",data:=.seq its.toArray n }:=by
  obtain ⟨z,its,n,r,e⟩:=I.hok l _ hH
  exact ⟨z,its,n,r,r.length,e⟩
theorem notLongL {n:Nat} (h:n ≤ sizeLine):Builtin.List.listTooLong n = false:=by
  unfold Builtin.List.listTooLong
  exact decide_eq_false (by omega)
end
section
variable {X:Cx}
noncomputable def rAppend:V→List V→Hp→VK→Prop:=fun x vs H Q=>∃ l xs y,x = .ref l∧vs = [y]∧H l = some (.lst xs)∧xs.length < sizeLine∧Q .non (upd H l (.lst (xs ++ [y])))
theorem mt_append:MtM X "list.append" rAppend:=by
  intro pins s σ H x vs v us Q I rx rv h
  obtain ⟨l,xs,y,rfl,rfl,hH,hz,q⟩:=h
  cases rx
  obtain ⟨u,rfl,ru⟩:=rv.one
  obtain ⟨z,its,n,r,hl,e⟩:=I.lstM hH
  refine call_meets F.slot_list_append ⟨_,e,rfl⟩ F.entry_list_append (F.args_list_append_2 _ _) (PySem.list_append l its.toArray n u (by rw [List.size_toArray]; omega)) ⟨e,?_⟩
  refine ⟨.non,_,I.lset (its':=its ++ [u]) hH e (by simp) (r.append (.cons ru .nil)) ?_,rfl,q⟩
  rw [List.length_append,List.length_singleton]
  omega
end
section
variable {prog:Program} {w:World} {A:Around} {E:Value→Shared→Prop} {s:Shared}
end
section
variable {X:Cx}
end
end L2
namespace Att
open PySem PySem.W PySem.Calls PyProof.Rows
theorem ints_of_wellAll {P:Params} {h:Heap}:∀ (ns:List Int) (vs:List Value),WellAll P h vs (ns.map WData.int)→IntsAre vs ns:=by
  intro ns
  induction ns with
  | nil =>
    intro vs w
    rw [List.map_nil] at w
    cases w
    exact .nil
  | cons n ns ih =>
    intro vs w
    rw [List.map_cons] at w
    cases w with
    | cons a b =>
      cases a
      exact .cons _ _ (ih _ b)
theorem script_of {l:OpenLaw} {n:Nat} (hn:l.most = some n) {P:Params} {h:Heap} {args:List WData} {vals:List Value}
    (hpre:l.row.toRowW.claim.pre args = true) (hwl:WellAll P h vals args) :
    ∃ a vs ns,vals = [Value.ref a]∧args = [WData.list (ns.map WData.int)]∧h.get? a = some { cls:=.type "list",data:=.seq vs.toArray }∧IntsAre vs ns∧ns.length ≤ n:=by
  have hsh:WShape.hasAll [] args [.list .int] = true:=(pre_splitW hpre).1
  have hc:l.pre.holds [] { args:=args } = true:=(pre_splitW hpre).2
  obtain ⟨d,r,rfl,h1,h2⟩:=hasAllW_cons hsh
  obtain rfl:=hasAllW_nil h2
  obtain ⟨xs,rfl,h3⟩:=hasW_list h1
  obtain ⟨ns,rfl⟩:=items_int h3
  have hlen:ns.length ≤ n:=by
    unfold OpenLaw.pre at hc
    have h4:(WTm.not (.lt (.lit (.int (n:Int))) (.len (.arg 0)))).holds [] { args:=[.list (ns.map .int)] } = true:=by
      have h4:=(holds_andW hc).1
      rw [hn] at h4
      exact h4
    have h5:=condW_of h4 (w_not (w_lt w_lit (w_len_list (w_arg rfl))))
    rw [List.length_map] at h5
    refine Nat.le_of_not_lt fun q=>?_
    have q':(n:Int) < ((ns.length:Nat):Int):=by omega
    first
      | (rw [decide_eq_true q'] at h5; exact absurd h5 (by decide))
      | (simp at h5; omega)
  cases hwl with
  | cons w1 w2 =>
    cases w2
    cases w1 with
    | list ho hall=>exact ⟨_,_,ns,rfl,rfl,ho,ints_of_wellAll ns _ hall,hlen⟩
theorem post_true (l:OpenLaw) (args:List WData):l.row.toRowW.claim.post args (.bool true) args = true :=
  postW_of (r:=l.row.toRowW) (X:=(true == true))
    (show WShape.has [] (.bool true) .bool = true by first | rfl | decide | simp [WShape.has,WShape.arms,WShape.armsAll])
    (show (WTm.eq .res (.lit (.bool true))).value [] { args:=args,res:=some (.bool true),after:=args } = some (.bool (true == true)) from w_eq_bool (w_res rfl) w_lit) rfl
theorem attach_call {l:OpenLaw} {n:Nat} {q:Program} {loose:List Str} {XP:(Str→Option Value)→Heap→Prop} {YP:World→Heap→Prop} {d:DefRec}
    (hn:l.most = some n) (hdf:d.params.defaults = [])
    (call:∀ (w:World) (s₀ s₁:Shared) (mg mb:Str→Option Value) (fa:Addr) (o:Obj) (pm cd doc:Value) (a:Addr) (vs:List Value) (ns:List Int),
      Ground q loose [] XP w s₀ mg mb s₁.heap→YP w s₁.heap →
      s₁.heap.get? fa = some o→o.data = .func (docDef d.name d.params d.body d.scope pm cd doc)→s₁.heap.CodeRec cd d.name→mg d.name = some (.ref fa) →
      s₁.heap.get? a = some { cls:=.type "list",data:=.seq vs.toArray }→IntsAre vs ns→ns.length ≤ n→s₁.gens = #[] →
      codeAny (model l.prog w) callerA (.call (.ref fa) ⟨[.ref a],[]⟩) (fun r s'=>r = .ok (.ret (.bool true))∧OldK s₁.heap s'.heap∧s'.os = s₁.os∧AllBare s'.gens) s₁) :
    WalkO q loose XP YP l.row.toRowW d [] (fun f vs=>PySem.call f vs):=by
  intro w s₀ s₁ mg mb G Y fa o pm cd doc dV kV ho hd hcd hD hmg hg args vals as hpre hlay hrd hwl hlo
  obtain rfl : dV = .none:=Dflts.none hD hdf
  obtain rfl : kV = .none:=Dflts.noKw hD
  obtain ⟨a,vs,ns,rfl,rfl,hobj,hints,hlen⟩:=script_of hn hpre hwl
  refine enter_call (codeAny_mono (call w s₀ s₁ mg mb fa o pm cd doc a vs ns G Y ho (fd_plain hd) hcd hmg hobj hints hlen hg) fun r s' hq=>?_)
  obtain ⟨rfl,h2,h3,h4⟩:=hq
  exact ⟨.inl ⟨.bool true,.bool true,[],rfl,fun _=>rfl,.bool true,post_true l _,fun _=>⟨List.Pairwise.nil,fun _ hm=>(nomatch hm)⟩⟩,h2,h3,h4⟩
section
variable {prog:Program} {w:World} {A:Around} {E:Value→Shared→Prop} {s:Shared} {K:Frag}
end
end Att
namespace L2
open PySem PySem.Spec PyProof.Rows
theorem vals_ints:∀ {vs:List Value} {ns:List Int},IntsAre vs ns→Vals (ns.map V.int) vs
  | _,_,.nil=>.nil
  | _,_,.cons n t h=>.cons ⟨t,rfl⟩ (vals_ints h)
noncomputable def Only (H:Hp):Prop:=∀ b,H b = none∨∃ o xs,H b = some (.frz o (.lst xs))
theorem law_call {P:Program} {w:World} {K:PySem.W.Frag} {mg mb:Str→Option Value} {CX:CXT} {k:Nat} {fa a:Addr} {fd:FuncData} {x:Str} {sp:Sp} {s₁:Shared} {vs:List Value} {ns:List Int}
    (KX:K.In s₁.heap) (hns:s₁.heap.Ns mainGlobals mg) (hb:s₁.heap.Ns builtinsNs mb) (hbb:∀ x:Str,x ≠ "__name__"→mb x = bootBuiltins x) (hlim:s₁.heap.NoLimit) (hg:s₁.gens = #[])
    (ha:s₁.heap.get? a = some { cls:=.type "list",data:=.seq vs.toArray }) (hi:IntsAre vs ns) (hl:ns.length ≤ sizeLine) (hr:Room k callerA)
    (F:∀ base:Heap,K.In base→base.Ns mainGlobals mg→FnOk P w K mg base CX k fa fd [x] sp) (hbind:∀ (s:Shared) (u:Value),BindsTo s fd ⟨[u],[]⟩ [(x,u)])
    (hsp:∀ H:Hp,Only H→SqL K H a (ns.map V.int)→sp [.ref a] H (fun v _=>v = .bl true) fun _ _ _=>False)
    (hCX:∀ H e s',CX [] H s₁ (fun _ _ _=>False) e s'→False) :
    codeAny (model P w) callerA (.call (.ref fa) ⟨[.ref a],[]⟩) (fun r s'=>r = .ok (.ret (.bool true))∧OldK s₁.heap s'.heap∧s'.os = s₁.os∧AllBare s'.gens) s₁:=by
  have rv:=vals_ints hi
  have lenV:=hi.length
  have core:∀ H:Hp,Only H→SqL K H a (ns.map V.int)→HOk P w H s₁.heap→(∀ b,H b ≠ none→b = a)→(H a ≠ none→K.lookup a = none) →
      codeAny (model P w) callerA (.call (.ref fa) ⟨[.ref a],[]⟩) (fun r s'=>r = .ok (.ret (.bool true))∧OldK s₁.heap s'.heap∧s'.os = s₁.os∧AllBare s'.gens) s₁:=by
    intro H hO hS hok hA hK
    have base_of:∀ {b:Addr} {o:Obj},s₁.heap.get? b = some o→H b = none→(hidT s₁.heap H).get? b = some o:=fun e n=>hidT_get e n
    have noA:∀ {b:Addr} {o:Obj} {es:Array DictEntry} {ep:Nat},s₁.heap.get? b = some o→o.data = .dict es ep→H b = none:=fun {b o es ep} e d=>by
      cases q:H b with
      | none=>rfl
      | some u =>
        have e':b = a:=hA b (by rw [q]; simp)
        subst e'
        rw [ha] at e; cases e
        have d':Data.seq vs.toArray _ = Data.dict es ep:=d
        cases d'
    have nsK:∀ {b:Addr} {m:Str→Option Value},s₁.heap.Ns b m→(hidT s₁.heap H).Ns b m:=fun {b m} zz37=>zz37.elim fun o zz=>zz.elim fun es zz=>zz.elim fun ep zz=>zz.elim fun e zz=>zz.elim fun d r=>⟨o,es,ep,base_of e (noA e d),d,r⟩
    have hKb:K.In (hidT s₁.heap H):=fun b o e=>base_of (KX b o e) (by
      cases q:H b with
      | none=>rfl
      | some u =>
        have e':b = a:=hA b (by rw [q]; simp)
        subst e'
        rw [hK (by rw [q]; simp)] at e; cases e)
    have hM:Mod K mg (hidT s₁.heap H):=⟨hKb,nsK hns,⟨mb,nsK hb,hbb⟩,let ⟨mc,h1,h2⟩:=hlim; ⟨mc,nsK h1,h2⟩⟩
    have e0:Env0 P w K mg (hidT s₁.heap H) callerA [] s₁ H:=⟨rfl,hM,fun b o e=>of_hidT e,Nat.le_of_eq (hidT_size _ _),trivial,fun b hb=>absurd (show b ∈ ([]:List Addr) from hb) (by simp),hok,.of_eq hg⟩
    refine codeAny_mono ((F _ hKb (nsK hns)).run callerA [] s₁ H ⟨[.ref a],[]⟩ [.ref a] [.ref a] _ _ hr e0 (hbind s₁ (.ref a)) (.cons rfl .nil) (hsp H hO hS)) fun r s' h=>?_
    cases r with
    | error e=>exact (hCX H e s' h).elim
    | ok fl =>
      cases fl with
      | next=>exact False.elim h
      | brk=>exact False.elim h
      | cont=>exact False.elim h
      | ret u =>
        obtain ⟨v,H',os,bare,un,hok',r',q⟩:=h
        have q':v = .bl true:=q
        subst q'
        obtain rfl : u = Value.bool true:=r'
        refine ⟨rfl,OldK.of_keep fun b o e=>?_,os,bare⟩
        cases q:H b with
        | none=>exact un.keep b o e q (by intro z; exact absurd (show b ∈ ([]:List Addr) from z) (by simp)) (by simp)
        | some u =>
          rcases hO b with z | ⟨ob,xs,z⟩
          · rw [q] at z; cases z
          · have z2:=un.frzs b ob _ z
            obtain ⟨e1,_⟩:=hok b _ z
            obtain ⟨e2,_⟩:=hok' b _ z2
            rw [e] at e1; cases e1
            exact e2
  cases hk:K.lookup a with
  | some o =>
    have e:=KX a o hk
    rw [ha] at e
    cases e
    refine core (fun _=>none) (fun _=>.inl rfl) (.inr ⟨_,vs.toArray,_,hk,rfl,rfl,rfl,by rw [List.size_toArray,lenV]; exact hl,by simpa using rv⟩) (fun b u z=>by have z':(none:Option HO) = some u:=z; cases z') (fun b z=>absurd rfl z) fun z=>absurd rfl z
  | none =>
    refine core (fun b=>if b = a then some (.frz { cls:=.type "list",data:=.seq vs.toArray } (.lst (ns.map V.int))) else none) (fun b=>?_) (.inl (.inr ⟨{ cls:=.type "list",data:=.seq vs.toArray },if_pos rfl⟩)) (fun b u z=>?_) (fun b z=>?_) fun _=>hk
    · by_cases hb:b = a
      · exact .inr ⟨_,_,if_pos hb⟩
      · exact .inl (if_neg hb)
    · by_cases hb:b = a
      · have z':=(if_pos hb).symm.trans z
        cases z'
        subst hb
        exact ⟨ha,by rw [List.length_map]; exact hl,vs,_,rv,ha⟩
      · have z':=(if_neg hb).symm.trans z
        cases z'
    · by_cases hb:b = a
      · exact hb
      · exact absurd (if_neg hb) z
end L2
namespace L2
open PySem PySem.Spec PyProof.Rows
theorem walk_of {l:PySem.W.OpenLaw} {n k:Nat} {q:Program} {loose:List Str} {XP:(Str→Option Value)→Heap→Prop} {YP:World→Heap→Prop} {d:DefRec} {K:Params→PySem.W.Frag} {CX:World→CXT} {sp:World→Sp} {x:Str}
    (hn:l.most = some n) (hn2:n ≤ sizeLine) (hdf:d.params.defaults = []) (hr:Room k callerA)
    (hY:∀ (w:World) (h:Heap),YP w h→(K w.params).In h)
    (F:∀ (w:World) (mg:Str→Option Value) (fa:Addr) (h:Heap),(K w.params).In h→h.Ns mainGlobals mg→mg d.name = some (.ref fa) →
      ∃ fd:FuncData,(∀ (s:Shared) (u:Value),BindsTo s fd ⟨[u],[]⟩ [(x,u)]) ∧
        ∀ base:Heap,(K w.params).In base→base.Ns mainGlobals mg→FnOk l.prog w (K w.params) mg base (CX w) k fa fd [x] (sp w))
    (hsp:∀ (w:World) (H:Hp) (a:Addr) (ns:List Int),ns.length ≤ n→Only H→SqL (K w.params) H a (ns.map V.int)→sp w [.ref a] H (fun v _=>v = .bl true) fun _ _ _=>False)
    (hCX:∀ (w:World) (H:Hp) (s:Shared) (e:Value) (s':Shared),CX w [] H s (fun _ _ _=>False) e s'→False) :
    PySem.W.WalkO q loose XP YP l.row.toRowW d [] (fun f vs=>PySem.call f vs):=by
  refine Att.attach_call hn hdf fun w s₀ s₁ mg mb fa o pm cd doc a vs ns G Y ho hd hcd hmg hobj hints hlen hg=>?_
  have KX:=hY w _ Y
  obtain ⟨fd,hb,hF⟩:=F w mg fa _ KX G.T.g hmg
  exact law_call KX G.T.g G.T.b G.T.builtins G.T.nolimit hg hobj hints (Nat.le_trans hlen hn2) hr hF hb (fun H hO hS=>hsp w H a ns hlen hO hS) fun H e s'=>hCX w H s₁ e s'
end L2
namespace L2
open PySem PySem.Spec PyProof.Rows
noncomputable def inClass (s:Stmt) (j:Nat):Stmt:=match s with
  | .ClassDef _ _ _ body _ _ _ _ _ _ _=>body.getD j (.Pass ⟨0,0,0,0⟩)
  | _=>.Pass ⟨0,0,0,0⟩
noncomputable def defArgs (s:Stmt):Arguments:=match s with
  | .FunctionDef _ a _ _ _ _ _ _ _ _=>a
  | _=>{ posonlyargs:=[],args:=[],vararg:=none,kwonlyargs:=[],kw_defaults:=[],kwarg:=none,defaults:=[] }
noncomputable def defBody (s:Stmt):List Stmt:=match s with
  | .FunctionDef _ _ b _ _ _ _ _ _ _=>b
  | _=>[]
noncomputable def defScope (s:Stmt):Scope:=match s with
  | .FunctionDef _ _ _ _ _ _ sc _ _ _=>sc
  | _=>{ kind:=.function,names:=[],isGenerator:=false,isCoroutine:=false }
noncomputable abbrev CX0:CXT:=fun _ _ _ _ _ _=>False
noncomputable abbrev E0:XK:=fun _ _ _=>False
theorem pass0 {X:Cx}:Passes CX0 X E0:=fun _ _ _ _ _ _ _ h=>h.elim
structure Fun (K:PySem.W.Frag) (x qual:Str) (st:Stmt) (f:Addr) (fd:FuncData):Prop where
  ex:∃ (oc:Value) (od:Option Addr) (kV doc pm:Value) (an:Option Addr) (cdv ct:Value) (osl:Array (Option Value)),
    fd = PySem.W.fnOf x qual (defArgs st) (defBody st) (defScope st) .none kV doc pm an cdv ct∧K.lookup f = some ⟨oc,od,.func fd,osl⟩∧PySem.W.codeIn K cdv qual = true
  kp:PySem.W.keepIn K (.ref f) = true
section
variable {P:Program} {w:World} {K:PySem.W.Frag} {mg:Str→Option Value} {base:Heap}
theorem Fun.ok {x qual:Str} {st:Stmt} {f:Addr} {fd:FuncData} {N ps:List Str} {k:Nat} {sp:Sp} (F:Fun K x qual st f fd) (S:FnScope N ps (defScope st)) (len:∀ vs H Q E,sp vs H Q E→vs.length = ps.length)
    (hbody:∀ (cdv:Value) (A:Around) (outer:List Env) (s:Shared) (H:Hp) (vs:List V) (Q:VK) (E:XK),Room k (A.deeper (envOfC qual (defScope st) s.heap.objs.size f cdv))→sp vs H Q E →
      ∃ t,PSs (cxOf CX0 P w K mg base N qual (defScope st) f cdv A outer s H E).nox (defBody st) t∧t { nx:=fun _ H'=>Q .non H',rt:=Q } (start N vs) H):FnOk P w K mg base CX0 (k + 1) f fd ps sp:=by
  obtain ⟨oc,od,kV,doc,pm,an,cdv,ct,osl,rfl,lk,hcd⟩:=F.ex
  refine fn_of lk hcd S len fun A outer s H vs Q E hr hsp=>?_
  obtain ⟨t,h,q⟩:=hbody cdv A outer s H vs Q E hr hsp
  exact ⟨t,h.nox,q⟩
theorem Fun.binds {x qual:Str} {st:Stmt} {f:Addr} {fd:FuncData} {ps:List Str} (F:Fun K x qual st f fd)
    (h:∀ (kV doc pm:Value) (an:Option Addr) (cdv ct:Value) (us:List Value),us.length = ps.length→bindArgs (PySem.W.fnOf x qual (defArgs st) (defBody st) (defScope st) .none kV doc pm an cdv ct) ⟨us,[]⟩ = pure (ps.zip us)):Binds K fd ps []:=by
  obtain ⟨oc,od,kV,doc,pm,an,cdv,ct,osl,rfl,lk,hcd⟩:=F.ex
  exact .all (h kV doc pm an cdv ct)
theorem fun_mk {x qual:Str} {st:Stmt} {f:Addr} {oc:Value} {od an:Option Addr} {osl:Array (Option Value)} {kV doc pm cdv ct:Value} (l:K.lookup f = some ⟨oc,od,.func (PySem.W.fnOf x qual (defArgs st) (defBody st) (defScope st) .none kV doc pm an cdv ct),osl⟩)
    (c:PySem.W.codeIn K cdv qual = true) (k:PySem.W.keepIn K (.ref f) = true):Fun K x qual st f (PySem.W.fnOf x qual (defArgs st) (defBody st) (defScope st) .none kV doc pm an cdv ct):=⟨⟨oc,od,kV,doc,pm,an,cdv,ct,osl,rfl,l,c⟩,k⟩
end
section
variable {X:Cx}
end
theorem iteF {A B:Prop} (h:B):if false = true then A else B:=by
  rw [if_neg Bool.false_ne_true]
  exact h
theorem iteT {A B:Prop} (h:A):if true = true then A else B:=by
  rw [if_pos rfl]
  exact h
theorem ite2 {c A B:Prop} [Decidable c] (h1:c→A) (h2:¬ c→B):if c then A else B:=by
  by_cases h:c
  · rw [if_pos h]
    exact h1 h
  · rw [if_neg h]
    exact h2 h
noncomputable def Same (H H':Hp):Prop:=∀ b o,H b = some o→H' b = some o
theorem Same.refl (H:Hp):Same H H:=fun _ _ h=>h
theorem Same.trans {H H1 H2:Hp} (a:Same H H1) (b:Same H1 H2):Same H H2:=fun c o h=>b c o (a c o h)
theorem Same.free {H H':Hp} (e:Same H H') {l:Addr} (h:H' l = Option.none):H l = Option.none:=by
  cases q:H l with
  | none=>rfl
  | some o =>
    rw [e l o q] at h
    cases h
theorem Same.seq {K:PySem.W.Frag} {H H':Hp} {a:Addr} {xs:List V} (e:Same H H') (h:SqL K H a xs):SqL K H' a xs:=by
  rcases h with (h | ⟨o,h⟩) | h
  · exact .inl (.inl (e _ _ h))
  · exact .inl (.inr ⟨o,e _ _ h⟩)
  · exact .inr h
end L2
namespace Dl
open PySem PySem.Spec PyProof.Rows L2
inductive D where
  | non | bl (b:Bool) | int (i:Int) | str (x:Str) | tup (l:List D) | lst (l:List D)
  deriving Inhabited
mutual
inductive Den (K:PySem.W.Frag) (G:Hp):V→D→Prop
  | non:Den K G .non .non
  | bl (b:Bool):Den K G (.bl b) (.bl b)
  | int (i:Int):Den K G (.int i) (.int i)
  | str (x:Str):Den K G (.str x) (.str x)
  | tup {a:Addr} {vs:List V} {ds:List D}:SqT K G a vs→DenL K G vs ds→Den K G (.ref a) (.tup ds)
  | lst {a:Addr} {vs:List V} {ds:List D}:SqL K G a vs→DenL K G vs ds→Den K G (.ref a) (.lst ds)
inductive DenL (K:PySem.W.Frag) (G:Hp):List V→List D→Prop
  | nil:DenL K G [] []
  | cons {v:V} {d:D} {vs:List V} {ds:List D}:Den K G v d→DenL K G vs ds→DenL K G (v :: vs) (d :: ds)
end
theorem Same.tupS {K:PySem.W.Frag} {H H':Hp} {a:Addr} {xs:List V} (e:Same H H') (h:SqT K H a xs):SqT K H' a xs:=by
  rcases h with (h | ⟨o,h⟩) | h
  · exact .inl (.inl (e _ _ h))
  · exact .inl (.inr ⟨o,e _ _ h⟩)
  · exact .inr h
section
variable {K:PySem.W.Frag} {G G':Hp}
mutual
theorem Den.up (e:Same G G'):∀ {v:V} {d:D},Den K G v d→Den K G' v d
  | _,_,.non=>.non
  | _,_,.bl b=>.bl b
  | _,_,.int i=>.int i
  | _,_,.str x=>.str x
  | _,_,.tup h l=>.tup (Same.tupS e h) (DenL.up e l)
  | _,_,.lst h l=>.lst (e.seq h) (DenL.up e l)
theorem DenL.up (e:Same G G'):∀ {vs:List V} {ds:List D},DenL K G vs ds→DenL K G' vs ds
  | _,_,.nil=>.nil
  | _,_,.cons h t=>.cons (Den.up e h) (DenL.up e t)
end
theorem DenL.length:∀ {vs:List V} {ds:List D},DenL K G vs ds→vs.length = ds.length
  | _,_,.nil=>rfl
  | _,_,.cons _ t=>by simp [DenL.length t]
theorem DenL.get:∀ {vs:List V} {ds:List D} {i:Nat} {d:D},DenL K G vs ds→ds[i]? = some d→∃ v,vs[i]? = some v∧Den K G v d
  | _,_,_,_,.nil,e=>by simp at e
  | _,_,0,_,.cons h _,e=>by simp at e; subst e; exact ⟨_,rfl,h⟩
  | _,_,i + 1,_,.cons _ t,e=>by
    obtain ⟨v,h1,h2⟩:=DenL.get (i:=i) t (by simpa using e)
    exact ⟨v,by simpa using h1,h2⟩
theorem DenL.getV:∀ {vs:List V} {ds:List D} {i:Nat} {v:V},DenL K G vs ds→vs[i]? = some v→∃ d,ds[i]? = some d∧Den K G v d
  | _,_,_,_,.nil,e=>by simp at e
  | _,_,0,_,.cons h _,e=>by simp at e; subst e; exact ⟨_,rfl,h⟩
  | _,_,i + 1,_,.cons _ t,e=>by
    obtain ⟨v,h1,h2⟩:=DenL.getV (i:=i) t (by simpa using e)
    exact ⟨v,by simpa using h1,h2⟩
theorem DenL.append:∀ {vs ws:List V} {ds es:List D},DenL K G vs ds→DenL K G ws es→DenL K G (vs ++ ws) (ds ++ es)
  | _,_,_,_,.nil,h=>h
  | _,_,_,_,.cons a t,h=>.cons a (DenL.append t h)
theorem DenL.ints:∀ (ns:List Int),DenL K G (ns.map V.int) (ns.map D.int)
  | []=>.nil
  | _ :: r=>.cons (.int _) (DenL.ints r)
theorem Den.int_inv {v:V} {i:Int} (h:Den K G v (.int i)):v = .int i:=by cases h; rfl
theorem Den.bl_inv {v:V} {i:Bool} (h:Den K G v (.bl i)):v = .bl i:=by cases h; rfl
theorem Den.str_inv {v:V} {i:Str} (h:Den K G v (.str i)):v = .str i:=by cases h; rfl
theorem Den.non_inv {v:V} (h:Den K G v .non):v = .non:=by cases h; rfl
theorem Den.tup_inv {v:V} {l:List D} (h:Den K G v (.tup l)):∃ a vs,v = .ref a∧SqT K G a vs∧DenL K G vs l:=by
  cases h with | tup h t=>exact ⟨_,_,rfl,h,t⟩
theorem Den.lst_inv {v:V} {l:List D} (h:Den K G v (.lst l)):∃ a vs,v = .ref a∧SqL K G a vs∧DenL K G vs l:=by
  cases h with | lst h t=>exact ⟨_,_,rfl,h,t⟩
end
inductive Fl where
  | sh (d:D) | ow (l:List D) | dc (kvs:List (Key × D)) | fz (q:Nat) (kvs:List (Key × D))
  deriving Inhabited
inductive Sl where
  | no | sh (d:D) | ow (l:List D) | mu (a:Nat) (l:List D) | ob (h:Option Nat) (C:Nat) (fs:List (Str × Fl)) | pt (a:Nat) | rc (h:Option Nat) (fs:List (Str × Fl))
noncomputable abbrev Ev:=List Sl
structure En where
  G:Hp
  H:Hp
  M:Addr→Prop
noncomputable abbrev Ow:=Addr→Option (Nat × Str)
inductive DenK (K:PySem.W.Frag) (G:Hp):List (Key × V)→List (Key × D)→Prop
  | nil:DenK K G [] []
  | cons {k:Key} {v:V} {d:D} {r:List (Key × V)} {s:List (Key × D)}:Den K G v d→DenK K G r s→DenK K G ((k,v) :: r) ((k,d) :: s)
theorem DenK.up {K:PySem.W.Frag} {G G':Hp} {vs:List (Key × V)} {ds:List (Key × D)} (hG:Same G G') (h:DenK K G vs ds):DenK K G' vs ds:=by
  induction h with
  | nil=>exact .nil
  | cons a _ ih=>exact .cons (Den.up hG a) ih
noncomputable def FlW (K:PySem.W.Frag) (G H:Hp) (ow:Ow) (i:Nat) (f:Str) (v:V):Fl→Prop
  | .sh d=>Den K G v d
  | .ow l=>∃ q vs,v = .ref q∧H q = some (.lst vs)∧ow q = some (i,f)∧DenL K G vs l
  | .dc kvs=>∃ q vs,v = .ref q∧H q = some (.dK vs)∧ow q = some (i,f)∧DenK K G vs kvs
  | .fz q kvs=>∃ ob vs,v = .ref q∧G q = some (.frz ob (.dK vs))∧DenK K G vs kvs
noncomputable def kx (p:Str × V):Key × V:=(Sum.inr p.1,p.2)
structure FsW (K:PySem.W.Frag) (G H:Hp) (ow:Ow) (i:Nat) (vfs:List (Str × V)) (fs:List (Str × Fl)):Prop where
  keys:vfs.map (·.1) = fs.map (·.1)
  at_:∀ f s,fs.lookup f = some s→∃ v,vfs.lookup f = some v∧FlW K G H ow i f v s
noncomputable def SlW (K:PySem.W.Frag) (n:En) (G H:Hp) (ow:Ow) (i:Nat) (o:Option (Option V)):Sl→Prop
  | .no=>True
  | .sh d=>∃ v,o = some (some v)∧Den K G v d
  | .ow l=>∃ p vs,o = some (some (.ref p))∧H p = some (.lst vs)∧n.H p = none∧ow p = some (i,("":Str))∧DenL K G vs l
  | .mu a l=>∃ vs,o = some (some (.ref a))∧H a = some (.lst vs)∧ow a = some (i,("":Str))∧DenL K G vs l
  | .ob h C fs=>∃ a dx vfs,o = some (some (.ref a))∧(∀ a0,h = some a0→a = a0)∧H a = some (.ins C dx vfs)∧H dx = some (.own a)∧ow a = some (i,("":Str))∧ow dx = some (i,("":Str))∧FsW K G H ow i vfs fs
  | .pt a=>o = some (some (.ref a))
  | .rc h fs=>∃ a vfs,o = some (some (.ref a))∧(∀ a0,h = some a0→a = a0)∧H a = some (.dK (vfs.map kx))∧ow a = some (i,("":Str))∧FsW K G H ow i vfs fs
noncomputable def SlOk (K:PySem.W.Frag) (n:En) (G H:Hp) (o:Option (Option V)):Sl→Prop
  | .no=>True
  | .sh d=>∃ v,o = some (some v)∧Den K G v d
  | .ow l=>∃ p vs,o = some (some (.ref p))∧H p = some (.lst vs)∧G p = none∧n.H p = none∧DenL K G vs l
  | .mu a l=>∃ vs,o = some (some (.ref a))∧H a = some (.lst vs)∧G a = none∧DenL K G vs l
  | .ob h C fs=>∃ a dx vfs,o = some (some (.ref a))∧(∀ a0,h = some a0→a = a0)∧H a = some (.ins C dx vfs)∧H dx = some (.own a)∧∃ ow i,FsW K G H ow i vfs fs
  | .pt a=>o = some (some (.ref a))
  | .rc h fs=>∃ a vfs,o = some (some (.ref a))∧(∀ a0,h = some a0→a = a0)∧H a = some (.dK (vfs.map kx))∧∃ ow i,FsW K G H ow i vfs fs
structure OwOk (n:En) (G H:Hp) (ow:Ow):Prop where
  is:∀ p k,ow p = some k→G p = none∧H p ≠ none∧(n.H p = none∨n.M p)
structure Rel (K:PySem.W.Frag) (n:En) (δ:Ev) (σ:L2.St) (G H:Hp):Prop where
  sub:Same G H
  eg:Same n.G G
  eh:∀ b o,n.H b = some o→¬ n.M b→H b = some o
  al:∀ b,H b = none→n.H b = none
  fr:∀ b o,G b = some o→n.G b = none→n.H b = none
  gh:∃ ow:Ow,OwOk n G H ow∧∀ (i:Nat) (s:Sl),δ[i]? = some s→SlW K n G H ow i σ[i]? s
  len:δ.length = σ.length
section
variable {K:PySem.W.Frag} {n:En} {δ δ':Ev} {σ σ':L2.St} {G H G' H':Hp} {p:Addr} {o:HO} {ow ow':Ow} {i i':Nat}
theorem FlW.keep {f:Str} {v:V} {s:Fl} (hG:Same G G') (hO:∀ p f,ow p = some (i,f)→ow' p = some (i',f)) (hH:∀ p f o,ow p = some (i,f)→H p = some o→H' p = some o) (h:FlW K G H ow i f v s):FlW K G' H' ow' i' f v s:=by
  cases s with
  | sh d=>exact Den.up hG h
  | ow l=>obtain ⟨q,vs,h1,h2,h3,h4⟩:=h; exact ⟨q,vs,h1,hH _ _ _ h3 h2,hO _ _ h3,h4.up hG⟩
  | dc l=>obtain ⟨q,vs,h1,h2,h3,h4⟩:=h; exact ⟨q,vs,h1,hH _ _ _ h3 h2,hO _ _ h3,h4.up hG⟩
  | fz q l=>obtain ⟨ob,vs,h1,h2,h3⟩:=h; exact ⟨ob,vs,h1,hG _ _ h2,h3.up hG⟩
theorem FsW.keep {vfs:List (Str × V)} {fs:List (Str × Fl)} (hG:Same G G') (hO:∀ p f,ow p = some (i,f)→ow' p = some (i',f)) (hH:∀ p f o,ow p = some (i,f)→H p = some o→H' p = some o) (h:FsW K G H ow i vfs fs):FsW K G' H' ow' i' vfs fs :=
  ⟨h.keys,fun f s e=>let ⟨v,h1,h2⟩:=h.at_ f s e; ⟨v,h1,h2.keep hG hO hH⟩⟩
theorem SlW.keep {s:Sl} {x:Option (Option V)} (hG:Same G G') (hO:∀ p f,ow p = some (i,f)→ow' p = some (i',f)) (hH:∀ p f o,ow p = some (i,f)→H p = some o→H' p = some o) (h:SlW K n G H ow i x s):SlW K n G' H' ow' i' x s:=by
  cases s with
  | no=>trivial
  | sh d=>obtain ⟨v,h1,h2⟩:=h; exact ⟨v,h1,h2.up hG⟩
  | ow l=>obtain ⟨p,vs,h1,h2,h3,h4,h5⟩:=h; exact ⟨p,vs,h1,hH _ _ _ h4 h2,h3,hO _ _ h4,h5.up hG⟩
  | mu a l=>obtain ⟨vs,h1,h2,h4,h5⟩:=h; exact ⟨vs,h1,hH _ _ _ h4 h2,hO _ _ h4,h5.up hG⟩
  | ob q C fs=>obtain ⟨a,dx,vfs,h1,h2,h3,h4,h5,h6,h7⟩:=h; exact ⟨a,dx,vfs,h1,h2,hH _ _ _ h5 h3,hH _ _ _ h6 h4,hO _ _ h5,hO _ _ h6,h7.keep hG hO hH⟩
  | pt a=>exact h
  | rc q fs=>obtain ⟨a,vfs,h1,h2,h3,h5,h7⟩:=h; exact ⟨a,vfs,h1,h2,hH _ _ _ h5 h3,hO _ _ h5,h7.keep hG hO hH⟩
theorem Rel.sl (R:Rel K n δ σ G H) (i:Nat) (s:Sl) (hs:δ[i]? = some s):SlOk K n G H σ[i]? s:=by
  obtain ⟨ow,ok,gh⟩:=R.gh
  have h:=gh i s hs
  cases s with
  | no=>trivial
  | sh d=>exact h
  | ow l=>obtain ⟨p,vs,h1,h2,h3,h4,h5⟩:=h; exact ⟨p,vs,h1,h2,(ok.is _ _ h4).1,h3,h5⟩
  | mu a l=>obtain ⟨vs,h1,h2,h4,h5⟩:=h; exact ⟨vs,h1,h2,(ok.is _ _ h4).1,h5⟩
  | ob q C fs=>obtain ⟨a,dx,vfs,h1,h2,h3,h4,h5,h6,h7⟩:=h; exact ⟨a,dx,vfs,h1,h2,h3,h4,ow,i,h7⟩
  | pt a=>exact h
  | rc q fs=>obtain ⟨a,vfs,h1,h2,h3,h5,h7⟩:=h; exact ⟨a,vfs,h1,h2,h3,ow,i,h7⟩
end
structure Ext (G H G' H':Hp):Prop where
  gg:Same G G'
  gh:Same G' H'
  hh:Same H H'
  fr:∀ b o,G' b = some o→G b = none→H b = none
theorem same_upd {H:Hp} {p:Addr} (h:H p = none) (o:HO):Same H (upd H p o):=fun b u q=>by rw [upd_ne (ne_of_none q h)]; exact q
theorem Ext.refl {G H:Hp} (s:Same G H):Ext G H G H:=⟨Same.refl _,s,Same.refl _,fun b o e e0=>(by rw [e0] at e; cases e)⟩
theorem Ext.laid {G H:Hp} {p:Addr} (s:Same G H) (h:H p = none) (o:HO):Ext G H (upd G p o) (upd H p o):=by
  have hG:G p = none:=s.free h
  refine ⟨same_upd hG o,fun b u e=>?_,same_upd h o,fun b u e e0=>?_⟩
  · by_cases hb:b = p
    · subst hb; rw [upd_same] at e ⊢; exact e
    · rw [upd_ne hb] at e ⊢; exact s b u e
  · by_cases hb:b = p
    · subst hb; exact h
    · rw [upd_ne hb,e0] at e; cases e
theorem Ext.trans {G H G1 H1 G2 H2:Hp} (a:Ext G H G1 H1) (b:Ext G1 H1 G2 H2):Ext G H G2 H2:=by
  refine ⟨a.gg.trans b.gg,b.gh,a.hh.trans b.hh,fun c o e e0=>?_⟩
  cases q:G1 c with
  | none=>exact a.hh.free (b.fr c o e q)
  | some u=>exact a.fr c u q e0
theorem upd_some {H:Hp} {p b:Addr} {o:HO} (h:H b ≠ none):upd H p o b ≠ none:=by
  by_cases hb:b = p
  · subst hb; rw [upd_same]; exact fun z=>by cases z
  · rw [upd_ne hb]; exact h
theorem same_some {H H':Hp} (s:Same H H') {b:Addr} (h:H b ≠ none):H' b ≠ none:=fun z=>h (s.free z)
noncomputable def owSet (ow:Ow) (p:Addr) (k:Option (Nat × Str)):Ow:=fun b=>if b = p then k else ow b
theorem owSet_same {ow:Ow} {p:Addr} {k:Option (Nat × Str)}:owSet ow p k p = k:=if_pos rfl
theorem owSet_ne {ow:Ow} {p b:Addr} {k:Option (Nat × Str)} (h:b ≠ p):owSet ow p k b = ow b:=if_neg h
section
variable {K:PySem.W.Frag} {n:En} {δ δ':Ev} {σ σ':L2.St} {G H G' H':Hp} {p:Addr} {o:HO}
theorem Rel.ext (R:Rel K n δ σ G H) (e:Ext G H G' H'):Rel K n δ σ G' H':=by
  obtain ⟨ow,ok,gh⟩:=R.gh
  refine ⟨e.gh,R.eg.trans e.gg,fun b u q m=>e.hh b u (R.eh b u q m),fun b q=>R.al b (e.hh.free q),fun b u q q0=>?_,⟨ow,⟨fun p k hk=>?_⟩,fun i s hs=>(gh i s hs).keep e.gg (fun _ _ z=>z) fun p f u _ z=>e.hh p u z⟩,R.len⟩
  · cases h:G b with
    | none=>exact R.al b (e.fr b u q h)
    | some w=>exact R.fr b w h q0
  · obtain ⟨h1,h2,h3⟩:=ok.is p k hk
    refine ⟨?_,same_some e.hh h2,h3⟩
    cases q:G' p with
    | none=>rfl
    | some w=>exact absurd (e.fr p w q h1) h2
theorem Rel.laid (R:Rel K n δ σ G H) (h:H p = none) (o:HO):Rel K n δ σ (upd G p o) (upd H p o):=R.ext (.laid R.sub h o)
theorem set_get {α:Type} {l:List α} {i j:Nat} {a b:α} (h:(l.set i a)[j]? = some b):(i = j∧b = a∧i < l.length)∨(i ≠ j∧l[j]? = some b):=by
  by_cases e:i = j
  · subst e
    rw [List.getElem?_set_self'] at h
    cases q:l[i]? with
    | none=>rw [q] at h; cases h
    | some w =>
      rw [q] at h
      have hb:a = b:=by simpa using h
      have:=List.getElem?_eq_some_iff.mp q
      exact .inl ⟨rfl,hb.symm,this.1⟩
  · rw [List.getElem?_set_ne e] at h
    exact .inr ⟨e,h⟩
theorem Rel.set (R:Rel K n δ σ G H) {v:V} {d:D} (i:Nat) (hv:Den K G v d):Rel K n (δ.set i (.sh d)) (σ.set i (some v)) G H:=by
  obtain ⟨ow,ok,gh⟩:=R.gh
  refine ⟨R.sub,R.eg,R.eh,R.al,R.fr,⟨ow,ok,fun j s hs=>?_⟩,by rw [List.length_set,List.length_set]; exact R.len⟩
  rcases set_get hs with ⟨e,rfl,hl⟩ | ⟨e,hs⟩
  · subst e
    refine ⟨v,?_,hv⟩
    rw [List.getElem?_set_self (Nat.lt_of_lt_of_le hl (Nat.le_of_eq R.len))]
  · rw [List.getElem?_set_ne e]
    exact gh j s hs
theorem Rel.own (R:Rel K n δ σ G H) {vs:List V} {ds:List D} (i:Nat) (hp:H p = none) (hv:DenL K G vs ds):Rel K n (δ.set i (.ow ds)) (σ.set i (some (.ref p))) G (upd H p (.lst vs)):=by
  obtain ⟨ow,ok,gh⟩:=R.gh
  have hG:G p = none:=R.sub.free hp
  have hne:∀ b k,ow b = some k→b ≠ p:=fun b k hk z=>by subst z; exact (ok.is _ _ hk).2.1 hp
  refine ⟨R.sub.trans (same_upd hp _),R.eg,fun b u q m=>same_upd hp _ b u (R.eh b u q m),fun b q=>R.al b ((same_upd hp _).free q),R.fr,⟨owSet ow p (some (i,("":Str))),⟨fun b k hk=>?_⟩,fun j s hs=>?_⟩,by rw [List.length_set,List.length_set]; exact R.len⟩
  · by_cases hb:b = p
    · subst hb; exact ⟨hG,by rw [upd_same]; exact (fun z=>by cases z),.inl (R.al _ hp)⟩
    · rw [owSet_ne hb] at hk
      obtain ⟨h1,h2,h3⟩:=ok.is b k hk
      exact ⟨h1,upd_some h2,h3⟩
  · rcases set_get hs with ⟨e,rfl,hl⟩ | ⟨e,hs⟩
    · subst e
      exact ⟨p,vs,List.getElem?_set_self (Nat.lt_of_lt_of_le hl (Nat.le_of_eq R.len)),upd_same,R.al p hp,owSet_same,hv⟩
    · rw [List.getElem?_set_ne e]
      exact (gh j s hs).keep (Same.refl _) (fun b f z=>by rw [owSet_ne (hne _ _ z)]; exact z) fun b f u z q=>by rw [upd_ne (hne _ _ z)]; exact q
theorem Rel.freeze (R:Rel K n δ σ G H) {l:List D} {i:Nat} (hi:δ[i]? = some (.ow l)):∃ G',Rel K n (δ.set i (.sh (.lst l))) σ G' H∧Same G G':=by
  obtain ⟨ow,ok,gh⟩:=R.gh
  obtain ⟨p,vs,g1,g2,g4,g6,g5⟩:=gh i _ hi
  have g3:=(ok.is _ _ g6).1
  have s1:Same G (upd G p (.lst vs)):=same_upd g3 _
  refine ⟨upd G p (.lst vs),⟨fun b u e=>?_,R.eg.trans s1,R.eh,R.al,fun b u e e0=>?_,⟨owSet ow p none,⟨fun b k hk=>?_⟩,fun j s hs=>?_⟩,by rw [List.length_set]; exact R.len⟩,s1⟩
  · by_cases hb:b = p
    · subst hb; rw [upd_same] at e; rw [g2]; exact e
    · rw [upd_ne hb] at e; exact R.sub b u e
  · by_cases hb:b = p
    · subst hb; exact g4
    · rw [upd_ne hb] at e; exact R.fr b u e e0
  · by_cases hb:b = p
    · subst hb; rw [owSet_same] at hk; cases hk
    · rw [owSet_ne hb] at hk; rw [upd_ne hb]; exact ok.is b k hk
  · rcases set_get hs with ⟨e,rfl,hl⟩ | ⟨e,hs⟩
    · subst e
      exact ⟨.ref p,g1,.lst (SqL.of upd_same) (g5.up s1)⟩
    · refine (gh j s hs).keep s1 (fun b f z=>?_) fun _ _ _ _ q=>q
      have:b ≠ p:=fun w=>by subst w; rw [g6] at z; cases z; exact e rfl
      rw [owSet_ne this]; exact z
theorem Rel.change (R:Rel K n δ σ G H) {l:List D} {i:Nat} (hi:δ[i]? = some (.ow l)) (hp:σ[i]? = some (some (.ref p))) {vs:List V} {ds:List D} (hv:DenL K G vs ds) :
    Rel K n (δ.set i (.ow ds)) σ G (upd H p (.lst vs)):=by
  obtain ⟨ow,ok,gh⟩:=R.gh
  obtain ⟨q,ws,g1,g2,g4,g6,g5⟩:=gh i _ hi
  have g3:=(ok.is _ _ g6).1
  rw [hp] at g1; cases g1
  have ne:∀ b u,G b = some u→b ≠ p:=fun b u e z=>by subst z; rw [g3] at e; cases e
  refine ⟨fun b u e=>by rw [upd_ne (ne b u e)]; exact R.sub b u e,R.eg,fun b u q m=>?_,fun b q=>?_,R.fr,⟨ow,⟨fun b k hk=>?_⟩,fun j s hs=>?_⟩,by rw [List.length_set]; exact R.len⟩
  · have:b ≠ p:=fun z=>by subst z; rw [g4] at q; cases q
    rw [upd_ne this]; exact R.eh b u q m
  · by_cases hb:b = p
    · subst hb; exact g4
    · rw [upd_ne hb] at q; exact R.al b q
  · obtain ⟨h1,h2,h3⟩:=ok.is b k hk; exact ⟨h1,upd_some h2,h3⟩
  · rcases set_get hs with ⟨e,rfl,hl⟩ | ⟨e,hs⟩
    · subst e
      exact ⟨p,vs,hp,upd_same,g4,g6,hv⟩
    · refine (gh j s hs).keep (Same.refl _) (fun _ _ z=>z) fun b f u z q=>?_
      have:b ≠ p:=fun w=>by subst w; rw [g6] at z; cases z; exact e rfl
      rw [upd_ne this]; exact q
theorem Rel.rebase (R:Rel K n δ σ G H):Rel K ⟨G,n.H,n.M⟩ δ σ G H:=by
  obtain ⟨ow,ok,gh⟩:=R.gh
  refine ⟨R.sub,Same.refl _,R.eh,R.al,fun b o e (e0:G b = none)=>(by rw [e0] at e; cases e),⟨ow,⟨ok.is⟩,fun i s hs=>?_⟩,R.len⟩
  have h:=gh i s hs
  cases s <;> exact h
theorem Rel.unbase (R:Rel K n δ σ G H) (S:Rel K ⟨G,n.H,n.M⟩ δ' σ' G' H'):Rel K n δ' σ' G' H':=by
  obtain ⟨ow,ok,gh⟩:=S.gh
  refine ⟨S.sub,R.eg.trans S.eg,S.eh,S.al,fun b o e e0=>(by
    cases q:G b with
    | none=>exact S.fr b o e q
    | some w=>exact R.fr b w q e0),⟨ow,⟨ok.is⟩,fun i s hs=>?_⟩,S.len⟩
  have h:=gh i s hs
  cases s <;> exact h
end
section
variable {K:PySem.W.Frag} {n:En} {δ:Ev} {σ:L2.St} {G H:Hp} {D₀:Addr} {o u:HO}
theorem Rel.notOwn (R:Rel K n δ σ G H) (h:H D₀ = none):H D₀ = none:=h
theorem Rel.other (R:Rel K n δ σ G H) (hG:G D₀ = none) (hn:n.H D₀ = none) (ho:H D₀ = none) (o:HO):Rel K n δ σ G (upd H D₀ o) :=
  R.ext ⟨Same.refl _,R.sub.trans (same_upd ho o),same_upd ho o,fun b v e e0=>(by rw [e0] at e; cases e)⟩
noncomputable def del (H:Hp) (D₀:Addr):Hp:=fun b=>if b = D₀ then none else H b
theorem del_same:del H D₀ D₀ = none:=if_pos rfl
theorem del_ne {b:Addr} (h:b ≠ D₀):del H D₀ b = H b:=if_neg h
theorem del_none (h:H D₀ = none):del H D₀ = H:=by
  funext b
  by_cases hb:b = D₀
  · subst hb; rw [del_same,h]
  · exact del_ne hb
theorem del_upd:del (upd H D₀ o) D₀ = del H D₀:=by
  funext b
  by_cases hb:b = D₀
  · subst hb; rw [del_same,del_same]
  · rw [del_ne hb,del_ne hb,upd_ne hb]
theorem upd_del (h:H D₀ = some o):upd (del H D₀) D₀ o = H:=by
  funext b
  by_cases hb:b = D₀
  · subst hb; rw [upd_same,h]
  · rw [upd_ne hb,del_ne hb]
theorem Ext.del {G' H':Hp} (e:Ext G H G' H') (h:G' D₀ = none):Ext G (del H D₀) G' (Dl.del H' D₀):=by
  refine ⟨e.gg,fun b v q=>?_,fun b v q=>?_,fun b v q q0=>?_⟩
  · rw [del_ne (ne_of_none q h)]; exact e.gh b v q
  · by_cases hb:b = D₀
    · subst hb; rw [del_same] at q; cases q
    · rw [del_ne hb] at q ⊢; exact e.hh b v q
  · rw [del_ne (ne_of_none q h)]; exact e.fr b v q q0
theorem Rel.know (R:Rel K n δ σ G (del H D₀)) (hH:H D₀ = some o):Rel K n δ σ (upd G D₀ o) H:=by
  have z:=R.laid (p:=D₀) del_same o
  rwa [upd_del hH] at z
theorem Rel.undel (R:Rel K n δ σ G (del H D₀)) (hH:H D₀ = some o):Rel K n δ σ G H:=by
  have z:=R.other (R.sub.free del_same) (R.al _ del_same) del_same o
  rwa [upd_del hH] at z
noncomputable def dropOw (δ:Ev):Ev:=δ.map fun s=>match s with
  | .sh d=>.sh d
  | _=>.no
theorem Rel.inner (R:Rel K n δ σ G H) (k:Nat):Rel K ⟨G,H,fun _=>False⟩ (dropOw δ ++ List.replicate k .no) (σ ++ List.replicate k none) G H:=by
  refine ⟨R.sub,Same.refl _,fun b o e _=>e,fun b e=>e,fun b o e (e0:G b = none)=>(by rw [e0] at e; cases e),⟨fun _=>none,⟨fun _ _ z=>by cases z⟩,fun i s hs=>?_⟩,?_⟩
  · by_cases hi:i < (dropOw δ).length
    · have hi':i < σ.length:=by rw [← R.len]; simpa [dropOw] using hi
      rw [List.getElem?_append_left hi,dropOw,List.getElem?_map] at hs
      rw [List.getElem?_append_left hi']
      cases q:δ[i]? with
      | none=>rw [q] at hs; cases hs
      | some s' =>
        rw [q] at hs
        have h:=R.sl i s' q
        cases s' with
        | sh d=>cases hs; exact h
        | no=>cases hs; trivial
        | ow l=>cases hs; trivial
        | mu a l=>cases hs; trivial
        | ob h C fs=>cases hs; trivial
        | pt a=>cases hs; trivial
        | rc h fs=>cases hs; trivial
    · rw [List.getElem?_append_right (by omega),List.getElem?_replicate] at hs
      split at hs
      · cases hs; trivial
      · cases hs
  · rw [List.length_append,List.length_append,List.length_replicate,List.length_replicate,dropOw,List.length_map,R.len]
theorem Rel.toExt {G' H':Hp} (R:Rel K ⟨G,H,fun _=>False⟩ δ σ G' H'):Ext G H G' H':=⟨R.eg,R.sub,fun b o e=>R.eh b o e (fun z=>z),fun b o e e0=>R.fr b o e e0⟩
end
end Dl
namespace Dl
open PySem PySem.Spec PyProof.Rows L2
noncomputable abbrev QE:=D→Ev→Prop
noncomputable abbrev TEd:=Ev→QE→Prop
noncomputable abbrev TAd:=Ev→(List D→Ev→Prop)→Prop
noncomputable abbrev TTd:=Ev→(Bool→Ev→Prop)→Prop
noncomputable def lE (K:PySem.W.Frag) (t:TEd):TE:=fun σ H Q2=>∃ (n:En) (δ:Ev) (G:Hp) (Q:QE),Rel K n δ σ G H∧t δ Q ∧
  ∀ (v:V) (G' H':Hp) (d:D) (δ':Ev),Rel K n δ' σ G' H'→Same G G'→Den K G' v d→Q d δ'→Q2 v H'
theorem lE.el {K:PySem.W.Frag} {t:TEd} {σ H Q2} {P:Prop} (x:lE K t σ H Q2) (k:∀ (n:En) (δ:Ev) (G:Hp) (Q:QE),(Rel K n δ σ G H)→(t δ Q)→(∀ (v:V) (G' H':Hp) (d:D) (δ':Ev),Rel K n δ' σ G' H'→Same G G'→Den K G' v d→Q d δ'→Q2 v H')→P):P:=by
  obtain ⟨n,δ,G,Q,h0,h1,h2⟩:=x
  exact k n δ G Q h0 h1 h2
noncomputable def lA (K:PySem.W.Frag) (t:TAd):TA:=fun σ H Q2=>∃ (n:En) (δ:Ev) (G:Hp) (Q:List D→Ev→Prop),Rel K n δ σ G H∧t δ Q ∧
  ∀ (v:List V) (G' H':Hp) (d:List D) (δ':Ev),Rel K n δ' σ G' H'→Same G G'→DenL K G' v d→Q d δ'→Q2 v H'
theorem lA.el {K:PySem.W.Frag} {t:TAd} {σ H Q2} {P:Prop} (x:lA K t σ H Q2) (k:∀ (n:En) (δ:Ev) (G:Hp) (Q:List D→Ev→Prop),(Rel K n δ σ G H)→(t δ Q)→(∀ (v:List V) (G' H':Hp) (d:List D) (δ':Ev),Rel K n δ' σ G' H'→Same G G'→DenL K G' v d→Q d δ'→Q2 v H')→P):P:=by
  obtain ⟨n,δ,G,Q,h0,h1,h2⟩:=x
  exact k n δ G Q h0 h1 h2
noncomputable def lT (K:PySem.W.Frag) (t:TTd):TT:=fun σ H Q2=>∃ (n:En) (δ:Ev) (G:Hp) (Q:Bool→Ev→Prop),Rel K n δ σ G H∧t δ Q ∧
  ∀ (b:Bool) (G' H':Hp) (δ':Ev),Rel K n δ' σ G' H'→Same G G'→Q b δ'→Q2 b H'
theorem lT.el {K:PySem.W.Frag} {t:TTd} {σ H Q2} {P:Prop} (x:lT K t σ H Q2) (k:∀ (n:En) (δ:Ev) (G:Hp) (Q:Bool→Ev→Prop),(Rel K n δ σ G H)→(t δ Q)→(∀ (b:Bool) (G' H':Hp) (δ':Ev),Rel K n δ' σ G' H'→Same G G'→Q b δ'→Q2 b H')→P):P:=by
  obtain ⟨n,δ,G,Q,h0,h1,h2⟩:=x
  exact k n δ G Q h0 h1 h2
noncomputable abbrev DE (X:Cx) (e:Expr) (t:TEd):Prop:=PE X e (lE X.K t)
noncomputable abbrev DA (X:Cx) (es:List Expr) (t:TAd):Prop:=PA X es (lA X.K t)
noncomputable abbrev DT (X:Cx) (e:Expr) (t:TTd):Prop:=PT X e (lT X.K t)
noncomputable abbrev DW (X:Cx) (e:Expr) (t:TTd):Prop:=PW X e (lT X.K t)
theorem pe_imp {X:Cx} {e:Expr} {t t':TE} (h:PE X e t) (hi:∀ σ H Q,t' σ H Q→t σ H Q):PE X e t':=fun pins s σ H Q I q=>h pins s σ H Q I (hi σ H Q q)
theorem pt_imp {X:Cx} {e:Expr} {t t':TT} (h:PT X e t) (hi:∀ σ H Q,t' σ H Q→t σ H Q):PT X e t':=fun pins s σ H Q I q=>h pins s σ H Q I (hi σ H Q q)
theorem pw_imp {X:Cx} {e:Expr} {t t':TT} (h:PW X e t) (hi:∀ σ H Q,t' σ H Q→t σ H Q):PW X e t':=fun wh pins s σ H Q I q=>h wh pins s σ H Q I (hi σ H Q q)
theorem pa_imp {X:Cx} {es:List Expr} {t t':TA} (h:PA X es t) (hi:∀ σ H Q,t' σ H Q→t σ H Q):PA X es t':=fun pos pins s σ H Q I q=>h pos pins s σ H Q I (hi σ H Q q)
theorem ps_imp {X:Cx} {st:Stmt} {t t':TS} (h:PS X st t) (hi:∀ D σ H,t' D σ H→t D σ H):PS X st t':=fun pins s σ H D I q=>h pins s σ H D I (hi D σ H q)
theorem pss_imp {X:Cx} {st:List Stmt} {t t':TS} (h:PSs X st t) (hi:∀ D σ H,t' D σ H→t D σ H):PSs X st t':=fun pins s σ H D I q=>h pins s σ H D I (hi D σ H q)
noncomputable def dVar (i:Nat):TEd:=fun δ Q=>match δ[i]? with
  | some (.sh d)=>Q d δ
  | _=>False
noncomputable def dC (d:D):TEd:=fun δ Q=>Q d δ
section
variable {X:Cx} {a b c:Expr} {ta tb tc:TEd} {pos:Pos}
theorem dv (i:Nat) {x:Str} {pos:Pos} (hN:autoParam (X.N[i]? = some x) ZA.a3._auto_1) (hv:autoParam (Vis X.env.scope x) ZA.a5._auto_1) (hd:autoParam ((x == ("__debug__":Str)) = false) ZA.a2._auto_1)
    (hcd:autoParam ((x == ("__classdict__":Str)) = false) ZA.a2._auto_1):DE X (.Name x pos) (dVar i) :=
  pe_imp (pe_var hN hv hd hcd) fun σ H Q2 hx=>hx.el fun n δ G Q R h k=>by
    unfold dVar at h
    split at h
    · rename_i d e
      obtain ⟨v,h1,h2⟩:=R.sl i _ e
      exact ⟨v,h1,k v G H d δ R (Same.refl _) h2 h⟩
    · exact h.elim
theorem dc_of {d:D} {v:V} {e:Expr} (h:PE X e (tC v)) (hd:∀ G,Den X.K G v d):DE X e (dC d) :=
  pe_imp h fun σ H Q2 hx=>hx.el fun n δ G Q R h k=>k v G H d δ R (Same.refl _) (hd G) h
theorem de_int {i j pos}:DE X (.Constant (.int i) j pos) (dC (.int i)):=dc_of pe_int fun _=>.int i
theorem de_bl {i j pos}:DE X (.Constant (.bool i) j pos) (dC (.bl i)):=dc_of pe_bl fun _=>.bl i
theorem de_non {j pos}:DE X (.Constant .none j pos) (dC .non):=dc_of pe_non fun _=>.non
theorem de_str {x j pos}:DE X (.Constant (.str x) j pos) (dC (.str x)):=dc_of pe_str fun _=>.str x
noncomputable abbrev RD:=D→D→(D→Prop)→Prop
noncomputable def dOp (r:RD) (ta tb:TEd):TEd:=fun δ Q=>ta δ fun x δ1=>tb δ1 fun y δ2=>r x y fun d=>Q d δ2
noncomputable def OpS (K:PySem.W.Frag) (r2:R2) (r:RD):Prop:=∀ (G H:Hp) (x y:V) (dx dy:D) (Q:D→Prop) (Q2:VK),Same G H→Den K G x dx→Den K G y dy→r dx dy Q →
  (∀ (v:V) (G' H':Hp) (d:D),Ext G H G' H'→Den K G' v d→Q d→Q2 v H')→r2 x y H Q2
theorem OpR.or {f:Value→Value→Sem Value} {r r':R2} (h:OpR X f r) (h':OpR X f r'):OpR X f (fun x y H Q=>r x y H Q∨r' x y H Q) :=
  fun pins s σ H x y v u Q I rx ry q=>q.elim (h pins s σ H x y v u Q I rx ry) (h' pins s σ H x y v u Q I rx ry)
theorem op_lift {r2:R2} {r:RD} (hs:OpS X.K r2 r):∀ σ H Q,lE X.K (dOp r ta tb) σ H Q→tOp r2 (lE X.K ta) (lE X.K tb) σ H Q:=fun σ H Q2 hx=>hx.el fun n δ G Q R h k =>
  ⟨n,δ,G,_,R,h,fun v G1 H1 x δ1 R1 s1 d1 h1=>⟨n,δ1,G1,_,R1,h1,fun w G2 H2 y δ2 R2 s2 d2 h2 =>
    hs G2 H2 v w x y _ Q2 R2.sub (d1.up s2) d2 h2 fun u G3 H3 d e3 d3 q3=>k u G3 H3 d δ2 (R2.ext e3) (s1.trans (s2.trans e3.gg)) d3 q3⟩⟩
theorem de_bin {op:Operator} {r2:R2} {r:RD} (ho:OpR X (binaryOp op) r2) (hs:OpS X.K r2 r) (ha:DE X a ta) (hb:DE X b tb):DE X (.BinOp a op b pos) (dOp r ta tb) :=
  pe_imp (pe_op ho ha hb) (op_lift hs)
theorem de_cmp {op:CmpOp} {r2:R2} {r:RD} (ho:OpR X (compareOp op) r2) (hs:OpS X.K r2 r) (ha:DE X a ta) (hb:DE X b tb) (hm:behindInMarks op b = false):DE X (.Compare a [op] [b] pos) (dOp r ta tb) :=
  pe_imp (pe_cmpR ho ha hb hm) (op_lift hs)
theorem de_ixG {r2:R2} {r:RD} (ho:IxR X r2) (hs:OpS X.K r2 r) (ha:DE X a ta) (hb:DE X b tb) (hp:PlainIx b):DE X (.Subscript a b pos) (dOp r ta tb) :=
  pe_imp (pe_ix ho ha hb hp) (op_lift hs)
noncomputable def dB (t:TEd):TTd:=fun δ Q=>t δ fun x δ1=>match x with
  | .bl c=>Q c δ1
  | _=>False
theorem dt_cmp {op:CmpOp} {r2:R2} {r:RD} (ho:OpR X (compareOp op) r2) (hs:OpS X.K r2 r) (ha:DE X a ta) (hb:DE X b tb) (hm:behindInMarks op b = false):DT X (.Compare a [op] [b] pos) (dB (dOp r ta tb)) :=
  pt_imp (pt_cmpR ho ha hb hm) fun σ H Q2 hx=>hx.el fun n δ G Q R h k=>op_lift hs σ H _ ⟨n,δ,G,_,R,h,fun v G1 H1 d δ1 R1 s1 d1 h1=>by
    cases d with
    | bl c=>exact ⟨c,d1.bl_inv,k c G1 H1 δ1 R1 s1 h1⟩
    | _=>exact h1.elim⟩
noncomputable def truD:D→(Bool→Prop)→Prop
  | .non,Q=>Q false
  | .bl b,Q=>Q b
  | .int i,Q=>Q (i != 0)
  | .str y,Q=>y.length ≤ sizeLine∧Q ((y.length:Int) != 0)
  | .tup l,Q=>Q (!l.isEmpty)
  | .lst l,Q=>Q (!l.isEmpty)
theorem truV_of {K:PySem.W.Frag} {G H:Hp} {x:V} {d:D} (s:Same G H) (h:Den K G x d) {Q:Bool→Prop} (q:truD d Q):∃ k,TruV K x H k∧Q k:=by
  cases h with
  | non=>exact ⟨_,rfl,q⟩
  | bl b=>exact ⟨_,rfl,q⟩
  | int i=>exact ⟨_,rfl,q⟩
  | str y=>exact ⟨_,⟨q.1,rfl⟩,q.2⟩
  | tup h l=>refine ⟨_,.inr (.inl ⟨_,Same.tupS s h,rfl⟩),?_⟩; cases l <;> exact q
  | lst h l=>refine ⟨_,.inl ⟨_,s.seq h,rfl⟩,?_⟩; cases l <;> exact q
noncomputable def dAnd (t u:TTd):TTd:=fun δ Q=>t δ fun c δ1=>if c = true then u δ1 Q else Q false δ1
noncomputable def dOr (t u:TTd):TTd:=fun δ Q=>t δ fun c δ1=>if c = true then Q true δ1 else u δ1 Q
noncomputable def dNot (t:TTd):TTd:=fun δ Q=>t δ fun c δ1=>Q (!c) δ1
variable {tA tB':TTd} {rest:List Expr}
theorem dw_and1 (ha:DT X a tA):DW X (.BoolOp .And [a] pos) tA:=pw_and1 ha
theorem dw_or1 (ha:DT X a tA):DW X (.BoolOp .Or [a] pos) tA:=pw_or1 ha
theorem dw_and (ha:DT X a tA) (hb:DW X (.BoolOp .And (b :: rest) pos) tB'):DW X (.BoolOp .And (a :: b :: rest) pos) (dAnd tA tB') :=
  pw_imp (pw_and ha hb) fun σ H Q2 hx=>hx.el fun n δ G Q R h k=>⟨n,δ,G,_,R,h,fun c G1 H1 δ1 R1 s1 h1=>by
    cases c with
    | true=>exact iteT ⟨n,δ1,G1,Q,R1,h1,fun b G2 H2 δ2 R2 s2 h2=>k b G2 H2 δ2 R2 (s1.trans s2) h2⟩
    | false=>exact iteF (k false G1 H1 δ1 R1 s1 h1)⟩
theorem dw_or (ha:DT X a tA) (hb:DW X (.BoolOp .Or (b :: rest) pos) tB'):DW X (.BoolOp .Or (a :: b :: rest) pos) (dOr tA tB') :=
  pw_imp (pw_or ha hb) fun σ H Q2 hx=>hx.el fun n δ G Q R h k=>⟨n,δ,G,_,R,h,fun c G1 H1 δ1 R1 s1 h1=>by
    cases c with
    | false=>exact iteF ⟨n,δ1,G1,Q,R1,h1,fun b G2 H2 δ2 R2 s2 h2=>k b G2 H2 δ2 R2 (s1.trans s2) h2⟩
    | true=>exact iteT (k true G1 H1 δ1 R1 s1 h1)⟩
theorem dt_w {e:Expr} (h:DW X e tA):DT X e tA:=h.pt
theorem dt_not (ha:DT X a tA):DT X (.UnaryOp .Not a pos) (dNot tA) :=
  pt_imp (pt_not ha) fun σ H Q2 hx=>hx.el fun n δ G Q R h k=>⟨n,δ,G,_,R,h,fun c G1 H1 δ1 R1 s1 h1=>k (!c) G1 H1 δ1 R1 s1 h1⟩
noncomputable def dIf (t:TTd) (ta tb:TEd):TEd:=fun δ Q=>t δ fun c δ1=>if c = true then ta δ1 Q else tb δ1 Q
theorem de_if (hc:DT X c tA) (ha:DE X a ta) (hb:DE X b tb):DE X (.IfExp c a b pos) (dIf tA ta tb) :=
  pe_imp (pe_ifExp hc ha hb) fun σ H Q2 hx=>hx.el fun n δ G Q R h k=>⟨n,δ,G,_,R,h,fun c G1 H1 δ1 R1 s1 h1=>by
    cases c with
    | true=>exact iteT ⟨n,δ1,G1,Q,R1,h1,fun v G2 H2 d δ2 R2 s2 d2 h2=>k v G2 H2 d δ2 R2 (s1.trans s2) d2 h2⟩
    | false=>exact iteF ⟨n,δ1,G1,Q,R1,h1,fun v G2 H2 d δ2 R2 s2 d2 h2=>k v G2 H2 d δ2 R2 (s1.trans s2) d2 h2⟩⟩
variable {e:Expr} {es:List Expr} {te:TEd} {t:TAd}
noncomputable def dNil:TAd:=fun δ Q=>Q [] δ
noncomputable def dCons (ta:TEd) (tr:TAd):TAd:=fun δ Q=>ta δ fun x δ1=>tr δ1 fun xs δ2=>Q (x :: xs) δ2
theorem da_nil:DA X [] dNil:=pa_imp pa_nil fun σ H Q2 hx=>hx.el fun n δ G Q R h k=>k [] G H [] δ R (Same.refl _) .nil h
theorem da_cons (ha:DE X e te) (hr:DA X es t) (hs:autoParam (starEach (e :: es) X.env = (false,eval e X.env) :: starEach es X.env) ZA.a3._auto_1):DA X (e :: es) (dCons te t) :=
  pa_imp (pa_cons ha hr hs) fun σ H Q2 hx=>hx.el fun n δ G Q R h k=>⟨n,δ,G,_,R,h,fun v G1 H1 d δ1 R1 s1 d1 h1=>⟨n,δ1,G1,_,R1,h1,fun vs G2 H2 ds δ2 R2 s2 d2 h2 =>
    k (v :: vs) G2 H2 (d :: ds) δ2 R2 (s1.trans s2) (.cons (d1.up s2) d2) h2⟩⟩
noncomputable def dTup (t:TAd):TEd:=fun δ Q=>t δ fun xs δ1=>xs.length ≤ sizeLine∧Q (.tup xs) δ1
noncomputable def dLst (t:TAd):TEd:=fun δ Q=>t δ fun xs δ1=>xs.length ≤ sizeLine∧Q (.lst xs) δ1
theorem de_tup {x1} (h:DA X es t):DE X (.Tuple es x1 pos) (dTup t) :=
  pe_imp (L2.pe_tup h) fun σ H Q2 hx=>hx.el fun n δ G Q R h k=>⟨n,δ,G,_,R,h,fun vs G1 H1 ds δ1 R1 s1 d1 h1=>⟨by rw [d1.length]; exact h1.1,fun p hp =>
    k _ _ _ _ δ1 (R1.laid hp _) (s1.trans (same_upd (R1.sub.free hp) _)) (.tup (SqT.of upd_same) (d1.up (same_upd (R1.sub.free hp) _))) h1.2⟩⟩
theorem de_lst (h:DA X es t):DE X (.List es pos) (dLst t) :=
  pe_imp (L2.pe_lst h) fun σ H Q2 hx=>hx.el fun n δ G Q R h k=>⟨n,δ,G,_,R,h,fun vs G1 H1 ds δ1 R1 s1 d1 h1=>⟨by rw [d1.length]; exact h1.1,fun p hp =>
    k _ _ _ _ δ1 (R1.laid hp _) (s1.trans (same_upd (R1.sub.free hp) _)) (.lst (SqL.of upd_same) (d1.up (same_upd (R1.sub.free hp) _))) h1.2⟩⟩
noncomputable abbrev RC:=List D→(D→Prop)→Prop
noncomputable def CallS (K:PySem.W.Frag) (r2:List V→Hp→VK→Prop) (r:RC):Prop:=∀ (G H:Hp) (xs:List V) (ds:List D) (Q:D→Prop) (Q2:VK),Same G H→DenL K G xs ds→r ds Q →
  (∀ (v:V) (G' H':Hp) (d:D),Ext G H G' H'→Den K G' v d→Q d→Q2 v H')→r2 xs H Q2
noncomputable def dCall (r:RC) (t:TAd):TEd:=fun δ Q=>t δ fun ds δ1=>r ds fun d=>Q d δ1
theorem CallR.or {f:Value} {r r':List V→Hp→VK→Prop} (h:CallR X f r) (h':CallR X f r'):CallR X f (fun xs H Q=>r xs H Q∨r' xs H Q) :=
  fun pins s σ H xs us Q I rx q=>q.elim (h pins s σ H xs us Q I rx) (h' pins s σ H xs us Q I rx)
theorem call_lift {r2:List V→Hp→VK→Prop} {r:RC} (hs:CallS X.K r2 r):∀ σ H Q,lE X.K (dCall r t) σ H Q→tCB r2 (lA X.K t) σ H Q:=fun σ H Q2 hx=>hx.el fun n δ G Q R h k =>
  ⟨n,δ,G,_,R,h,fun vs G1 H1 ds δ1 R1 s1 d1 h1=>hs G1 H1 vs ds _ Q2 R1.sub d1 h1 fun u G3 H3 d e3 d3 q3=>k u G3 H3 d δ1 (R1.ext e3) (s1.trans e3.gg) d3 q3⟩
variable {x:Str} {p:Pos} {id T:String}
theorem de_callB {r2:List V→Hp→VK→Prop} {r:RC} (hc:CallR X (.builtin id) r2) (hs:CallS X.K r2 r) (hm:X.mg x = none) (hv:bootBuiltins x = some (.builtin id)) (ha:DA X (e :: es) t) (hg:autoParam (Gl X x) ZA.a3._auto_1) (hn:autoParam (x ≠ "__name__") ZA.a2._auto_1) (hdb:autoParam ((x == ("__debug__":Str)) = false) ZA.a2._auto_1)
    (he:autoParam (starEach (e :: es) X.env = (false,eval e X.env) :: starEach es X.env) ZA.a3._auto_1) (hpl:autoParam ((backTo pos (starEach es X.env)).any (·.1) = false) ZA.a3._auto_1):DE X (.Call (.Name x p) (e :: es) [] pos) (dCall r t) :=
  pe_imp (pe_callB hc hg hm hv ha hn hdb he hpl) (call_lift hs)
end
noncomputable abbrev SpD:=List D→(D→Prop)→Prop
noncomputable def spOf (K:PySem.W.Frag) (S:SpD):Sp:=fun vs H Q _=>∃ (G:Hp) (ds:List D) (Qd:D→Prop),Same G H∧DenL K G vs ds∧S ds Qd ∧
  ∀ (v:V) (G' H':Hp) (d:D),Ext G H G' H'→Den K G' v d→Qd d→Q v H'
section
variable {X:Cx} {k:Nat} {f:Addr} {fd:FuncData} {ps:List Str} {S:SpD} {x:Str} {p pos:Pos} {e:Expr} {es:List Expr} {t:TAd}
theorem de_call (F:FnOk X.prog X.w X.K X.mg X.base CX0 k f fd ps (spOf X.K S)) (hr:Room k X.A) (hm:X.mg x = some (.ref f)) (hk:PySem.W.keepIn X.K (.ref f) = true) (hb:Binds X.K fd ps [])
    (ha:DA X (e :: es) t) (hg:autoParam (Gl X x) ZA.a3._auto_1) (hdb:autoParam ((x == ("__debug__":Str)) = false) ZA.a2._auto_1) (he:autoParam (starEach (e :: es) X.env = (false,eval e X.env) :: starEach es X.env) ZA.a3._auto_1) (hpl:autoParam ((backTo pos (starEach es X.env)).any (·.1) = false) ZA.a3._auto_1) :
    DE X (.Call (.Name x p) (e :: es) [] pos) (dCall S t) :=
  pe_imp (pe_call F hr hg hm hk hb .nil pass0 ha hdb he hpl) fun σ H Q2 hx=>hx.el fun n δ G Q R h kk=>⟨n,δ,G,_,R,h,fun vs G1 H1 ds δ1 R1 s1 d1 h1=>by
    show spOf X.K S (vs ++ []) H1 Q2 E0
    rw [List.append_nil]
    exact ⟨G1,ds,_,R1.sub,d1,h1,fun v G2 H2 d e2 d2 q2=>kk v G2 H2 d δ1 (R1.ext e2) (s1.trans e2.gg) d2 q2⟩⟩
end
end Dl
namespace Dl
open PySem PySem.Spec PyProof.Rows L2
structure EndsD where
  nx:Ev→Prop
  rt:D→Ev→Prop
  bk:Ev→Prop:=fun _=>False
  ct:Ev→Prop:=fun _=>False
noncomputable abbrev TSd:=EndsD→Ev→Prop
structure EndsOk (K:PySem.W.Frag) (n:En) (E:EndsD) (F:Ends):Prop where
  nx:∀ δ σ G H,Rel K n δ σ G H→E.nx δ→F.nx σ H
  rt:∀ v d δ σ G H,Rel K n δ σ G H→Den K G v d→E.rt d δ→F.rt v H
  bk:∀ δ σ G H,Rel K n δ σ G H→E.bk δ→F.bk σ H
  ct:∀ δ σ G H,Rel K n δ σ G H→E.ct δ→F.ct σ H
noncomputable def lS (K:PySem.W.Frag) (t:TSd):TS:=fun F σ H=>∃ (n:En) (δ:Ev) (G:Hp) (E:EndsD),Rel K n δ σ G H∧t E δ∧EndsOk K n E F
theorem lS.el {K:PySem.W.Frag} {t:TSd} {F σ H} {P:Prop} (x:lS K t F σ H) (k:∀ (n:En) (δ:Ev) (G:Hp) (E:EndsD),(Rel K n δ σ G H)→(t E δ)→(EndsOk K n E F)→P):P:=by
  obtain ⟨n,δ,G,E,h0,h1,h2⟩:=x
  exact k n δ G E h0 h1 h2
noncomputable abbrev DS (X:Cx) (st:Stmt) (t:TSd):Prop:=PS X st (lS X.K t)
noncomputable abbrev DSs (X:Cx) (st:List Stmt) (t:TSd):Prop:=PSs X st (lS X.K t)
section
variable {X:Cx} {st:Stmt} {rest:List Stmt} {t u:TSd} {pos:Pos} {e:Expr} {te:TEd}
noncomputable def dNext:TSd:=fun E δ=>E.nx δ
noncomputable def dSeq (t u:TSd):TSd:=fun E δ=>t { E with nx:=u E } δ
theorem dss_nil:DSs X [] dNext:=pss_imp pss_nil fun F σ H hx=>hx.el fun n δ G E R h k=>k.nx δ σ G H R h
theorem dss_cons (h1:DS X st t) (h2:DSs X rest u):DSs X (st :: rest) (dSeq t u) :=
  pss_imp (pss_cons h1 h2) fun F σ H hx=>hx.el fun n δ G E R h k=>⟨n,δ,G,_,R,h,⟨fun δ' σ' G' H' R' h'=>⟨n,δ',G',E,R',h',k⟩,k.rt,k.bk,k.ct⟩⟩
theorem dss_one (h1:DS X st t):DSs X [st] t:=pss_one h1
noncomputable def dDrop (te:TEd):TSd:=fun E δ=>te δ fun _ δ1=>E.nx δ1
theorem ds_expr (he:DE X e te) (hs:autoParam (swapsWith e none pos.line X.env = pure false) ZA.a3._auto_1):DS X (.Expr e pos) (dDrop te) :=
  ps_imp (ps_expr he hs) fun F σ H hx=>hx.el fun n δ G E R h k=>⟨n,δ,G,_,R,h,fun v G1 H1 d δ1 R1 s1 d1 h1=>k.nx δ1 σ G1 H1 R1 h1⟩
noncomputable def dRet (te:TEd):TSd:=fun E δ=>te δ E.rt
theorem ds_ret (he:DE X e te):DS X (.Return (some e) pos) (dRet te) :=
  ps_imp (ps_ret he) fun F σ H hx=>hx.el fun n δ G E R h k=>⟨n,δ,G,_,R,h,fun v G1 H1 d δ1 R1 s1 d1 h1=>k.rt v d δ1 σ G1 H1 R1 d1 h1⟩
noncomputable def dIfS (c:TTd) (t u:TSd):TSd:=fun E δ=>c δ fun b δ1=>if b = true then t E δ1 else u E δ1
theorem ds_if {c:Expr} {a b:List Stmt} {tc:TTd} (hc:DT X c tc) (ha:DSs X a t) (hb:DSs X b u):DS X (.If c a b pos) (dIfS tc t u) :=
  ps_imp (ps_if hc ha hb) fun F σ H hx=>hx.el fun n δ G E R h k=>⟨n,δ,G,_,R,h,fun c G1 H1 δ1 R1 s1 h1=>by
    cases c with
    | true=>exact iteT ⟨n,δ1,G1,E,R1,h1,k⟩
    | false=>exact iteF ⟨n,δ1,G1,E,R1,h1,k⟩⟩
noncomputable def dNever:TSd:=fun _ _=>False
theorem ds_never:DS X st dNever:=fun _ _ _ _ _ _ zz38=>zz38.elim fun _ zz=>zz.elim fun _ zz=>zz.elim fun _ zz=>zz.elim fun _ zz=>zz.elim fun _ zz=>zz.elim fun h _=>h.elim
noncomputable def dSet (i:Nat) (te:TEd):TSd:=fun E δ=>te δ fun d δ1=>E.nx (δ1.set i (.sh d))
theorem ds_set (i:Nat) {x:Str} {pos':Pos} (hN:X.N.Nodup) (he:DE X e te) (hi:autoParam (X.N[i]? = some x) ZA.a3._auto_1) (hx:autoParam (Loc X.env.scope x) ZA.a6._auto_1) (hs:autoParam (swapsWith e (some (.Name x pos')) pos.line X.env = pure false) ZA.a3._auto_1)
    (hf:autoParam (X.fn x = true∨X.env.scope.names.lookup x = some .local) ZA.a1._auto_1):DS X (.Assign [.Name x pos'] e pos) (dSet i te) :=
  ps_imp (ps_set (i:=i) hN hi hx he hs hf) fun F σ H hx=>hx.el fun n δ G E R h k=>⟨n,δ,G,_,R,h,fun v G1 H1 d δ1 R1 s1 d1 h1=>k.nx _ _ G1 H1 (R1.set i d1) h1⟩
noncomputable def dOwn (i:Nat) (ta:TAd):TSd:=fun E δ=>ta δ fun ds δ1=>ds.length ≤ sizeLine∧E.nx (δ1.set i (.ow ds))
theorem ds_own (i:Nat) {x:Str} {pos' lp:Pos} {es:List Expr} {ta:TAd} (hN:X.N.Nodup) (he:DA X es ta) (hi:autoParam (X.N[i]? = some x) ZA.a3._auto_1) (hx:autoParam (Loc X.env.scope x) ZA.a6._auto_1) (hs:autoParam (swapsWith (.List es lp) (some (.Name x pos')) pos.line X.env = pure false) ZA.a3._auto_1)
    (hf:autoParam (X.fn x = true∨X.env.scope.names.lookup x = some .local) ZA.a1._auto_1):DS X (.Assign [.Name x pos'] (.List es lp) pos) (dOwn i ta) :=
  ps_imp (ps_set (i:=i) hN hi hx (L2.pe_lst he) hs hf) fun F σ H hx=>hx.el fun n δ G E R h k=>⟨n,δ,G,_,R,h,fun vs G1 H1 ds δ1 R1 s1 d1 h1=>⟨by rw [d1.length]; exact h1.1,fun p hp =>
    k.nx _ _ G1 _ (R1.own i hp d1) h1.2⟩⟩
noncomputable def dFrz (i:Nat) (t:TSd):TSd:=fun E δ=>match δ[i]? with
  | some (.ow l)=>t E (δ.set i (.sh (.lst l)))
  | _=>False
theorem dss_frz (i:Nat) {sts:List Stmt} (h1:DSs X sts t):DSs X sts (dFrz i t) :=
  pss_imp h1 fun F σ H hx=>hx.el fun n δ G E R h k=>by
    unfold dFrz at h
    split at h
    · rename_i l e
      obtain ⟨G',R',_⟩:=R.freeze e
      exact ⟨n,_,G',E,R',h,k⟩
    · exact h.elim
noncomputable abbrev TGd:=D→Ev→(Ev→Prop)→Prop
noncomputable def lG (K:PySem.W.Frag) (g:TGd):TG:=fun v σ H Q2=>∃ (n:En) (δ:Ev) (G:Hp) (d:D) (Q:Ev→Prop),Rel K n δ σ G H∧Den K G v d∧g d δ Q ∧
  ∀ δ' σ',Rel K n δ' σ' G H→Q δ'→Q2 σ' H
theorem lG.el {K:PySem.W.Frag} {g:TGd} {v σ H Q2} {P:Prop} (x:lG K g v σ H Q2) (k:∀ (n:En) (δ:Ev) (G:Hp) (d:D) (Q:Ev→Prop),(Rel K n δ σ G H)→(Den K G v d)→(g d δ Q)→(∀ δ' σ',Rel K n δ' σ' G H→Q δ'→Q2 σ' H)→P):P:=by
  obtain ⟨n,δ,G,d,Q,h0,h1,h2,h3⟩:=x
  exact k n δ G d Q h0 h1 h2 h3
noncomputable abbrev DG (X:Cx) (tg:Expr) (g:TGd):Prop:=PG X tg (lG X.K g)
theorem pg_imp {tg:Expr} {g g':TG} (h:PG X tg g) (hi:∀ v σ H Q,g' v σ H Q→g v σ H Q):PG X tg g':=fun pins s σ H x u Q I r q=>h pins s σ H x u Q I r (hi x σ H Q q)
noncomputable def gdName (i:Nat):TGd:=fun d δ Q=>Q (δ.set i (.sh d))
theorem dg_name (i:Nat) {x:Str} (hN:X.N.Nodup) (hi:autoParam (X.N[i]? = some x) ZA.a3._auto_1) (hx:autoParam (Loc X.env.scope x) ZA.a6._auto_1) (hf:autoParam (X.fn x = true∨X.env.scope.names.lookup x = some .local) ZA.a1._auto_1):DG X (.Name x pos) (gdName i) :=
  pg_imp (pg_name (i:=i) hN hi hx hf) fun v σ H Q2 hx=>hx.el fun n δ G d Q R hv h k=>k _ _ (R.set i hv) h
structure JOk (K:PySem.W.Frag) (G:Hp) (J:It) (l:List D):Prop where
  go:∀ (i:Nat) (G1 H1:Hp),Same G G1→Same G1 H1→i < l.length→J.go i H1
  yl:∀ (i:Nat) (G1 H1:Hp) (x:V) (H2:Hp),Same G G1→Same G1 H1→i < l.length→J.yld i H1 x H2→∃ (G2:Hp) (d:D),Ext G1 H1 G2 H2∧l[i]? = some d∧Den K G2 x d
  st:∀ (i:Nat) (G1 H1:Hp),Same G G1→Same G1 H1→l.length ≤ i→J.stop i H1
noncomputable abbrev TId:=Ev→(List D→Ev→Prop)→Prop
noncomputable def lI (K:PySem.W.Frag) (t:TId):TI:=fun σ H R2=>∃ (n:En) (δ:Ev) (G:Hp) (Q:List D→Ev→Prop),Rel K n δ σ G H∧t δ Q ∧
  ∀ (J:It) (G' H':Hp) (l:List D) (δ':Ev),Rel K n δ' σ G' H'→Same G G'→JOk K G' J l→Q l δ'→R2 J H'
theorem lI.el {K:PySem.W.Frag} {t:TId} {σ H R2} {P:Prop} (x:lI K t σ H R2) (k:∀ (n:En) (δ:Ev) (G:Hp) (Q:List D→Ev→Prop),(Rel K n δ σ G H)→(t δ Q)→(∀ (J:It) (G' H':Hp) (l:List D) (δ':Ev),Rel K n δ' σ G' H'→Same G G'→JOk K G' J l→Q l δ'→R2 J H')→P):P:=by
  obtain ⟨n,δ,G,Q,h0,h1,h2⟩:=x
  exact k n δ G Q h0 h1 h2
noncomputable abbrev DI (X:Cx) (tg iter:Expr) (t:TId):Prop:=PI X tg iter (lI X.K t)
theorem pi_imp {tg iter:Expr} {t t':TI} (h:PI X tg iter t) (hi:∀ σ H Q,t' σ H Q→t σ H Q):PI X tg iter t':=fun pins s σ H R I q=>h pins s σ H R I (hi σ H R q)
theorem jok_list {K:PySem.W.Frag} {G:Hp} {a:Addr} {vs:List V} {l:List D} (h:SqL K G a vs) (hl:DenL K G vs l):JOk K G (Itl K a) l:=by
  have len:=hl.length
  refine ⟨fun i G1 H1 s1 s2 hi=>⟨vs,vs[i]'(by omega),(s1.trans s2).seq h,by simp⟩,fun i G1 H1 x H2 s1 s2 hi y=>?_,fun i G1 H1 s1 s2 hi=>⟨vs,(s1.trans s2).seq h,by omega⟩⟩
  obtain ⟨e,y⟩:=y
  subst e
  obtain ⟨d,hd,hx⟩:=hl.getV (y vs ((s1.trans s2).seq h))
  exact ⟨G1,d,Ext.refl s2,hd,hx.up s1⟩
theorem jok_tup {K:PySem.W.Frag} {G:Hp} {a:Addr} {vs:List V} {l:List D} (h:SqT K G a vs) (hl:DenL K G vs l):JOk K G (Itt K a) l:=by
  have len:=hl.length
  refine ⟨fun i G1 H1 s1 s2 hi=>⟨vs,vs[i]'(by omega),Same.tupS (s1.trans s2) h,by simp⟩,fun i G1 H1 x H2 s1 s2 hi y=>?_,fun i G1 H1 s1 s2 hi=>⟨vs,Same.tupS (s1.trans s2) h,by omega⟩⟩
  obtain ⟨e,y⟩:=y
  subst e
  obtain ⟨d,hd,hx⟩:=hl.getV (y vs (Same.tupS (s1.trans s2) h))
  exact ⟨G1,d,Ext.refl s2,hd,hx.up s1⟩
noncomputable def dFor (ti:TId) (g:TGd) (tb:TSd):TSd:=fun E δ=>ti δ fun items δ1=>∃ W:Nat→Ev→Prop,W 0 δ1 ∧
  (∀ (i:Nat) (d:D) (δ2:Ev),items[i]? = some d→W i δ2→g d δ2 fun δ3=>tb { E with nx:=W (i + 1),ct:=W (i + 1),bk:=E.nx } δ3)∧∀ δ2,W items.length δ2→E.nx δ2
theorem ds_for {tg iter:Expr} {body:List Stmt} {ti:TId} {g:TGd} {tb:TSd} (hp:PassesOwn (model X.prog X.w) X.A X.env X.xe) (hc:X.calm = true) (hi:DI X tg iter ti) (hg:DG X tg g) (hb:DSs X body tb)
    (hs:autoParam (∀ x,foldedSetIterable iter X.env x = pure x) ZA.a4._auto_1):DS X (.For tg iter body [] pos) (dFor ti g tb) :=
  ps_imp (ps_for hp hc hi hg hb hs) fun F σ H hx=>hx.el fun n δ G E R h k=>⟨n,δ,G,_,R,h,fun J G1 H1 items δ1 R1 s1 j1 zz39=>zz39.elim fun W zz=>zz.elim fun w0 zz=>zz.elim fun step fin=>by
    refine ⟨fun i m σ H=>i ≤ items.length∧m = items.length - i∧∃ δ G,Rel X.K n δ σ G H∧Same G1 G∧W i δ,⟨_,Nat.zero_le _,rfl,δ1,G1,R1,Same.refl _,w0⟩,?_⟩
    rintro i m σ2 H2 ⟨hi,rfl,δ2,G2,R2,s2,w2⟩
    by_cases hl:i < items.length
    · refine .inr ⟨j1.go i G2 H2 s2 R2.sub hl,fun σ' H'=>∃ δ G,Rel X.K n δ σ' G H'∧Same G1 G∧W (i + 1) δ,fun σ' H' zz40=>zz40.elim fun δ' zz=>zz.elim fun G' zz=>zz.elim fun R' zz=>zz.elim fun s' w'=>⟨items.length - (i + 1),by omega,hl,rfl,δ',G',R',s',w'⟩,fun x H3 y=>?_⟩
      obtain ⟨G3,d,e3,hd,dx⟩:=j1.yl i G2 H2 x H3 s2 R2.sub hl y
      have R3:=R2.ext e3
      have s3:Same G1 G3:=s2.trans e3.gg
      refine ⟨⟨G3,n.H,n.M⟩,δ2,G3,d,_,R3.rebase,dx,step i d δ2 hd w2,fun δ4 σ4 R4 h4=>?_⟩
      refine ⟨⟨G3,n.H,n.M⟩,δ4,G3,_,R4,h4,⟨fun δ5 σ5 G5 H5 R5 h5=>⟨δ5,G5,R3.unbase R5,s3.trans R5.eg,h5⟩,fun v d δ5 σ5 G5 H5 R5 d5 h5=>k.rt v d δ5 σ5 G5 H5 (R3.unbase R5) d5 h5,
        fun δ5 σ5 G5 H5 R5 h5=>k.nx δ5 σ5 G5 H5 (R3.unbase R5) h5,fun δ5 σ5 G5 H5 R5 h5=>⟨δ5,G5,R3.unbase R5,s3.trans R5.eg,h5⟩⟩⟩
    · have e:i = items.length:=by omega
      subst e
      exact .inl ⟨j1.st _ G2 H2 s2 R2.sub (Nat.le_refl _),k.nx δ2 σ2 G2 H2 R2 (fin δ2 w2)⟩⟩
end
noncomputable def startD (N:List Str) (ds:List D):Ev:=ds.map Sl.sh ++ List.replicate (N.length - ds.length) Sl.no
theorem rel_start {K:PySem.W.Frag} {N:List Str} {G H:Hp} {vs:List V} {ds:List D} (s:Same G H) (h:DenL K G vs ds):Rel K ⟨G,H,fun _=>False⟩ (startD N ds) (start N vs) G H:=by
  have len:=h.length
  refine ⟨s,Same.refl _,fun b o e _=>e,fun b e=>e,fun b o e (e0:G b = none)=>(by rw [e0] at e; cases e),⟨fun _=>none,⟨fun _ _ z=>by cases z⟩,fun i sl hs=>?_⟩,?_⟩
  · unfold startD at hs
    by_cases hi:i < ds.length
    · rw [List.getElem?_append_left (by simpa using hi),List.getElem?_map] at hs
      cases q:ds[i]? with
      | none=>rw [q] at hs; cases hs
      | some d =>
        rw [q] at hs; cases hs
        obtain ⟨v,hv,dv⟩:=h.get q
        refine ⟨v,?_,dv⟩
        unfold L2.start
        rw [List.getElem?_append_left (by rw [List.length_map]; omega),List.getElem?_map,hv]; rfl
    · rw [List.getElem?_append_right (by simpa using hi),List.getElem?_replicate] at hs
      split at hs
      · cases hs; trivial
      · cases hs
  · simp [startD,L2.start,len]
section
variable {P:Program} {w:World} {K:PySem.W.Frag} {mg:Str→Option Value} {base:Heap}
theorem fnD {x qual:Str} {st:Stmt} {f:Addr} {fd:FuncData} {N ps:List Str} {k:Nat} {S:SpD} (F:Fun K x qual st f fd) (Sc:FnScope N ps (defScope st)) (len:∀ ds Q,S ds Q→ds.length = ps.length)
    (hbody:∀ (cdv:Value) (A:Around) (outer:List Env) (s:Shared) (H:Hp) (E:XK),Room k (A.deeper (envOfC qual (defScope st) s.heap.objs.size f cdv)) →
      ∃ t,DSs (cxOf CX0 P w K mg base N qual (defScope st) f cdv A outer s H E).nox (defBody st) t∧∀ ds Q,S ds Q→t { nx:=fun _=>Q .non,rt:=fun d _=>Q d } (startD N ds)):FnOk P w K mg base CX0 (k + 1) f fd ps (spOf K S):=by
  refine F.ok Sc (fun vs H Q E zz41=>zz41.elim fun G zz=>zz.elim fun ds zz=>zz.elim fun Qd zz=>zz.elim fun sub zz=>zz.elim fun dn zz=>zz.elim fun h _=>?_) (fun cdv A outer s H vs Q E hr zz42=>zz42.elim fun G zz=>zz.elim fun ds zz=>zz.elim fun Qd zz=>zz.elim fun sub zz=>zz.elim fun dn zz=>zz.elim fun h kk=>?_)
  · rw [dn.length]; exact len ds Qd h
  · obtain ⟨t,ht,hq⟩:=hbody cdv A outer s H E hr
    refine ⟨_,ht,⟨G,H,fun _=>False⟩,_,G,_,rel_start (N:=N) sub dn,hq ds Qd h,⟨fun δ σ G' H' R' q=>?_,fun v d δ σ G' H' R' dv q=>?_,fun _ _ _ _ _ q=>q.elim,fun _ _ _ _ _ q=>q.elim⟩⟩
    · exact kk .non G' H' .non ⟨R'.eg,R'.sub,fun b o e=>R'.eh b o e (fun z=>z),fun b o e e0=>R'.fr b o e e0⟩ .non q
    · exact kk v G' H' d ⟨R'.eg,R'.sub,fun b o e=>R'.eh b o e (fun z=>z),fun b o e e0=>R'.fr b o e e0⟩ dv q
end
end Dl
namespace Dl
open PySem PySem.Spec PyProof.Rows L2
mutual
noncomputable def D.py:D→PyData
  | .non=>.none
  | .bl b=>.bool b
  | .int i=>.int i
  | .str x=>.str x
  | .tup l=>.tuple (D.pyL l)
  | .lst l=>.list (D.pyL l)
noncomputable def D.pyL:List D→List PyData
  | []=>[]
  | d :: r=>D.py d :: D.pyL r
end
mutual
noncomputable def D.ok:D→Bool
  | .str x=>PyData.strOk x
  | .tup l=>D.okL l
  | .lst l=>D.okL l
  | _=>true
noncomputable def D.okL:List D→Bool
  | []=>true
  | d :: r=>D.ok d && D.okL r
end
mutual
noncomputable def D.dep:D→Nat
  | .tup l=>D.depL l + 1
  | .lst l=>D.depL l + 1
  | _=>0
noncomputable def D.depL:List D→Nat
  | []=>0
  | d :: r=>max (D.dep d) (D.depL r)
end
mutual
noncomputable def eqD:D→D→Bool
  | .non,.non=>true
  | .bl a,.bl b=>a == b
  | .bl a,.int j=>(if a then 1 else 0) == j
  | .int i,.bl b=>i == (if b then 1 else 0)
  | .int i,.int j=>i == j
  | .str x,.str y=>x == y
  | .tup l,.tup m=>eqDL l m
  | .lst l,.lst m=>eqDL l m
  | _,_=>false
noncomputable def eqDL:List D→List D→Bool
  | [],[]=>true
  | a :: l,b :: m=>eqD a b && eqDL l m
  | _,_=>false
end
mutual
theorem py_ok:∀ d:D,d.ok = true→(D.py d).canLay0 = true
  | .non,_=>rfl
  | .bl _,_=>rfl
  | .int _,_=>rfl
  | .str _,h=>h
  | .tup l,h=>py_okL l h
  | .lst l,h=>py_okL l h
theorem py_okL:∀ l:List D,D.okL l = true→PyData.canLayAll0 (D.pyL l) = true
  | [],_=>rfl
  | d :: r,h=>by
    have h':(D.ok d && D.okL r) = true:=h
    rw [Bool.and_eq_true] at h'
    show (PyData.canLay0 (D.py d) && PyData.canLayAll0 (D.pyL r)) = true
    rw [py_ok d h'.1,py_okL r h'.2]; rfl
end
mutual
theorem py_dep:∀ d:D,(D.py d).depth = d.dep
  | .non=>rfl
  | .bl _=>rfl
  | .int _=>rfl
  | .str _=>rfl
  | .tup l=>by show PyData.depthAll (D.pyL l) + 1 = D.depL l + 1; rw [py_depL l]
  | .lst l=>by show PyData.depthAll (D.pyL l) + 1 = D.depL l + 1; rw [py_depL l]
theorem py_depL:∀ l:List D,PyData.depthAll (D.pyL l) = D.depL l
  | []=>rfl
  | d :: r=>by show max (PyData.depth (D.py d)) (PyData.depthAll (D.pyL r)) = max (D.dep d) (D.depL r); rw [py_dep d,py_depL r]
end
mutual
theorem py_eq:∀ d e:D,PyData.eqv (D.py d) (D.py e) = eqD d e
  | .tup l,.tup m=>py_eqL l m
  | .lst l,.lst m=>py_eqL l m
  | .non,e=>by cases e <;> rfl
  | .bl _,e=>by cases e <;> rfl
  | .int _,e=>by cases e <;> rfl
  | .str _,e=>by cases e <;> rfl
  | .tup _,.non=>rfl
  | .tup _,.bl _=>rfl
  | .tup _,.int _=>rfl
  | .tup _,.str _=>rfl
  | .tup _,.lst _=>rfl
  | .lst _,.non=>rfl
  | .lst _,.bl _=>rfl
  | .lst _,.int _=>rfl
  | .lst _,.str _=>rfl
  | .lst _,.tup _=>rfl
theorem py_eqL:∀ l m:List D,PyData.eqvAll (D.pyL l) (D.pyL m) = eqDL l m
  | [],[]=>rfl
  | [],_ :: _=>rfl
  | _ :: _,[]=>rfl
  | d :: l,e :: m=>by
    show (PyData.eqv (D.py d) (D.py e) && PyData.eqvAll (D.pyL l) (D.pyL m)) = (eqD d e && eqDL l m)
    rw [py_eq d e,py_eqL l m]
end
section
variable {X:Cx} {pins:List (Addr × Obj)} {σ:L2.St} {G H:Hp} {s:Shared}
mutual
theorem Den.reads (I:Inv X pins σ H s) (sub:Same G H):∀ {v:V} {d:D} {u:Value},Den X.K G v d→RelV v u→∃ as,Reads s.heap u (D.py d) as
  | _,_,_,.non,r=>by cases r; exact ⟨_,.none⟩
  | _,_,_,.bl b,r=>by cases r; exact ⟨_,.bool b⟩
  | _,_,_,.int i,r=>by obtain ⟨t,rfl⟩:=r; exact ⟨_,.int i t⟩
  | _,_,_,.str x,r=>by obtain ⟨t,rfl⟩:=r; exact ⟨_,.str x t⟩
  | _,_,_,.tup h l,r=>by
    cases r
    obtain ⟨its,rv,⟨o,ho,hc,n,hd⟩,_⟩:=I.tuple (Same.tupS sub h)
    obtain ⟨as,ra⟩:=DenL.reads I sub l rv
    exact ⟨as,.tuple ho hc hd (by simpa using ra)⟩
  | _,_,_,.lst h l,r=>by
    cases r
    obtain ⟨its,rv,⟨o,n,ho,hc,_,hd⟩,_⟩:=I.list (sub.seq h)
    obtain ⟨as,ra⟩:=DenL.reads I sub l rv
    exact ⟨_,.list ho hc hd (by simpa using ra)⟩
theorem DenL.reads (I:Inv X pins σ H s) (sub:Same G H):∀ {vs:List V} {ds:List D} {us:List Value},DenL X.K G vs ds→Vals vs us→∃ as,ReadsAll s.heap us (D.pyL ds) as
  | _,_,_,.nil,r=>by cases r; exact ⟨_,.nil⟩
  | _,_,_,.cons h t,.cons r1 r2=>by
    obtain ⟨as,h1⟩:=Den.reads I sub h r1
    obtain ⟨bs,h2⟩:=DenL.reads I sub t r2
    exact ⟨_,.cons h1 h2⟩
end
end
section
variable {X:Cx}
noncomputable def okEq (d e:D):Prop:=d.ok = true∧e.ok = true∧min d.dep e.dep ≤ 60
noncomputable def rDeep (K:PySem.W.Frag) (f:D→D→Bool):R2:=fun x y H Q=>∃ G dx dy,Same G H∧Den K G x dx∧Den K G y dy∧okEq dx dy∧Q (.bl (f dx dy)) H
theorem op_eqDeep (hu:X.A.units + 64 < cLine):OpR X (compareOp .Eq) (rDeep X.K eqD):=by
  rintro pins s σ H x y v u Q I rx ry ⟨G,dx,dy,sub,hx,hy,⟨o1,o2,o3⟩,q⟩
  obtain ⟨as,ra⟩:=hx.reads I sub rx
  obtain ⟨bs,rb⟩:=hy.reads I sub ry
  refine PySem.SeqAt.compareEq_reads ra rb (py_ok _ o1) (py_ok _ o2) (by rw [py_dep,py_dep]; omega) ?_
  rw [py_eq]
  exact ⟨.bl _,H,I,rfl,q⟩
theorem op_neDeep (hu:X.A.units + 64 < cLine):OpR X (compareOp .NotEq) (rDeep X.K fun d e=>!eqD d e):=by
  rintro pins s σ H x y v u Q I rx ry ⟨G,dx,dy,sub,hx,hy,⟨o1,o2,o3⟩,q⟩
  obtain ⟨as,ra⟩:=hx.reads I sub rx
  obtain ⟨bs,rb⟩:=hy.reads I sub ry
  refine PySem.SeqAt.compareNe_reads ra rb (py_ok _ o1) (py_ok _ o2) (by rw [py_dep,py_dep]; omega) ?_
  rw [py_eq]
  exact ⟨.bl _,H,I,rfl,q⟩
noncomputable def rEqD:RD:=fun x y Q=>okEq x y∧Q (.bl (eqD x y))
noncomputable def rNeD:RD:=fun x y Q=>okEq x y∧Q (.bl (!eqD x y))
theorem os_deep {K:PySem.W.Frag} {f:D→D→Bool}:OpS K (rDeep K f) (fun x y Q=>okEq x y∧Q (.bl (f x y))):=fun G H x y dx dy Q Q2 s hx hy h k =>
  ⟨G,dx,dy,s,hx,hy,h.1,k _ G H _ (Ext.refl s) (.bl _) h.2⟩
variable {a b:Expr} {ta tb:TEd} {pos:Pos}
theorem de_eq (hu:X.A.units + 64 < cLine) (ha:DE X a ta) (hb:DE X b tb) (hm:behindInMarks .Eq b = false:=by first | exact nomark _ | rfl):DE X (.Compare a [.Eq] [b] pos) (dOp rEqD ta tb):=de_cmp (op_eqDeep hu) os_deep ha hb hm
theorem dt_eq (hu:X.A.units + 64 < cLine) (ha:DE X a ta) (hb:DE X b tb) (hm:behindInMarks .Eq b = false:=by first | exact nomark _ | rfl):DT X (.Compare a [.Eq] [b] pos) (dB (dOp rEqD ta tb)):=dt_cmp (op_eqDeep hu) os_deep ha hb hm
theorem dt_ne (hu:X.A.units + 64 < cLine) (ha:DE X a ta) (hb:DE X b tb) (hm:behindInMarks .NotEq b = false:=by first | exact nomark _ | rfl):DT X (.Compare a [.NotEq] [b] pos) (dB (dOp rNeD ta tb)):=dt_cmp (op_neDeep hu) os_deep ha hb hm
noncomputable def rII (g:Int→Int→D):RD:=fun x y Q=>match x,y with
  | .int i,.int j=>Q (g i j)
  | _,_=>False
noncomputable def rIC (C:Int→Int→Prop) (g:Int→Int→D):RD:=fun x y Q=>match x,y with
  | .int i,.int j=>C i j∧Q (g i j)
  | _,_=>False
theorem os_ii {K:PySem.W.Frag} {g:Int→Int→V} {gd:Int→Int→D} (hg:∀ i j G,Den K G (g i j) (gd i j)):OpS K (rI0 g) (rII gd):=fun G H x y dx dy Q Q2 s hx hy h k=>by
  unfold rII at h
  split at h
  · cases hx.int_inv; cases hy.int_inv
    exact ⟨_,_,rfl,rfl,k _ G H _ (Ext.refl s) (hg _ _ _) h⟩
  · exact h.elim
theorem os_ic {K:PySem.W.Frag} {C:Int→Int→Prop} {g:Int→Int→V} {gd:Int→Int→D} (hg:∀ i j G,Den K G (g i j) (gd i j)):OpS K (rI C g) (rIC C gd):=fun G H x y dx dy Q Q2 s hx hy h k=>by
  unfold rIC at h
  split at h
  · cases hx.int_inv; cases hy.int_inv
    exact ⟨_,_,rfl,rfl,h.1,k _ G H _ (Ext.refl s) (hg _ _ _) h.2⟩
  · exact h.elim
theorem de_sub (ha:DE X a ta) (hb:DE X b tb):DE X (.BinOp a .Sub b pos) (dOp (rII fun i j=>.int (i - j)) ta tb):=de_bin op_sub (os_ii fun _ _ _=>.int _) ha hb
theorem de_mod (ha:DE X a ta) (hb:DE X b tb):DE X (.BinOp a .Mod b pos) (dOp (rIC (fun _ j=>0 < j) fun i j=>.int (i % j)) ta tb):=de_bin op_mod (os_ic fun _ _ _=>.int _) ha hb
theorem de_fdiv (ha:DE X a ta) (hb:DE X b tb):DE X (.BinOp a .FloorDiv b pos) (dOp (rIC CDiv fun i j=>.int (i / j)) ta tb):=de_bin op_fdiv (os_ic fun _ _ _=>.int _) ha hb
theorem dt_lt (ha:DE X a ta) (hb:DE X b tb) (hm:behindInMarks .Lt b = false:=by first | exact nomark _ | rfl):DT X (.Compare a [.Lt] [b] pos) (dB (dOp (rII fun i j=>.bl (decide (i < j))) ta tb)):=dt_cmp op_lt (os_ii fun _ _ _=>.bl _) ha hb hm
theorem dt_le (ha:DE X a ta) (hb:DE X b tb) (hm:behindInMarks .LtE b = false:=by first | exact nomark _ | rfl):DT X (.Compare a [.LtE] [b] pos) (dB (dOp (rII fun i j=>.bl (decide (i ≤ j))) ta tb)):=dt_cmp op_le (os_ii fun _ _ _=>.bl _) ha hb hm
theorem dt_gt (ha:DE X a ta) (hb:DE X b tb) (hm:behindInMarks .Gt b = false:=by first | exact nomark _ | rfl):DT X (.Compare a [.Gt] [b] pos) (dB (dOp (rII fun i j=>.bl (decide (j < i))) ta tb)):=dt_cmp op_gt (os_ii fun _ _ _=>.bl _) ha hb hm
noncomputable def isNonD:D→Bool
  | .non=>true
  | _=>false
noncomputable def rIsN:RD:=fun x y Q=>match y with
  | .non=>Q (.bl (isNonD x))
  | _=>False
noncomputable def rNotN:RD:=fun x y Q=>match y with
  | .non=>Q (.bl (!isNonD x))
  | _=>False
theorem isN_of {K:PySem.W.Frag} {G:Hp} {v:V} {d:D} (h:Den K G v d):decide (v = .non) = isNonD d:=by cases h <;> simp [isNonD]
theorem os_isN {K:PySem.W.Frag}:OpS K (fun x y H Q=>y = .non∧Q (.bl (decide (x = .non))) H) rIsN:=fun G H x y dx dy Q Q2 s hx hy h k=>by
  unfold rIsN at h
  split at h
  · exact ⟨hy.non_inv,k _ G H _ (Ext.refl s) (by rw [isN_of hx]; exact .bl _) h⟩
  · exact h.elim
theorem os_notN {K:PySem.W.Frag}:OpS K (fun x y H Q=>y = .non∧Q (.bl (!decide (x = .non))) H) rNotN:=fun G H x y dx dy Q Q2 s hx hy h k=>by
  unfold rNotN at h
  split at h
  · exact ⟨hy.non_inv,k _ G H _ (Ext.refl s) (by rw [isN_of hx]; exact .bl _) h⟩
  · exact h.elim
theorem dt_is (ha:DE X a ta) (hb:DE X b tb) (hm:behindInMarks .Is b = false:=by first | exact nomark _ | rfl):DT X (.Compare a [.Is] [b] pos) (dB (dOp rIsN ta tb)):=dt_cmp op_isN os_isN ha hb hm
theorem dt_isnot (ha:DE X a ta) (hb:DE X b tb) (hm:behindInMarks .IsNot b = false:=by first | exact nomark _ | rfl):DT X (.Compare a [.IsNot] [b] pos) (dB (dOp rNotN ta tb)):=dt_cmp op_notN os_notN ha hb hm
noncomputable def rAddD:RD:=fun x y Q=>match x,y with
  | .int i,.int j=>Q (.int (i + j))
  | .tup l,.tup m=>l.length + m.length ≤ sizeLine∧Q (.tup (l ++ m))
  | .lst l,.lst m=>l.length + m.length ≤ sizeLine∧Q (.lst (l ++ m))
  | .str i,.str j=>i.length + j.length ≤ sizeLine∧Q (.str (i ++ j))
  | _,_=>False
noncomputable def rCatL (K:PySem.W.Frag):R2:=fun x y H Q=>∃ l b xs zs,x = .ref l∧y = .ref b∧SqL K H l xs∧SqL K H b zs∧xs.length + zs.length ≤ sizeLine∧∀ p,H p = none→Q (.ref p) (upd H p (.lst (xs ++ zs)))
noncomputable def rCatT0 (K:PySem.W.Frag):R2:=fun x y H Q=>∃ a b ys,x = .ref a∧y = .ref b∧SqT K H a []∧SqT K H b ys∧Q (.ref b) H
theorem op_catL:OpR X (binaryOp .Add) (rCatL X.K):=by
  intro pins s σ H x y v u Q I rx ry h
  obtain ⟨l,b,xs,zs,rfl,rfl,hH,hB,hz,q⟩:=h
  cases rx
  cases ry
  obtain ⟨its,r,pl,z⟩:=I.list hH
  obtain ⟨its2,r2,pl2,z2⟩:=I.list hB
  obtain ⟨⟨cls,dd,data,sl⟩,ho,hc,n,hd⟩:=pl.isList
  obtain ⟨⟨cls2,dd2,data2,sl2⟩,ho2,hc2,n2,hd2⟩:=pl2.isList
  simp only at hc hd hc2 hd2
  subst hc hd hc2 hd2
  have e:its.toArray ++ its2.toArray = (its ++ its2).toArray:=by simp
  refine concat_meets ⟨_,ho,rfl⟩ ⟨_,ho2,rfl⟩ noFill_list_add seq_list_add PySem.F.slot_list_add PySem.F.entry_list_add (PySem.F.args_list_add_2 _ _) (list_addW l b its.toArray its2.toArray n n2 dd dd2 sl sl2 (by rw [List.size_toArray,List.size_toArray,← r.length,← r2.length]; exact hz)) ⟨ho,ho2,?_⟩
  rw [e]
  exact ⟨.ref _,_,I.lnew (t':=s.toks) (r.append r2) (by rw [List.length_append]; omega),rfl,q _ I.fresh⟩
theorem op_catT0:OpR X (binaryOp .Add) (rCatT0 X.K):=by
  intro pins s σ H x y v u Q I rx ry h
  obtain ⟨a,b,ys,rfl,rfl,ha,hb,q⟩:=h
  cases rx
  cases ry
  obtain ⟨its,r1,p1,_⟩:=I.tuple ha
  obtain ⟨its2,r2,p2,_⟩:=I.tuple hb
  cases r1
  obtain ⟨⟨cls,dd,data,sl⟩,ho,hc,n,hd⟩:=id p1
  obtain ⟨⟨cls2,dd2,data2,sl2⟩,ho2,hc2,n2,hd2⟩:=id p2
  simp only at hc hd hc2 hd2
  subst hc hd hc2 hd2
  exact concat_meets ⟨_,ho,rfl⟩ ⟨_,ho2,rfl⟩ noFill_tuple_add seq_tuple_add PySem.F.slot_tuple_add PySem.F.entry_tuple_add (PySem.F.args_tuple_add_2 _ _)
      (tuple_addW0 a b #[] its2.toArray n n2 dd dd2 sl sl2 rfl) ⟨ho,ho2,⟨.ref b,H,I,rfl,q⟩⟩
theorem op_addAll:OpR X (binaryOp .Add) (fun x y H Q=>rI0 (fun i j=>.int (i + j)) x y H Q∨rCatT0 X.K x y H Q∨rCatT X.K x y H Q∨rCatL X.K x y H Q∨∃ i j,x = .str i∧y = .str j∧i.length + j.length ≤ sizeLine∧Q (.str (i ++ j)) H) :=
  OpR.or op_add (OpR.or op_catT0 (OpR.or op_catT (OpR.or op_catL op_add_str)))
theorem os_add {K:PySem.W.Frag}:OpS K (fun x y H Q=>rI0 (fun i j=>.int (i + j)) x y H Q∨rCatT0 K x y H Q∨rCatT K x y H Q∨rCatL K x y H Q∨∃ i j,x = .str i∧y = .str j∧i.length + j.length ≤ sizeLine∧Q (.str (i ++ j)) H) rAddD:=fun G H x y dx dy Q Q2 s hx hy h k=>by
  unfold rAddD at h
  split at h
  · cases hx.int_inv; cases hy.int_inv
    exact .inl ⟨_,_,rfl,rfl,k _ G H _ (Ext.refl s) (.int _) h⟩
  · obtain ⟨a,vs,rfl,ha,la⟩:=hx.tup_inv
    obtain ⟨b,ws,rfl,hb,lb⟩:=hy.tup_inv
    cases la with
    | nil=>exact .inr (.inl ⟨a,b,ws,rfl,rfl,Same.tupS s ha,Same.tupS s hb,k _ G H _ (Ext.refl s) hy h.2⟩)
    | @cons v d vs l d1 la =>
      refine .inr (.inr (.inl ⟨a,b,_,ws,rfl,rfl,Same.tupS s ha,Same.tupS s hb,by simp,by rw [(DenL.cons d1 la).length,lb.length]; exact h.1,fun e=>?_,fun _ p hp=>?_⟩))
      · subst e
        cases lb
        refine k _ G H _ (Ext.refl s) hx ?_
        have:=h.2
        rwa [List.append_nil] at this
      · exact k _ _ _ _ (Ext.laid s hp _) (.tup (SqT.of upd_same) ((DenL.append (DenL.cons d1 la) lb).up (same_upd (s.free hp) _))) h.2
  · obtain ⟨a,vs,rfl,ha,la⟩:=hx.lst_inv
    obtain ⟨b,ws,rfl,hb,lb⟩:=hy.lst_inv
    exact .inr (.inr (.inr (.inl ⟨a,b,vs,ws,rfl,rfl,s.seq ha,s.seq hb,by rw [la.length,lb.length]; exact h.1,fun p hp =>
      k _ _ _ _ (Ext.laid s hp _) (.lst (SqL.of upd_same) ((la.append lb).up (same_upd (s.free hp) _))) h.2⟩)))
  · cases hx.str_inv; cases hy.str_inv
    exact .inr (.inr (.inr (.inr ⟨_,_,rfl,rfl,h.1,k _ G H _ (Ext.refl s) (.str _) h.2⟩)))
  · exact h.elim
theorem de_mul (ha:DE X a ta) (hb:DE X b tb):DE X (.BinOp a .Mult b pos) (dOp (rIC CMul fun i j=>.int (i * j)) ta tb):=de_bin op_mul (os_ic fun _ _ _=>.int _) ha hb
noncomputable def rIxD:RD:=fun x y Q=>match x,y with
  | .tup l,.int i=>match atI l i with
    | some d=>Q d
    | none=>False
  | .lst l,.int i=>match atI l i with
    | some d=>Q d
    | none=>False
  | _,_=>False
theorem atI_den {K:PySem.W.Frag} {G:Hp} {vs:List V} {l:List D} {i:Int} {d:D} (h:DenL K G vs l) (e:atI l i = some d):∃ v,atI vs i = some v∧Den K G v d:=by
  unfold atI at e ⊢
  rw [h.length]
  cases q:ixN l.length i with
  | none=>(rw [q] at e; cases e)
  | some j =>
    rw [q] at e
    obtain ⟨v,h1,h2⟩:=h.get (i:=j) e
    exact ⟨v,h1,h2⟩
theorem os_ix {K:PySem.W.Frag}:OpS K (rIx K) rIxD:=fun G H x y dx dy Q Q2 s hx hy h k=>by
  unfold rIxD at h
  split at h
  · obtain ⟨a,vs,rfl,ha,la⟩:=hx.tup_inv
    cases hy.int_inv
    split at h
    · rename_i d e
      obtain ⟨v,h1,h2⟩:=atI_den la e
      exact .inr (.inl ⟨a,vs,_,v,rfl,rfl,Same.tupS s ha,h1,k _ G H _ (Ext.refl s) h2 h⟩)
    · exact h.elim
  · obtain ⟨a,vs,rfl,ha,la⟩:=hx.lst_inv
    cases hy.int_inv
    split at h
    · rename_i d e
      obtain ⟨v,h1,h2⟩:=atI_den la e
      exact .inl ⟨a,vs,_,v,rfl,rfl,s.seq ha,h1,k _ G H _ (Ext.refl s) h2 h⟩
    · exact h.elim
  · exact h.elim
variable {x:Str} {p:Pos} {e e2:Expr} {es:List Expr} {t:TAd}
noncomputable def cMax:RC:=fun ds Q=>match ds with
  | [.int i,.int j]=>Q (.int (max i j))
  | _=>False
noncomputable def cMin:RC:=fun ds Q=>match ds with
  | [.int i,.int j]=>Q (.int (min i j))
  | _=>False
theorem denl2 {K:PySem.W.Frag} {G:Hp} {xs:List V} {i j:Int} (h:DenL K G xs [.int i,.int j]):xs = [.int i,.int j]:=by
  cases h with | cons h1 h2=>cases h2 with | cons h2 h3=>cases h3; cases h1; cases h2; rfl
theorem denl1 {K:PySem.W.Frag} {G:Hp} {xs:List V} {d:D} (h:DenL K G xs [d]):∃ v,xs = [v]∧Den K G v d:=by
  cases h with | cons h1 h2=>cases h2; exact ⟨_,rfl,h1⟩
theorem cs_max {K:PySem.W.Frag}:CallS K (fun xs H Q=>∃ i j,xs = [.int i,.int j]∧Q (.int (if j > i then j else i)) H) cMax:=fun G H xs ds Q Q2 s hd h k=>by
  unfold cMax at h
  split at h
  · rename_i i j
    refine ⟨i,j,denl2 hd,k _ G H _ (Ext.refl s) ?_ h⟩
    have:(if j > i then j else i) = max i j:=by split <;> omega
    rw [this]; exact .int _
  · exact h.elim
theorem cs_min {K:PySem.W.Frag}:CallS K (fun xs H Q=>∃ i j,xs = [.int i,.int j]∧Q (.int (if j < i then j else i)) H) cMin:=fun G H xs ds Q Q2 s hd h k=>by
  unfold cMin at h
  split at h
  · rename_i i j
    refine ⟨i,j,denl2 hd,k _ G H _ (Ext.refl s) ?_ h⟩
    have:(if j < i then j else i) = min i j:=by split <;> omega
    rw [this]; exact .int _
  · exact h.elim
theorem de_max (hc:X.calm = true) (hm:X.mg "max" = none) (ha:DA X (e :: es) t) (hg:autoParam (Gl X "max") ZA.a3._auto_1) (he:autoParam (starEach (e :: es) X.env = (false,eval e X.env) :: starEach es X.env) ZA.a3._auto_1) (hpl:autoParam ((backTo pos (starEach es X.env)).any (·.1) = false) ZA.a3._auto_1):DE X (.Call (.Name "max" p) (e :: es) [] pos) (dCall cMax t) :=
  de_callB (call_max2 hc) cs_max hm (by rfl) ha hg (by decide) (by decide) he hpl
theorem de_min (hc:X.calm = true) (hm:X.mg "min" = none) (ha:DA X (e :: es) t) (hg:autoParam (Gl X "min") ZA.a3._auto_1) (he:autoParam (starEach (e :: es) X.env = (false,eval e X.env) :: starEach es X.env) ZA.a3._auto_1) (hpl:autoParam ((backTo pos (starEach es X.env)).any (·.1) = false) ZA.a3._auto_1):DE X (.Call (.Name "min" p) (e :: es) [] pos) (dCall cMin t) :=
  de_callB (call_min2 hc) cs_min hm (by rfl) ha hg (by decide) (by decide) he hpl
noncomputable def cLen:RC:=fun ds Q=>match ds with
  | [.lst l]=>Q (.int l.length)
  | [.tup l]=>Q (.int l.length)
  | _=>False
theorem cs_len {K:PySem.W.Frag}:CallS K (fun xs H Q=>∃ p ys,xs = [.ref p]∧(SqL K H p ys∨SqT K H p ys)∧Q (.int ys.length) H) cLen:=fun G H xs ds Q Q2 s hd h k=>by
  unfold cLen at h
  split at h
  · obtain ⟨v,rfl,d1⟩:=denl1 hd
    obtain ⟨a,vs,rfl,ha,la⟩:=d1.lst_inv
    exact ⟨a,vs,rfl,.inl (s.seq ha),k _ G H _ (Ext.refl s) (by rw [la.length]; exact .int _) h⟩
  · obtain ⟨v,rfl,d1⟩:=denl1 hd
    obtain ⟨a,vs,rfl,ha,la⟩:=d1.tup_inv
    exact ⟨a,vs,rfl,.inr (Same.tupS s ha),k _ G H _ (Ext.refl s) (by rw [la.length]; exact .int _) h⟩
  · exact h.elim
end
end Dl
namespace Dl
open PySem PySem.Spec PyProof.Rows L2
section
variable {X:Cx} {te:TEd} {a:Expr} {ta:TEd} {pos:Pos}
noncomputable def iSeq (K:PySem.W.Frag) (tl:TE):TI:=fun σ H R=>tl σ H fun x H1=>∃ a,x = .ref a∧(((∃ xs,SqL K H1 a xs)∧R (Itl K a) H1)∨((∃ xs,SqT K H1 a xs)∧R (Itt K a) H1))
theorem pi_seq {tg l:Expr} {tl:TE} (hl:PE X l tl):PI X tg l (iSeq X.K tl):=by
  intro pins s σ H R I h
  refine thn (hl pins s σ H _ I h) fun v s1 zz43=>zz43.elim fun x zz=>zz.elim fun H1 zz=>zz.elim fun I1 zz=>zz.elim fun r1 q1=>?_
  obtain ⟨a,e,q⟩:=q1
  subst e
  cases r1
  have fp:∀ b ∈ [s1.heap.objs.size],FpOk X pins H1 b:=fun b hb=>by
    have e:b = s1.heap.objs.size:=by simpa using hb
    subst e
    exact I1.fpOk (Nat.le_refl _) (I1.hok.fresh (Nat.le_refl _))
  rcases q with ⟨⟨xs,hq⟩,q⟩ | ⟨⟨xs,hq⟩,q⟩
  · obtain ⟨its,rv,p,hz⟩:=I1.list hq
    refine wpAny_pyIter_list p.isList ?_
    exact ⟨s1.heap.objs.size,[s1.heap.objs.size],_,_,H1,rfl,I1.kept (t':=s1.toks) fun b o e=>Heap.get?_push_of_some _ e,turn_list a _,⟨_,Heap.get?_push_size _ rfl,rfl,rfl⟩,fp,q⟩
  · obtain ⟨its,rv,p,hz⟩:=I1.tuple hq
    refine wpAny_pyIter_tuple (show s1.heap.IsTuple a its.toArray from p) ?_
    exact ⟨s1.heap.objs.size,[s1.heap.objs.size],_,_,H1,rfl,I1.kept (t':=s1.toks) fun b o e=>Heap.get?_push_of_some _ e,turn_tuple a _,⟨_,Heap.get?_push_size _ rfl,rfl,rfl⟩,fp,q⟩
end
theorem sz0:(0 ≤ sizeLine) = True:=eq_true (by decide)
theorem sz1:(1 ≤ sizeLine) = True:=eq_true (by decide)
theorem sz2:(2 ≤ sizeLine) = True:=eq_true (by decide)
theorem sz4:(4 ≤ sizeLine) = True:=eq_true (by decide)
theorem okEq_of {d e:D} (h1:d.ok = true) (h2:e.ok = true) (h3:min d.dep e.dep ≤ 60):okEq d e = True:=eq_true ⟨h1,h2,h3⟩
theorem okEq_int_int {i:Int} {j:Int}:okEq (D.int i) (D.int j) = True:=okEq_of rfl rfl (Nat.le_of_lt_succ (by decide:0 < 61))
theorem dFor_by (W:Nat→Ev→Prop) {ti:TId} {g:TGd} {tb:TSd} {E:EndsD} {δ:Ev} (items:List D) (δ1:Ev) (h0:∀ Q:List D→Ev→Prop,Q items δ1→ti δ Q) (w0:W 0 δ1)
    (step:∀ (i:Nat) (d:D) (δ2:Ev),items[i]? = some d→W i δ2→g d δ2 fun δ3=>tb { E with nx:=W (i + 1),ct:=W (i + 1),bk:=E.nx } δ3) (fin:∀ δ2,W items.length δ2→E.nx δ2):dFor ti g tb E δ:=h0 _ ⟨W,w0,step,fin⟩
end Dl
namespace Dl
open PySem PySem.Spec PyProof.Rows L2
noncomputable def rF (f:D→D→Option D):RD:=fun x y Q=>∃ d,f x y = some d∧Q d
noncomputable def seqF:D→Option (List D)
  | .lst l=>some l
  | .tup l=>some l
  | _=>none
noncomputable def addF:D→D→Option D
  | .int i,.int j=>some (.int (i + j))
  | .tup l,.tup m=>if l.length + m.length ≤ sizeLine then some (.tup (l ++ m)) else none
  | .lst l,.lst m=>if l.length + m.length ≤ sizeLine then some (.lst (l ++ m)) else none
  | .str i,.str j=>if i.length + j.length ≤ sizeLine then some (.str (i ++ j)) else none
  | _,_=>none
noncomputable def ixF:D→D→Option D
  | .lst l,.int i=>atI l i
  | .tup l,.int i=>atI l i
  | _,_=>none
noncomputable def cLenF:RC:=fun ds Q=>match ds with
  | [d]=>∃ l,seqF d = some l∧Q (.int l.length)
  | _=>False
noncomputable def diSeqF (te:TEd):TId:=fun δ Q=>te δ fun d δ1=>∃ l,seqF d = some l∧Q l δ1
noncomputable def truF:D→Option Bool
  | .non=>some false
  | .bl b=>some b
  | .int i=>some (i != 0)
  | .str y=>if y.length ≤ sizeLine then some ((y.length:Int) != 0) else none
  | .tup l=>some (!l.isEmpty)
  | .lst l=>some (!l.isEmpty)
noncomputable def dTruF (t:TEd):TTd:=fun δ Q=>t δ fun x δ1=>∃ b,truF x = some b∧Q b δ1
section
variable {X:Cx} {a b:Expr} {ta tb te:TEd} {pos:Pos}
theorem os_imp {K:PySem.W.Frag} {r2:R2} {r r':RD} (h:OpS K r2 r) (hi:∀ x y Q,r' x y Q→r x y Q):OpS K r2 r':=fun G H x y dx dy Q Q2 s hx hy q k=>h G H x y dx dy Q Q2 s hx hy (hi dx dy Q q) k
theorem cs_imp {K:PySem.W.Frag} {r2:List V→Hp→VK→Prop} {r r':RC} (h:CallS K r2 r) (hi:∀ ds Q,r' ds Q→r ds Q):CallS K r2 r':=fun G H xs ds Q Q2 s hd q k=>h G H xs ds Q Q2 s hd (hi ds Q q) k
theorem seqF_some {d:D} {l:List D} (h:seqF d = some l):d = .lst l∨d = .tup l:=by
  cases d <;> simp only [seqF,Option.some.injEq,reduceCtorEq] at h
  · subst h; exact .inr rfl
  · subst h; exact .inl rfl
theorem add_imp:∀ x y Q,rF addF x y Q→rAddD x y Q:=by
  rintro x y Q ⟨d,e,q⟩
  unfold addF at e
  split at e
  · cases e; exact q
  · split at e
    · cases e; exact ⟨by assumption,q⟩
    · cases e
  · split at e
    · cases e; exact ⟨by assumption,q⟩
    · cases e
  · split at e
    · cases e; exact ⟨by assumption,q⟩
    · cases e
  · cases e
theorem ix_imp:∀ x y Q,rF ixF x y Q→rIxD x y Q:=by
  rintro x y Q ⟨d,e,q⟩
  unfold ixF at e
  split at e
  · simp only [rIxD,e]; exact q
  · simp only [rIxD,e]; exact q
  · cases e
theorem len_imp:∀ ds Q,cLenF ds Q→cLen ds Q:=by
  intro ds Q h
  unfold cLenF at h
  split at h
  · obtain ⟨l,e,q⟩:=h
    rcases seqF_some e with rfl | rfl <;> exact q
  · exact h.elim
theorem tru_imp {d:D} {Q:Bool→Prop} (h:∃ b,truF d = some b∧Q b):truD d Q:=by
  obtain ⟨b,e,q⟩:=h
  unfold truF at e
  split at e
  · cases e; exact q
  · cases e; exact q
  · cases e; exact q
  · split at e
    · cases e; exact ⟨by assumption,q⟩
    · cases e
  · cases e; exact q
  · cases e; exact q
theorem de_addF (ha:DE X a ta) (hb:DE X b tb):DE X (.BinOp a .Add b pos) (dOp (rF addF) ta tb):=de_bin op_addAll (os_imp os_add add_imp) ha hb
theorem de_ixF (ha:DE X a ta) (hb:DE X b tb) (hp:PlainIx b:=by exact fun _ _=>rfl):DE X (.Subscript a b pos) (dOp (rF ixF) ta tb):=de_ixG ix_seq (os_imp os_ix ix_imp) ha hb hp
theorem dt_truF (ha:DE X a ta) (he:autoParam (∀ whole,isTrue a X.env whole = (do let v ← whole; standAt a.pos; holding [v] (truthy v))) ZA.a4._auto_1):DT X a (dTruF ta) :=
  pt_imp (pt_truth ha he) fun σ H Q2 hx=>hx.el fun n δ G Q R h k=>⟨n,δ,G,_,R,h,fun v G1 H1 d δ1 R1 s1 d1 h1=>by
    obtain ⟨b,hb,hq⟩:=truV_of R1.sub d1 (tru_imp h1)
    exact ⟨b,hb,k b G1 H1 δ1 R1 s1 hq⟩⟩
theorem di_seqF {tg l:Expr} (hl:DE X l te):DI X tg l (diSeqF te) :=
  pi_imp (pi_seq hl) fun σ H R2 hx=>hx.el fun n δ G Q R h k=>⟨n,δ,G,_,R,h,fun v G1 H1 d δ1 R1 s1 d1 zz44=>zz44.elim fun l zz=>zz.elim fun e h1=>by
    rcases seqF_some e with rfl | rfl
    · obtain ⟨a,vs,rfl,hq,hl⟩:=d1.lst_inv
      exact ⟨a,rfl,.inl ⟨⟨vs,R1.sub.seq hq⟩,k _ G1 H1 l δ1 R1 s1 (jok_list hq hl) h1⟩⟩
    · obtain ⟨a,vs,rfl,hq,hl⟩:=d1.tup_inv
      exact ⟨a,rfl,.inr ⟨⟨vs,Same.tupS R1.sub hq⟩,k _ G1 H1 l δ1 R1 s1 (jok_tup hq hl) h1⟩⟩⟩
variable {p:Pos} {e:Expr} {es:List Expr} {t:TAd}
theorem de_lenF (hm:X.mg "len" = none) (ha:DA X (e :: es) t) (hg:autoParam (Gl X "len") ZA.a3._auto_1) (he:autoParam (starEach (e :: es) X.env = (false,eval e X.env) :: starEach es X.env) ZA.a3._auto_1) (hpl:autoParam ((backTo pos (starEach es X.env)).any (·.1) = false) ZA.a3._auto_1):DE X (.Call (.Name "len" p) (e :: es) [] pos) (dCall cLenF t) :=
  de_callB call_len_seq (cs_imp cs_len len_imp) hm PySem.boot_len ha hg (by decide) (by decide) he hpl
end
theorem atI_0 {α:Type} {d:α} {l:List α}:atI (d :: l) 0 = some d:=atI_nat (j:=0) rfl
theorem atI_1 {α:Type} {d d1:α} {l:List α}:atI (d :: d1 :: l) 1 = some d1:=atI_nat (j:=1) rfl
theorem atI_2 {α:Type} {d d1 d2:α} {l:List α}:atI (d :: d1 :: d2 :: l) 2 = some d2:=atI_nat (j:=2) rfl
theorem atI_3 {α:Type} {d d1 d2 d3:α} {l:List α}:atI (d :: d1 :: d2 :: d3 :: l) 3 = some d3:=atI_nat (j:=3) rfl
theorem eqD_int_int {x:Int} {y:Int}:eqD (D.int x) (D.int y) = (x == y):=rfl
theorem eqD_str_str {x:Str} {y:Str}:eqD (D.str x) (D.str y) = (x == y):=rfl
theorem eqD_tup_tup {x:List D} {y:List D}:eqD (D.tup x) (D.tup y) = eqDL x y:=rfl
theorem eqD_lst_lst {x:List D} {y:List D}:eqD (D.lst x) (D.lst y) = eqDL x y:=rfl
theorem eqDL_nil_nil:eqDL [] [] = true:=rfl
theorem eqDL_cons_nil {d:D} {l:List D}:eqDL (d :: l) [] = false:=rfl
theorem eqDL_cons_cons {d e:D} {l m:List D}:eqDL (d :: l) (e :: m) = (eqD d e && eqDL l m):=rfl
theorem isNonD_non:isNonD .non = true:=rfl
theorem isNonD_int {i:Int}:isNonD (.int i) = false:=rfl
theorem addF_int {i j:Int}:addF (.int i) (.int j) = some (.int (i + j)):=rfl
theorem addF_lst {l m:List D}:addF (.lst l) (.lst m) = if l.length + m.length ≤ sizeLine then some (.lst (l ++ m)) else none:=rfl
theorem ixF_tup {l:List D} {i:Int}:ixF (.tup l) (.int i) = atI l i:=rfl
theorem ixF_lst {l:List D} {i:Int}:ixF (.lst l) (.int i) = atI l i:=rfl
theorem seqF_lst {l:List D}:seqF (.lst l) = some l:=rfl
theorem truF_bl {b:Bool}:truF (.bl b) = some b:=rfl
theorem truF_lst {l:List D}:truF (.lst l) = some (!l.isEmpty):=rfl
end Dl
namespace Dl
open PySem PySem.Spec PyProof.Rows L2
theorem clos_go {env:PySem.Env}:∀ (names:List (Str × NameKind)) (cs:List (Str × Addr)),(∀ x ∈ names,x.2 = NameKind.free→∃ c,env.cells.lookup x.1 = some c) →
    (∀ x c,cs.lookup x = some c→env.cells.lookup x = some c) →
    ∃ cl,(forIn names cs fun x r=>if (x.snd == NameKind.free) = true then do let c ← cellOf env x.fst; pure (ForInStep.yield ((x.fst,c) :: r)) else pure (ForInStep.yield r):Sem (List (Str × Addr))) = pure cl ∧
      (∀ x c,cl.lookup x = some c→env.cells.lookup x = some c)∧∀ x,((∃ c,cs.lookup x = some c)∨(x,NameKind.free) ∈ names)→∃ c,cl.lookup x = some c
  | [],cs,_,h=>⟨cs,rfl,h,fun x hx=>hx.elim id fun z=>absurd z (by simp)⟩
  | (n,k) :: r,cs,hf,h=>by
    by_cases hk:k = .free
    · subst hk
      obtain ⟨c,hc⟩:=hf (n,.free) List.mem_cons_self rfl
      obtain ⟨cl,e,h1,h2⟩:=clos_go r ((n,c) :: cs) (fun x hx=>hf x (List.mem_cons_of_mem _ hx)) (fun x d hx=>by
        rw [List.lookup_cons] at hx
        split at hx
        · rename_i q; cases hx; rw [eq_of_beq q]; exact hc
        · exact h x d hx)
      refine ⟨cl,?_,h1,fun x hx=>h2 x ?_⟩
      · rw [List.forIn_cons,← e]
        have e0:cellOf env n = pure c:=by unfold cellOf; rw [hc]
        simp only [beq_self_eq_true,if_true,e0]
        rfl
      · rcases hx with ⟨d,hx⟩ | hx
        · left
          rw [List.lookup_cons]
          split
          · exact ⟨_,rfl⟩
          · exact ⟨d,hx⟩
        · rcases List.mem_cons.mp hx with z | z
          · cases z
            left
            exact ⟨c,by rw [List.lookup_cons,beq_self_eq_true]⟩
          · exact .inr z
    · obtain ⟨cl,e,h1,h2⟩:=clos_go r cs (fun x hx=>hf x (List.mem_cons_of_mem _ hx)) h
      refine ⟨cl,?_,h1,fun x hx=>h2 x ?_⟩
      · rw [List.forIn_cons,← e]
        have:(k == NameKind.free) = false:=by simpa using hk
        simp only [this,Bool.false_eq_true,if_false]
        rfl
      · rcases hx with hx | hx
        · exact .inl hx
        · rcases List.mem_cons.mp hx with z | z
          · cases z; exact absurd rfl hk
          · exact .inr z
theorem clos_of {env:PySem.Env} {scope:Scope} (hf:∀ x ∈ scope.names,x.2 = NameKind.free→∃ c,env.cells.lookup x.1 = some c) :
    ∃ cl,closureFor scope env = pure cl∧(∀ x c,cl.lookup x = some c→env.cells.lookup x = some c)∧∀ x,(x,NameKind.free) ∈ scope.names→∃ c,cl.lookup x = some c:=by
  obtain ⟨cl,e,h1,h2⟩:=clos_go scope.names [] hf (fun x c h=>by simp at h)
  refine ⟨cl,?_,h1,fun x hx=>h2 x (.inr hx)⟩
  simp only [closureFor]
  rw [e]
  rfl
theorem lookup_relabel {env:PySem.Env} {x:Str}:∀ {names:List (Str × NameKind)},
    (names.map fun (n,k)=>if (k == NameKind.free && env.scope.kind == .function && env.kindOf n == some .cell) then (n,NameKind.cell) else (n,k)).lookup x =
      (names.lookup x).map fun k=>if (k == NameKind.free && env.scope.kind == .function && env.kindOf x == some .cell) then NameKind.cell else k
  | []=>rfl
  | (n,k) :: r=>by
    have ih:=@lookup_relabel env x r
    rw [List.map_cons]
    by_cases hx:x = n
    · subst hx
      have e1:List.lookup x ((x,k) :: r) = some k:=by rw [List.lookup_cons,beq_self_eq_true]
      rw [e1,Option.map_some]
      dsimp only
      split
      · rw [List.lookup_cons,beq_self_eq_true]
      · rw [List.lookup_cons,beq_self_eq_true]
    · have hb:(x == n) = false:=by simpa using hx
      have e1:List.lookup x ((n,k) :: r) = List.lookup x r:=by rw [List.lookup_cons,hb]
      rw [e1,← ih]
      dsimp only
      split
      · rw [List.lookup_cons,hb]
      · rw [List.lookup_cons,hb]
theorem mem_of_look {x:Str} {k:NameKind}:∀ {names:List (Str × NameKind)},names.lookup x = some k→(x,k) ∈ names
  | [],h=>by simp at h
  | (n,j) :: r,h=>by
    rw [List.lookup_cons] at h
    split at h
    · rename_i q; cases h; rw [eq_of_beq q]; exact List.mem_cons_self
    · exact List.mem_cons_of_mem _ (mem_of_look h)
theorem cf_app:∀ (names:List (Str × NameKind)) (n:Nat) (acc:List (Str × Addr)),cellsFrom n names acc = cellsFrom n names [] ++ acc
  | [],_,_=>rfl
  | (x,k) :: r,n,acc=>by
    unfold cellsFrom
    split
    · rw [cf_app r (n + 1) ((x,n) :: acc),cf_app r (n + 1) [(x,n)],List.append_assoc]; rfl
    · exact cf_app r n acc
theorem cf_mem {x:Str} {c:Addr}:∀ (names:List (Str × NameKind)) (n:Nat),(x,c) ∈ cellsFrom n names []→(x,NameKind.cell) ∈ names
  | [],_,h=>nomatch h
  | (y,k) :: r,n,h=>by
    unfold cellsFrom at h
    split at h
    · rename_i hk
      rw [cf_app] at h
      rcases List.mem_append.mp h with h | h
      · exact List.mem_cons_of_mem _ (cf_mem r (n + 1) h)
      · rw [List.mem_singleton] at h
        cases h
        rw [eq_of_beq hk]
        exact List.mem_cons_self
    · exact List.mem_cons_of_mem _ (cf_mem r n h)
theorem wpAny_compEnv {M:Model} {A:Around} {E:Value→Shared→Prop} {s:Shared} {scope:Scope} {g:Addr} {cl:List (Str × Addr)} {q:Str} {env:PySem.Env} {Q:PySem.Env→Shared→Prop}
    (h:Q (newEnv scope s.heap.objs.size g (cellsFrom (s.heap.objs.size + 1) scope.names cl) q none .none (some env) builtinsNs) { s with heap:=pushCells (s.heap.push { cls:=.type "dict",data:=.dict #[] }) scope.names }) :
    wpAny M A (newFunctionEnv scope g cl [] q none .none (some env)) Q E s:=by
  simp only [newFunctionEnv,Option.isSome_some,if_true]
  refine wpAny_bind (wpAny_alloc ?_)
  refine wpAny_bind (wpAny_layCells _ (fun name kind cells=>by cases hkc:kind == NameKind.cell <;> simp [hkc]) _ _ _ _ ?_)
  rw [show ({ s with heap:=s.heap.push { cls:=.type "dict",data:=.dict #[] } }:Shared).heap.objs.size = s.heap.objs.size + 1 from Heap.size_push ..]
  exact wpAny_bind (by rw [List.forIn_nil]; exact wpAny_pure (wpAny_pure h))
structure OwnC (scope:Scope) (own:List (Str × Addr)) (L:Addr) (h:Heap):Prop where
  new:∀ x c,own.lookup x = some c→L < c∧h.IsCell c none
  apart:own.Pairwise fun x y=>x.2 ≠ y.2
  has:∀ x,scope.names.lookup x = some .cell→∃ c,own.lookup x = some c
  free:∀ x,(x,NameKind.free) ∈ scope.names→own.lookup x = none
theorem ownC_of {scope:Scope} {h:Heap} (hd:∀ x,(x,NameKind.free) ∈ scope.names→(x,NameKind.cell) ∉ scope.names) :
    OwnC scope (cellsFrom (h.objs.size + 1) scope.names []) h.objs.size (pushCells (h.push { cls:=.type "dict",data:=.dict #[] }) scope.names):=by
  have ok:=cellsFrom_ok scope.names (h.push { cls:=.type "dict",data:=.dict #[] }) (h.objs.size + 1) [] ⟨fun _ _ hm=>(nomatch hm),List.Pairwise.nil⟩ (by rw [Heap.size_push]; exact Nat.le_refl _)
  rw [Heap.size_push] at ok
  refine ⟨fun x c e=>⟨(ok.empty x c (PySem.mem_of_lookup e)).2,(ok.empty x c (PySem.mem_of_lookup e)).1⟩,ok.apart,fun x e=>Option.isSome_iff_exists.mp (PySem.W.cellsFrom_some _ _ _ (.inl e)),fun x hx=>?_⟩
  cases q:(cellsFrom (h.objs.size + 1) scope.names []).lookup x with
  | none=>rfl
  | some c=>exact absurd (cf_mem _ _ (PySem.mem_of_lookup q)) (hd x hx)
noncomputable def cxComp (X:Cx) (N:List Str) (scope:Scope) (cl:List (Str × Addr)) (C:Addr) (ex:List Addr) (s:Shared) (H:Hp):Cx where
  prog:=X.prog
  w:=X.w
  K:=X.K
  mg:=X.mg
  base:=X.base
  A:=X.A
  N:=N
  s₀:=s
  H₀:=H
  env:=compEnvC scope cl C X.env
  outer:=X.stack
  stack:=X.stack
  ex:=ex
  fn:=fun x=>scope.names.lookup x == some .cell
  calm:=X.calm
  pn:=[]
  xe:=fun _ _=>False
section
variable {X:Cx} {pins:List (Addr × Obj)} {σ:L2.St} {H:Hp} {s:Shared} {N':List Str} {scope:Scope} {cl:List (Str × Addr)} {fp:List Addr} {k:Nat} {h₁:Heap} {tk:Nat}
theorem comp_inv {own:List (Str × Addr)} (I:Inv X pins σ H s) (hkind:scope.kind = .function) (hcl1:∀ x c,cl.lookup x = some c→X.env.cells.lookup x = some c) (hcl2:∀ x,(x,NameKind.free) ∈ scope.names→∃ c,cl.lookup x = some c)
    (ow:OwnC scope own s.heap.objs.size h₁) (hN:N'.length = X.N.length + k)
    (hcap:∀ (i:Nat) (x:Str),N'[i]? = some x→i < X.N.length→Vis (relabel scope X.env) x→X.N[i]? = some x∧scope.names.lookup x = some .free∧X.env.scope.names.lookup x = some .cell)
    (f:∀ b ∈ fp,FpOk X pins H b) (fo:∀ b ∈ fp,b < s.heap.objs.size) (hns:h₁.Ns s.heap.objs.size fun _=>none) (hk:∀ b o,s.heap.get? b = some o→h₁.get? b = some o) :
    Inv (cxComp X N' scope (own ++ cl) s.heap.objs.size fp s H) [] (σ ++ List.replicate k none) H { s with heap:=h₁,toks:=tk }:=by
  have kin:∀ x,(relabel scope X.env).names.lookup x = (scope.names.lookup x).map fun k=>if (k == NameKind.free && X.env.scope.kind == .function && X.env.kindOf x == some .cell) then NameKind.cell else k:=fun x=>lookup_relabel
  have two:∀ x c,(own ++ cl).lookup x = some c→own.lookup x = some c∨X.env.cells.lookup x = some c:=fun x c e=>by
    rw [List.lookup_append] at e
    cases q:own.lookup x with
    | none=>rw [q] at e; exact .inr (hcl1 x c e)
    | some d=>rw [q] at e; exact .inl e
  have cap:∀ x c,(x,NameKind.free) ∈ scope.names→cl.lookup x = some c→(own ++ cl).lookup x = some c:=fun x c hx e=>by rw [List.lookup_append,ow.free x hx]; exact e
  have old:∀ x c,X.env.cells.lookup x = some c→c < s.heap.objs.size:=fun x c e=>let ⟨_,o,ho,_⟩:=I.cell x c e; Heap.lt_size ho
  have fre:∀ x,((relabel scope X.env).names.lookup x = some .cell∨(relabel scope X.env).names.lookup x = some .free)→scope.names.lookup x = some .cell∨(x,NameKind.free) ∈ scope.names:=fun x hx=>by
    rw [kin x] at hx
    cases q:scope.names.lookup x with
    | none=>rw [q] at hx; simp at hx
    | some k =>
      have hm:=mem_of_look q
      cases k with
      | free=>exact .inr hm
      | cell=>exact .inl rfl
      | _=>rw [q] at hx; simp at hx
  have lt:∀ b o,X.base.get? b = some o→b < X.s₀.heap.objs.size:=fun b o e=>Heap.lt_size (I.ok.bs b o e).1
  have okX:(cxComp X N' scope (own ++ cl) s.heap.objs.size fp s H).Ok:=by
    refine ⟨I.ok.mod,hkind,I.ok.glob,I.ok.blt,Nat.le_refl _,fun x y c h1 h2=>?_,fun x hx=>?_,fun x c h e=>?_,I.ok.hd,I.ok.frames,.inl rfl,
      fun b hb=>⟨Nat.ne_of_lt (fo b hb),fun x c e=>?_⟩,fun b o e=>I.bs b o e,Nat.le_trans I.ok.bsz I.sz,fun b o e hb=>?_,fun b hb z=>?_,I.stack,I.stkFree⟩
    · rcases two x c h1 with a | a <;> rcases two y c h2 with b | b
      · exact name_of_addr ow.apart (PySem.mem_of_lookup a) (PySem.mem_of_lookup b)
      · exact absurd (Nat.lt_trans (ow.new x c a).1 (old y c b)) (Nat.lt_irrefl _)
      · exact absurd (Nat.lt_trans (ow.new y c b).1 (old x c a)) (Nat.lt_irrefl _)
      · exact I.ok.inj x y c a b
    · rcases fre x hx with z | z
      · obtain ⟨c,hc⟩:=ow.has x z
        exact ⟨c,by show (own ++ cl).lookup x = _; rw [List.lookup_append,hc]; rfl⟩
      · obtain ⟨c,hc⟩:=hcl2 x z
        exact ⟨c,cap x c z hc⟩
    · obtain ⟨d,hd⟩:=ow.has x (eq_of_beq h)
      have e':(own ++ cl).lookup x = some c:=e
      rw [List.lookup_append,hd] at e'
      cases e'
      exact Nat.le_of_lt (ow.new x _ hd).1
    · rcases two x c e with a | a
      · exact Nat.ne_of_gt (Nat.lt_trans (fo b hb) (ow.new x c a).1)
      · exact (f b hb).2.2.2.2.1 x c a
    · rcases (f b hb).2.2.2.1 with z | z
      · exact I.ok.noex b o e z
      · exact absurd (Nat.lt_of_lt_of_le (lt b o e) z) (Nat.lt_irrefl _)
    · rcases List.mem_cons.mp (I.stkSub b z) with z | z
      · exact (f b hb).2.1 z
      · exact (f b hb).2.2.1 z
  refine ⟨okX,rfl,I.bare,Un.kept hk,⟨_,hns,fun i x v h1 h2 h3=>?_⟩,fun x c e=>?_,I.hok.fresh (Nat.le_refl _),fun x c e=>?_,fun p hp=>absurd (show p ∈ ([]:List (Addr × Obj)) from hp) (by simp),I.hok.kept hk,?_⟩
  · have hi:i < σ.length:=by
      by_cases hi:i < σ.length
      · exact hi
      · rw [List.getElem?_append_right (by omega),List.getElem?_replicate] at h2
        split at h2 <;> cases h2
    have hi':i < X.N.length:=by rw [← I.len]; exact hi
    rw [List.getElem?_append_left hi] at h2
    obtain ⟨e1,e2,e3⟩:=hcap i x h1 hi' h3
    obtain ⟨m,_,hl⟩:=I.loc
    obtain ⟨u,ru,lk⟩:=hl i x v e1 h2 (.inr (.inl e3))
    refine ⟨u,ru,?_⟩
    have e3':X.env.kindOf x = some .cell:=e3
    rcases lk with ⟨z,_⟩ | ⟨_,c,hc,hcell⟩
    · rw [e3'] at z; cases z
    · obtain ⟨c',hc'⟩:=hcl2 x (mem_of_look e2)
      have:=hcl1 x c' hc'
      rw [hc] at this; cases this
      refine .inr ⟨.inl ?_,c,cap x c (mem_of_look e2) hc',?_⟩
      · show (relabel scope X.env).names.lookup x = some .cell
        rw [kin x,e2,Option.map_some,e3',I.ok.kind]
        rfl
      · obtain ⟨o,ho,hd⟩:=hcell
        exact ⟨o,hk _ _ ho,hd⟩
  · rcases two x c e with a | a
    · exact ⟨none,(ow.new x c a).2⟩
    · obtain ⟨v,o,ho,hd⟩:=I.cell x c a
      exact ⟨v,o,hk _ _ ho,hd⟩
  · rcases two x c e with a | a
    · exact I.hok.fresh (Nat.le_of_lt (ow.new x c a).1)
    · exact I.freeC x c a
  · show (σ ++ List.replicate k none).length = N'.length
    rw [List.length_append,List.length_replicate,I.len,hN]
theorem comp_reset {own:List (Str × Addr)} {pins':List (Addr × Obj)} {σ':L2.St} {H':Hp} {s':Shared} (I:Inv X pins σ H s) (hcl1:∀ x c,cl.lookup x = some c→X.env.cells.lookup x = some c) (hcl2:∀ x,(x,NameKind.free) ∈ scope.names→∃ c,cl.lookup x = some c)
    (hof:∀ x,(x,NameKind.free) ∈ scope.names→own.lookup x = none) (hN:N'.length = X.N.length + k)
    (hcap:∀ (i:Nat) (x:Str),N'[i]? = some x→i < X.N.length→Vis (relabel scope X.env) x→X.N[i]? = some x∧scope.names.lookup x = some .free∧X.env.scope.names.lookup x = some .cell)
    (J:Inv (cxComp X N' scope (own ++ cl) s.heap.objs.size fp s H) pins' σ' H' s'):Inv (cxComp X N' scope (own ++ cl) s.heap.objs.size fp s H) pins' (σ ++ List.replicate k none) H' s':=by
  obtain ⟨m,hm,_⟩:=J.loc
  refine ⟨J.ok,J.os,J.bare,J.base,⟨m,hm,fun i x v h1 h2 h3=>?_⟩,J.cell,J.free,J.freeC,J.pin,J.hok,?_⟩
  · have hi:i < σ.length:=by
      by_cases hi:i < σ.length
      · exact hi
      · rw [List.getElem?_append_right (by omega),List.getElem?_replicate] at h2
        split at h2 <;> cases h2
    have hi':i < X.N.length:=by rw [← I.len]; exact hi
    rw [List.getElem?_append_left hi] at h2
    obtain ⟨e1,e2,e3⟩:=hcap i x h1 hi' h3
    obtain ⟨_,_,hl⟩:=I.loc
    obtain ⟨u,ru,lk⟩:=hl i x v e1 h2 (.inr (.inl e3))
    refine ⟨u,ru,?_⟩
    have e3':X.env.kindOf x = some .cell:=e3
    rcases lk with ⟨z,_⟩ | ⟨_,c,hc,hcell⟩
    · rw [e3'] at z; cases z
    · obtain ⟨c',hc'⟩:=hcl2 x (mem_of_look e2)
      have:=hcl1 x c' hc'
      rw [hc] at this; cases this
      have hc2:(own ++ cl).lookup x = some c:=by rw [List.lookup_append,hof x (mem_of_look e2)]; exact hc'
      refine .inr ⟨.inl ?_,c,hc2,?_⟩
      · show (relabel scope X.env).names.lookup x = some .cell
        rw [show (relabel scope X.env).names.lookup x = _ from lookup_relabel,e2,Option.map_some,e3',I.ok.kind]
        rfl
      · obtain ⟨o,ho,hd⟩:=hcell
        have hx:c ∉ fp:=fun z=>((J.ok.exf c z).2 x c hc2) rfl
        obtain ⟨sl,hs⟩:=J.base.any ho (I.freeC x c hc) hx
        exact ⟨_,hs,hd⟩
  · show (σ ++ List.replicate k none).length = N'.length
    rw [List.length_append,List.length_replicate,I.len,hN]
end
section
variable {A:Around} {prog:Program} {w:World} {s:Shared} {R:Result→Shared→Prop}
theorem compLoop_any {el tg itr:Expr} {cs:List Expr} {sc:Scope} {ps:Pos} {itv ac:Value} {en:PySem.Env} (I:Nat→Shared→Prop)
    (turn:∀ n s,I n s→wpAny (model prog w) A (pyNext itv) (fun r s₁=>match r with
      | none=>R (.ok .next) s₁
      | some v=>wpAny (model prog w) A (letOwnedTupleGo tg itv v) (fun _ s₁'=>wpAny (model prog w) A (assign tg en v) (fun _ s₂ =>
          wpAny (model prog w) A (forIn cs true fun c r=>if r = true then do let ok ← isTrue c en (eval c en); pure (ForInStep.yield ok) else pure (ForInStep.yield r)) (fun ok s₃ =>
            if ok = true then wpAny (model prog w) A (eval el en) (fun x s₄ =>
              wpAny (model prog w) A (call (.builtin "list.append") [ac,x]) (fun _ s₅=>∃ m,m < n∧I m s₅) (fun _ _=>False) s₄) (fun _ _=>False) s₃
            else ∃ m,m < n∧I m s₃) (fun _ _=>False) s₂) (fun _ _=>False) s₁') (fun _ _=>False) s₁) (fun _ _=>False) s)
    (n:Nat) (h:I n s):codeAny (model prog w) A (.compLoop (.ListComp el [⟨tg,itr,cs,0⟩] sc ps) 0 itv ac en) R s:=by
  refine codeAny_loop rfl I (fun n s hn=>?_) n h
  show wpAny _ A ((compTurn (.ListComp el [⟨tg,itr,cs,0⟩] sc ps) 0 itv ac en).onRaise (fun x=>do noteFrame x en; theTreesLotGoes x)) _ _ s
  refine wpAny_noted ?_
  rw [compTurn_list]
  refine wpAny_bind (wpAny_standAt (wpAny_bind (wpAny_mono (turn n s hn) (fun r s₁ h₁=>?_) fun _ _ z=>False.elim z)))
  cases r with
  | none=>exact wpAny_pure h₁
  | some v =>
    refine wpAny_bind (wpAny_mono h₁ (fun _ s₁' h₁'=>?_) fun _ _ z=>False.elim z)
    refine wpAny_bind (wpAny_mono h₁' (fun _ s₂ h₂=>wpAny_bind (wpAny_mono h₂ (fun ok s₃ h₃=>?_) fun _ _ z=>False.elim z)) fun _ _ z=>False.elim z)
    cases ok with
    | false=>exact (wpAny_pure ⟨rfl,h₃⟩)
    | true =>
      exact wpAny_bind (wpAny_bind (wpAny_mono h₃ (fun x s₄ h₄=>wpAny_bind (wpAny_mono h₄ (fun _ s₅ h₅=>wpAny_pure (wpAny_pure ⟨rfl,h₅⟩)) fun _ _ z=>False.elim z)) fun _ _ z=>False.elim z))
end
structure JOkH (K:PySem.W.Frag) (G Hk:Hp) (J:It) (l:List D):Prop where
  go:∀ (i:Nat) (G1 H1:Hp),Same G G1→Same G1 H1→Same Hk H1→i < l.length→J.go i H1
  yl:∀ (i:Nat) (G1 H1:Hp) (x:V) (H2:Hp),Same G G1→Same G1 H1→Same Hk H1→i < l.length→J.yld i H1 x H2→∃ (G2:Hp) (d:D),Ext G1 H1 G2 H2∧l[i]? = some d∧Den K G2 x d
  st:∀ (i:Nat) (G1 H1:Hp),Same G G1→Same G1 H1→Same Hk H1→l.length ≤ i→J.stop i H1
theorem JOk.h {K:PySem.W.Frag} {G Hk:Hp} {J:It} {l:List D} (j:JOk K G J l):JOkH K G Hk J l :=
  ⟨fun i G1 H1 a b _=>j.go i G1 H1 a b,fun i G1 H1 x H2 a b _=>j.yl i G1 H1 x H2 a b,fun i G1 H1 a b _=>j.st i G1 H1 a b⟩
noncomputable def lIh (K:PySem.W.Frag) (t:TId):TI:=fun σ H R2=>∃ (n:En) (δ:Ev) (G:Hp) (Q:List D→Ev→Prop),Rel K n δ σ G H∧t δ Q ∧
  ∀ (J:It) (G' H':Hp) (l:List D) (δ':Ev),Rel K n δ' σ G' H'→Same G G'→JOkH K G' H' J l→Q l δ'→R2 J H'
theorem lIh.el {K:PySem.W.Frag} {t:TId} {σ H R2} {P:Prop} (x:lIh K t σ H R2) (k:∀ (n:En) (δ:Ev) (G:Hp) (Q:List D→Ev→Prop),(Rel K n δ σ G H)→(t δ Q)→(∀ (J:It) (G' H':Hp) (l:List D) (δ':Ev),Rel K n δ' σ G' H'→Same G G'→JOkH K G' H' J l→Q l δ'→R2 J H')→P):P:=by
  obtain ⟨n,δ,G,Q,h0,h1,h2⟩:=x
  exact k n δ G Q h0 h1 h2
noncomputable abbrev DIh (X:Cx) (tg iter:Expr) (t:TId):Prop:=PI X tg iter (lIh X.K t)
theorem di_h {X:Cx} {tg iter:Expr} {t:TId} (h:DI X tg iter t):DIh X tg iter t :=
  pi_imp h fun σ H R2 hx=>hx.el fun n δ G Q R ht k=>⟨n,δ,G,Q,R,ht,fun J G' H' l δ' R' s' j' q'=>k J G' H' l δ' R' s' j'.h q'⟩
noncomputable def DTs (X:Cx) (ifs:List Expr) (t:TTd):Prop :=
  ∀ (pins:List (Addr × Obj)) (s:Shared) (σ:L2.St) (H:Hp) (Q:Bool→Hp→Prop),Inv X pins σ H s→lT X.K t σ H Q →
    wpAny (model X.prog X.w) X.A (forIn ifs true fun c r=>if r = true then do let ok ← isTrue c X.env (eval c X.env); pure (ForInStep.yield ok) else pure (ForInStep.yield r)) (TP X pins σ Q) X.xe s
noncomputable def dYes:TTd:=fun δ Q=>Q true δ
theorem dts_nil {X:Cx}:DTs X [] dYes:=fun pins s σ H Q I zz45=>zz45.elim fun n zz=>zz.elim fun δ zz=>zz.elim fun G zz=>zz.elim fun Qd zz=>zz.elim fun R zz=>zz.elim fun h k=>wpAny_tests_nil ⟨H,I,k true G H δ R (Same.refl _) h⟩
theorem dts_one {X:Cx} {c:Expr} {t:TTd} (h:DT X c t):DTs X [c] t:=fun pins s σ H Q I q=>wpAny_tests_one (h pins s σ H Q I q)
noncomputable def dComp (k:Nat) (ti:TId) (g:TGd) (tt:TTd) (te:TEd):TEd:=fun δ Q=>ti δ fun items δ1=>∃ F:D→Option D,
  (∀ d ∈ items,g d (dropOw δ1 ++ List.replicate k .no) fun δ2=>tt δ2 fun b δ3=>if b = true then te δ3 fun y _=>F d = some y else F d = none) ∧
    (items.filterMap F).length ≤ sizeLine∧Q (.lst (items.filterMap F)) δ1
theorem fm_take {α β:Type} (F:α→Option β) (l:List α) (i:Nat) (d:α) (h:l[i]? = some d):(l.take (i + 1)).filterMap F = (l.take i).filterMap F ++ (F d).toList:=by
  rw [List.take_add_one,h,List.filterMap_append]
  cases q:F d <;> simp [q]
theorem fm_le {α β:Type} (F:α→Option β) (l:List α) (i:Nat):((l.take i).filterMap F).length ≤ (l.filterMap F).length:=by
  conv=>rhs; rw [← List.take_append_drop i l]
  rw [List.filterMap_append,List.length_append]
  omega
theorem comp_run {X:Cx} {elt iter target:Expr} {ifs:List Expr} {scope:Scope} {pos:Pos} {N':List Str} (k:Nat) {ti:TId} {g:TGd} {tt:TTd} {te:TEd} (hc:X.calm = true) (hi:DIh X target iter ti)
    (hb:∀ (cl:List (Str × Addr)) (C:Addr) (ex:List Addr) (s:Shared) (H:Hp),DG (cxComp X N' scope cl C ex s H) target g∧DTs (cxComp X N' scope cl C ex s H) ifs tt∧DE (cxComp X N' scope cl C ex s H) elt te)
    (hkind:scope.kind = .function) (hnames:∀ y ∈ scope.names,y.2 = .local→scope.names.lookup y.1 = some .local) (hnc:∀ x,(x,NameKind.free) ∈ scope.names→(x,NameKind.cell) ∉ scope.names) (hN:N'.length = X.N.length + k)
    (hcap:∀ (i:Nat) (x:Str),N'[i]? = some x→i < X.N.length→Vis (relabel scope X.env) x→X.N[i]? = some x∧scope.names.lookup x = some .free∧X.env.scope.names.lookup x = some .cell)
    (hfr:∀ x ∈ scope.names,x.2 = NameKind.free→X.env.scope.names.lookup x.1 = some .cell)
    (hs:∀ x,foldedSetIterable iter X.env x = pure x)
    {use:Option (Value→Sem Unit)} {Qf:Value→Shared→Prop} {pins:List (Addr × Obj)} {s:Shared} {σ:L2.St} {H:Hp} {Q2:VK} {p:Pos} (I:Inv X pins σ H s) (hq:lE X.K (dComp k ti g tt te) σ H Q2)
    (fin:∀ (D₀ C:Addr) (H':Hp) (s6:Shared),Inv X pins σ H' s6→FpOk X pins H' C→(∃ m,s6.heap.Ns C m)→Q2 (.ref D₀) H'→compPost (model X.prog X.w) X.A X.xe use Qf (.ref D₀) C (.ok .next) s6) :
    wpAny (model X.prog X.w) X.A (comprehension (.ListComp elt [⟨target,iter,ifs,0⟩] scope pos) scope X.env p (newList []) false (eval iter X.env) use) Qf X.xe s:=by
  obtain ⟨n,δ,G,Q,R,h,kk⟩:=hq
  obtain ⟨cl,hclos,hcl1,hcl2⟩:=clos_of (env:=X.env) (scope:=scope) (fun x hx hf=>I.ok.has x.1 (.inl (hfr x hx hf)))
  refine wpAny_comprehension_free (use:=use) rfl hs hclos hkind hnames (wpAny_mono (hi pins s σ H _ I ⟨n,δ,G,_,R,h,fun J G' H' l δ' R' s' j' q'=>(show ∃ G' l δ',Rel X.K n δ' σ G' H'∧Same G G'∧JOkH X.K G' H' J l ∧
    (∃ F:D→Option D,(∀ d ∈ l,g d (dropOw δ' ++ List.replicate k .no) fun δ2=>tt δ2 fun b δ3=>if b = true then te δ3 fun y _=>F d = some y else F d = none)∧(l.filterMap F).length ≤ sizeLine∧Q (.lst (l.filterMap F)) δ') from ⟨G',l,δ',R',s',j',q'⟩)⟩)
    (fun xv s₁ h₁=>wpAny_mono h₁ (fun itv s₂ h₂=>?_) fun _ _ z=>z) fun _ _ z=>z)
  obtain ⟨it,fp,tn,J,H2,rfl,I2,T,st2,f2,G2,items,δ1,R2,sG2,j2,F,hF,hsz,hQ⟩:=h₂
  refine wpAny_newObj_type (wpAny_compEnv ?_)
  rw [cf_app]
  dsimp only
  have hD:H2 s₂.heap.objs.size = none:=I2.fresh
  have I3:Inv X pins σ (upd H2 s₂.heap.objs.size (.lst [])) { s₂ with heap:=s₂.heap.push { cls:=.type "list",dict:=none,data:=.seq ([]:List Value).toArray } }:=I2.lnew (t':=s₂.toks) .nil (Nat.zero_le _)
  have R3:Rel X.K n δ1 σ G2 (upd H2 s₂.heap.objs.size (.lst [])):=R2.other (R2.sub.free hD) (R2.al _ hD) (R2.notOwn hD) _
  have f3:∀ b ∈ fp,FpOk X pins (upd H2 s₂.heap.objs.size (.lst [])) b:=fun b hb=>by
    have lt : b < s₂.heap.objs.size:=by obtain ⟨o,ho,_⟩:=T.obj _ _ st2 b hb; exact Heap.lt_size ho
    refine ⟨?_,(f2 b hb).2⟩
    rw [upd_ne (Nat.ne_of_lt lt)]; exact (f2 b hb).1
  have fo3:∀ b ∈ fp,b < (s₂.heap.push { cls:=.type "list",dict:=none,data:=.seq ([]:List Value).toArray }).objs.size:=fun b hb=>by
    obtain ⟨o,ho,_⟩:=T.obj _ _ st2 b hb
    rw [Heap.size_push]
    exact Nat.lt_succ_of_lt (Heap.lt_size ho)
  have up3:∀ b o,s₂.heap.get? b = some o→(s₂.heap.push { cls:=.type "list",dict:=none,data:=.seq ([]:List Value).toArray }).get? b = some o:=fun b o e=>Heap.get?_push_of_some _ e
  generalize hH3:upd H2 s₂.heap.objs.size (.lst []) = H3 at I3 R3 f3
  have hD3:H3 s₂.heap.objs.size = some (.lst []):=by rw [← hH3]; exact upd_same
  have gD3:G2 s₂.heap.objs.size = none:=R2.sub.free hD
  have nD3:n.H s₂.heap.objs.size = none:=R2.al _ hD
  have own3:Rel X.K n δ1 σ G2 (del H3 s₂.heap.objs.size):=by rw [← hH3,del_upd,del_none hD]; exact R2
  have kp3:Same H2 H3:=by rw [← hH3]; exact same_upd hD _
  generalize s₂.heap.objs.size = D₀ at hD hD3 gD3 nD3 own3 ⊢
  have tn3:∀ h',(∀ b o,(s₂.heap.push { cls:=.type "list",dict:=none,data:=.seq ([]:List Value).toArray }).get? b = some o→h'.get? b = some o)→tn 0 h':=fun h' k'=>T.keep 0 _ _ st2 fun b _ o e=>k' b o (up3 b o e)
  have osz:({ s₂ with heap:=s₂.heap.push { cls:=.type "list",dict:=none,data:=.seq ([]:List Value).toArray } }:Shared).os = s₂.os:=rfl
  generalize hs3:({ s₂ with heap:=s₂.heap.push { cls:=.type "list",dict:=none,data:=.seq ([]:List Value).toArray } }:Shared) = s₃ at I3
  have eh3:s₃.heap = s₂.heap.push { cls:=.type "list",dict:=none,data:=.seq ([]:List Value).toArray }:=by rw [← hs3]
  rw [← eh3] at fo3 tn3 ⊢
  have ow:=ownC_of (h:=s₃.heap) hnc
  have hns₁:(pushCells (s₃.heap.push { cls:=.type "dict",data:=.dict #[] }) scope.names).Ns s₃.heap.objs.size fun _=>none:=(Heap.Ns.new s₃.heap (.type "dict")).keeps (pushCells_keeps _ _)
  have hk3:∀ b o,s₃.heap.get? b = some o→(pushCells (s₃.heap.push { cls:=.type "dict",data:=.dict #[] }) scope.names).get? b = some o:=fun b o e=>pushCells_keeps _ _ b o (Heap.get?_push_of_some _ e)
  generalize cellsFrom (s₃.heap.objs.size + 1) scope.names [] = own at ow ⊢
  generalize hh1:pushCells (s₃.heap.push { cls:=.type "dict",data:=.dict #[] }) scope.names = h₁ at ow hns₁ hk3 ⊢
  have es4:({ s₂ with heap:=h₁ }:Shared) = { s₃ with heap:=h₁,toks:=s₃.toks }:=by rw [← hs3]
  have I4:Inv (cxComp X N' scope (own ++ cl) s₃.heap.objs.size fp s₃ H3) [] (σ ++ List.replicate k none) H3 { s₃ with heap:=h₁,toks:=s₃.toks }:=comp_inv I3 hkind hcl1 hcl2 ow hN hcap f3 fo3 hns₁ hk3
  have reset:∀ {pins':List (Addr × Obj)} {σ':L2.St} {H':Hp} {s':Shared},Inv (cxComp X N' scope (own ++ cl) s₃.heap.objs.size fp s₃ H3) pins' σ' H' s'→Inv (cxComp X N' scope (own ++ cl) s₃.heap.objs.size fp s₃ H3) pins' (σ ++ List.replicate k none) H' s' :=
    fun J'=>comp_reset I3 hcl1 hcl2 ow.free hN hcap J'
  generalize own ++ cl = cl at I4 reset ⊢
  have fpok:∀ {H':Hp},(∀ b ∈ fp,H' b = none)→∀ b ∈ fp,FpOk (cxComp X N' scope cl s₃.heap.objs.size fp s₃ H3) [] H' b:=fun hn b hb =>
    ⟨hn b hb,Nat.ne_of_lt (fo3 b hb),I4.ok.exfs b hb,.inl hb,(I4.ok.exf b hb).2,fun p hp=>absurd (show p ∈ ([]:List (Addr × Obj)) from hp) (by simp)⟩
  obtain ⟨hG,hT,hE⟩:=hb cl s₃.heap.objs.size fp s₃ H3
  have loop:∀ s₄:Shared,s₄ = { s₃ with heap:=h₁,toks:=s₃.toks } →
      codeAny (model X.prog X.w) X.A (.compLoop (.ListComp elt [⟨target,iter,ifs,0⟩] scope pos) 0 (.ref it) (.ref D₀) (compEnvC scope cl s₃.heap.objs.size X.env)) (compPost (model X.prog X.w) X.A X.xe use Qf (.ref D₀) s₃.heap.objs.size) s₄:=by
    rintro s₄ rfl
    refine compLoop_any (fun m s=>∃ (i:Nat) (H:Hp) (G:Hp) (ws:List V),i ≤ items.length∧m = items.length - i∧Inv (cxComp X N' scope cl s₃.heap.objs.size fp s₃ H3) [] (σ ++ List.replicate k none) H s∧tn i s.heap∧(∀ b ∈ fp,H b = none) ∧
      Rel X.K n δ1 σ G (del H D₀)∧Same H2 H∧Same G2 G∧H D₀ = some (.lst ws)∧G D₀ = none∧DenL X.K G ws ((items.take i).filterMap F)) ?_ items.length
      ⟨0,H3,G2,[],Nat.zero_le _,rfl,I4,tn3 _ hk3,fun b hb=>(f3 b hb).1,own3,kp3,Same.refl _,hD3,gD3,.nil⟩
    rintro m s5 ⟨i,H5,G5,ws,hi,rfl,I5,st5,fr5,R5',kp5,sG5,hD5,gD5,dl5⟩
    have R5:=R5'.undel hD5
    by_cases hlt:i < items.length
    · refine thn (T.item (cxComp X N' scope cl s₃.heap.objs.size fp s₃ H3) rfl rfl rfl hc i [] s5 _ H5 _ I5 (fpok fr5) st5 (j2.go i G5 H5 sG5 R5.sub kp5 hlt)) fun r s6 zz46=>zz46.elim fun u zz=>zz.elim fun hr h6=>?_
      subst hr
      refine thn h6 fun _ s7 zz47=>zz47.elim fun x zz=>zz.elim fun H7 zz=>zz.elim fun I7 zz=>zz.elim fun rx zz=>zz.elim fun y7 zz=>zz.elim fun st7 fr7=>?_
      obtain ⟨G7,d,e7,hd,dx⟩:=j2.yl i G5 H5 x H7 sG5 R5.sub kp5 hlt y7
      have R7:=R5.ext e7
      have Rin:=R7.inner k
      have I7':=I7.pinned (fpok fr7) (T.obj _ _ st7)
      have gD7:∀ {G' H':Hp},Ext G7 H7 G' H'→G' D₀ = none:=fun {G' H'} e=>by
        cases q:G' D₀ with
        | none=>rfl
        | some o =>
          have z:=(e7.trans e).fr D₀ o q gD5
          rw [hD5] at z; cases z
      have keep:∀ {σ':L2.St} {H':Hp} {s':Shared},Inv (cxComp X N' scope cl s₃.heap.objs.size fp s₃ H3) ([] ++ pinsAt fp s7.heap) σ' H' s'→tn (i + 1) s'.heap∧(∀ b ∈ fp,H' b = none)∧Inv (cxComp X N' scope cl s₃.heap.objs.size fp s₃ H3) [] (σ ++ List.replicate k none) H' s':=fun {σ' H' s'} J'=>by
        refine ⟨T.keep _ _ _ st7 fun b hb o e=>(J'.pin (b,o) (List.mem_append_right _ (List.mem_append_right _ (mem_pinsAt hb e)))).1,fun b hb=>?_,reset J'.unpinned⟩
        obtain ⟨o,e,_⟩:=T.obj _ _ st7 b hb
        exact (J'.pin (b,o) (List.mem_append_right _ (List.mem_append_right _ (mem_pinsAt hb e)))).2.1
      refine thn (hG _ s7 _ H7 x u (fun σ8 H8=>H8 = H7∧∃ δ8,Rel X.K ⟨G7,H7,fun _=>False⟩ δ8 σ8 G7 H7∧tt δ8 fun b δ3=>if b = true then te δ3 fun y _=>F d = some y else F d = none) I7' rx
        ⟨_,_,G7,d,_,Rin,dx,hF d (List.mem_of_getElem? hd),fun δ8 σ8 R8 q8=>⟨rfl,δ8,R8,q8⟩⟩) fun _ s8 zz48=>zz48.elim fun σ8 zz=>zz.elim fun H8 zz=>zz.elim fun I8 zz=>zz.elim fun e8 zz=>zz.elim fun δ8 zz=>zz.elim fun R8 q8=>?_
      subst e8
      refine thn (hT _ s8 σ8 _ (fun b H9=>∃ G9 δ9,Rel X.K ⟨G7,H8,fun _=>False⟩ δ9 σ8 G9 H9∧if b = true then te δ9 fun y _=>F d = some y else F d = none) I8 ⟨_,δ8,G7,_,R8,q8,fun b G9 H9 δ9 R9 _ q9=>⟨G9,δ9,R9,q9⟩⟩) fun ok s9 zz49=>zz49.elim fun H9 zz=>zz.elim fun I9 zz=>zz.elim fun G9 zz=>zz.elim fun δ9 zz=>zz.elim fun R9 q9=>?_
      cases ok with
      | false =>
        rw [if_neg Bool.false_ne_true] at q9 ⊢
        obtain ⟨k1,k2,k3⟩:=keep I9
        have e9:=R9.toExt
        refine ⟨items.length - (i + 1),by omega,i + 1,H9,G9,ws,hlt,rfl,k3,k1,k2,R5'.ext ((e7.trans e9).del (gD7 e9)),kp5.trans (e7.trans e9).hh,sG5.trans (e7.gg.trans e9.gg),e9.hh _ _ (e7.hh _ _ hD5),gD7 e9,?_⟩
        rw [fm_take F items i d hd,q9]
        simpa using dl5.up (e7.gg.trans e9.gg)
      | true =>
        rw [if_pos rfl] at q9 ⊢
        refine thn (hE _ s9 σ8 H9 (fun v H10=>∃ G10 y,(∃ δ10,Rel X.K ⟨G7,H8,fun _=>False⟩ δ10 σ8 G10 H10)∧Den X.K G10 v y∧F d = some y) I9 ⟨_,δ9,G9,_,R9,q9,fun v G10 H10 y δ10 R10 _ d10 q10=>⟨G10,y,⟨δ10,R10⟩,d10,q10⟩⟩) fun xv s10 zz50=>zz50.elim fun v zz=>zz.elim fun H10 zz=>zz.elim fun I10 zz=>zz.elim fun rv zz=>zz.elim fun G10 zz=>zz.elim fun y zz=>zz.elim fun zz51 zz=>zz.elim fun dv hy=>zz51.elim fun δ10 R10=>?_
        have e10:=R10.toExt
        have hD10:H10 D₀ = some (.lst ws):=e10.hh _ _ (e7.hh _ _ hD5)
        have lenw:ws.length < sizeLine:=by
          have l1:=fm_le F items (i + 1)
          rw [fm_take F items i d hd,hy,List.length_append] at l1
          have l2:=dl5.length
          simp only [Option.toList_some,List.length_singleton] at l1
          omega
        refine thn (mt_append (X:=cxComp X N' scope cl s₃.heap.objs.size fp s₃ H3) _ s10 σ8 H10 (.ref D₀) [v] (.ref D₀) [xv] (fun _ H'=>H' = upd H10 D₀ (.lst (ws ++ [v]))) I10 rfl (.cons rv .nil) ⟨D₀,ws,v,rfl,rfl,hD10,lenw,rfl⟩) fun _ s11 zz52=>zz52.elim fun _ zz=>zz.elim fun H11 zz=>zz.elim fun I11 zz=>zz.elim fun _ e11=>?_
        subst e11
        obtain ⟨k1,k2,k3⟩:=keep I11
        refine ⟨items.length - (i + 1),by omega,i + 1,_,G10,ws ++ [v],hlt,rfl,k3,k1,k2,(by rw [del_upd]; exact R5'.ext ((e7.trans e10).del (gD7 e10))),(fun b o z=>by rw [upd_ne (ne_of_none z hD)]; exact (kp5.trans (e7.trans e10).hh) b o z),sG5.trans (e7.gg.trans e10.gg),upd_same,gD7 e10,?_⟩
        rw [fm_take F items i d hd,hy]
        exact (dl5.up (e7.gg.trans e10.gg)).append (.cons dv .nil)
    · have ei:i = items.length:=by omega
      subst ei
      refine thn (T.done (cxComp X N' scope cl s₃.heap.objs.size fp s₃ H3) rfl rfl rfl hc _ [] s5 _ H5 _ I5 (fpok fr5) st5 (j2.st _ G5 H5 sG5 R5.sub kp5 (Nat.le_refl _))) fun r s6 zz53=>zz53.elim fun hr I6=>?_
      subst hr
      obtain ⟨m,hm,_⟩:=I6.loc
      have Iin:Inv X pins σ H5 s6:=I3.call' (s':=s6) (ch:=fp) I6.os (show Un (frs X.stack) fp H3 H5 s₃.heap s6.heap from I6.base) I6.hok I6.bare fun b hb=>⟨(f3 b hb).2.2.2.1,(f3 b hb).2.1,(f3 b hb).2.2.2.2.1,(f3 b hb).2.2.2.2.2⟩
      rw [List.take_length] at dl5
      exact fin D₀ s₃.heap.objs.size H5 s6 Iin (I3.fpOk (Nat.le_refl _) I6.free) ⟨m,hm⟩ (kk _ _ _ _ δ1 (R5'.know hD5) (sG2.trans (sG5.trans (same_upd gD5 _))) (.lst (SqL.of upd_same) (dl5.up (same_upd gD5 _))) hQ)
  rw [es4]
  exact codeAny_compStart_list (loop _ rfl) (T.self _ 0 _ _ _ (tn3 _ hk3) (loop _ rfl))
theorem comp_end {X:Cx} {pins:List (Addr × Obj)} {s:Shared} {σ:L2.St} {H:Hp} {C:Addr} {h':Heap} (I:Inv X pins σ H s) (f:FpOk X pins H C) (hs:Heap.SameBut C s.heap h'):Inv X pins σ H { s with heap:=h' }:=by
  have same:∀ b o,b ≠ C→s.heap.get? b = some o→h'.get? b = some o:=fun b o hb e=>(hs.2 b hb).trans e
  have ne:∀ b,b ∉ [C]→b ≠ C:=fun b hb z=>hb (by rw [z]; exact List.mem_singleton.mpr rfl)
  refine I.call' (s':={ s with heap:=h' }) (ch:=[C]) rfl ⟨fun b o e _ _ n3=>same b o (ne b n3) e,fun b o e _ _ n3=>⟨o.slots,same b o (ne b n3) e⟩,fun b o _ n _=>n,fun b o e n3=>⟨o,same b o (ne b n3) e⟩,fun _ _ e=>e,fun _ _ _ e=>e,fun b ps e=>⟨#[],by rw [Array.append_empty]; exact e⟩⟩ (fun a o e=>?_) I.bare fun b hb=>?_
  · have nC:∀ b u,H b = some u→b ≠ C:=fun b u q z=>by rw [z,f.1] at q; cases q
    refine (I.hok a o e).stay (fun b u hb q=>same b u ?_ q) (fun _ q=>q) fun _ _ q=>q
    rcases hb with rfl | hb
    · exact nC _ _ e
    · exact nC _ _ hb
  · rcases List.mem_singleton.mp hb with rfl
    exact ⟨f.2.2.2.1,f.2.1,f.2.2.2.2.1,f.2.2.2.2.2⟩
theorem de_comp {X:Cx} {elt iter target:Expr} {ifs:List Expr} {scope:Scope} {pos:Pos} {N':List Str} (k:Nat) {ti:TId} {g:TGd} {tt:TTd} {te:TEd} (hc:X.calm = true) (hi:DIh X target iter ti)
    (hb:∀ (cl:List (Str × Addr)) (C:Addr) (ex:List Addr) (s:Shared) (H:Hp),DG (cxComp X N' scope cl C ex s H) target g∧DTs (cxComp X N' scope cl C ex s H) ifs tt∧DE (cxComp X N' scope cl C ex s H) elt te)
    (hkind:scope.kind = .function) (hnames:∀ y ∈ scope.names,y.2 = .local→scope.names.lookup y.1 = some .local) (hnc:∀ x,(x,NameKind.free) ∈ scope.names→(x,NameKind.cell) ∉ scope.names) (hN:N'.length = X.N.length + k)
    (hcap:∀ (i:Nat) (x:Str),N'[i]? = some x→i < X.N.length→Vis (relabel scope X.env) x→X.N[i]? = some x∧scope.names.lookup x = some .free∧X.env.scope.names.lookup x = some .cell)
    (hfr:∀ x ∈ scope.names,x.2 = NameKind.free→X.env.scope.names.lookup x.1 = some .cell)
    (hs:autoParam (∀ x,foldedSetIterable iter X.env x = pure x) ZA.a4._auto_1):DE X (.ListComp elt [⟨target,iter,ifs,0⟩] scope pos) (dComp k ti g tt te):=by
  rintro pins s σ H Q2 I q
  rw [eval_ListComp]
  exact comp_run k hc hi hb hkind hnames hnc hN hcap hfr hs (use:=none) I q fun D₀ C H' s6 I6 f zz54 q6=>zz54.elim fun m hm=>⟨m,hm,fun h' hs'=>⟨.ref D₀,H',comp_end I6 f hs',rfl,q6⟩⟩
theorem ds_comp {X:Cx} {elt iter target:Expr} {ifs:List Expr} {scope:Scope} {pos:Pos} {N':List Str} (k:Nat) {ti:TId} {g:TGd} {tt:TTd} {te:TEd} (hc:X.calm = true) (hi:DIh X target iter ti)
    (hb:∀ (cl:List (Str × Addr)) (C:Addr) (ex:List Addr) (s:Shared) (H:Hp),DG (cxComp X N' scope cl C ex s H) target g∧DTs (cxComp X N' scope cl C ex s H) ifs tt∧DE (cxComp X N' scope cl C ex s H) elt te)
    (hkind:scope.kind = .function) (hnames:∀ y ∈ scope.names,y.2 = .local→scope.names.lookup y.1 = some .local) (hnc:∀ x,(x,NameKind.free) ∈ scope.names→(x,NameKind.cell) ∉ scope.names) (hN:N'.length = X.N.length + k)
    (hcap:∀ (i:Nat) (x:Str),N'[i]? = some x→i < X.N.length→Vis (relabel scope X.env) x→X.N[i]? = some x∧scope.names.lookup x = some .free∧X.env.scope.names.lookup x = some .cell)
    (hfr:∀ x ∈ scope.names,x.2 = NameKind.free→X.env.scope.names.lookup x.1 = some .cell)
    (hs:∀ x,foldedSetIterable iter X.env x = pure x) (i:Nat) {x:Str} {pos' pos2:Pos} (hN2:X.N.Nodup) (hi2:X.N[i]? = some x) (hx:Loc X.env.scope x)
    (hsw:swapsWith (.ListComp elt [⟨target,iter,ifs,0⟩] scope pos) (some (.Name x pos')) pos2.line X.env = pure true) (hf:X.fn x = true∨X.env.scope.names.lookup x = some .local) :
    DS X (.Assign [.Name x pos'] (.ListComp elt [⟨target,iter,ifs,0⟩] scope pos) pos2) (dSet i (dComp k ti g tt te)):=by
  rintro pins s σ H F I ⟨n,δ,G,E,R,h,kk⟩
  rw [exec_Assign_Name_used _ _ _ _ hsw]
  refine wpAny_bind (wpAny_standAt (wpAny_bind ?_))
  show wpAny _ X.A (do let _ ← comprehension (.ListComp elt [⟨target,iter,ifs,0⟩] scope pos) scope X.env _ (newList []) false (eval iter X.env) (some (assign (.Name x pos') X.env))) _ _ s
  refine wpAny_bind (wpAny_mono (comp_run k hc hi hb hkind hnames hnc hN hcap hfr hs (use:=some (assign (.Name x pos') X.env)) (Qf:=fun _ s'=>SP X pins F .next s') (Q2:=fun v H'=>F.nx (σ.set i (some v)) H') I
    ⟨n,δ,G,_,R,h,fun v G1 H1 d δ1 R1 s1 d1 h1=>kk.nx _ _ G1 H1 (R1.set i d1) h1⟩ fun D₀ C H' s6 I6 f hm q6=>?_) (fun _ s' hq=>wpAny_pure (wpAny_pure hq)) fun _ _ e=>e)
  obtain ⟨m,hm⟩:=hm
  refine wpAny_assign_Name (store_ok2 (v:=.ref D₀) I6 hN2 hi2 hx rfl (fun s7 I7 zz55=>zz55.elim fun a zz=>zz.elim fun sb ha=>⟨m,hm.sameBut sb ?_,fun h' hs'=>⟨_,H',comp_end I7 f hs',q6⟩⟩) hf)
  rcases ha with rfl | ha
  · exact f.2.1
  · exact Ne.symm (f.2.2.2.2.1 x a ha)
end Dl
namespace Dl
open PySem PySem.Spec PyProof.Rows L2
noncomputable def compOk (N:List Str) (sc:Scope) (N':List Str) (scope:Scope) (k:Nat):Bool :=
  (scope.kind == .function) && scope.names.all (fun y=>(y.2 != .local) || (scope.names.lookup y.1 == some .local)) && scope.names.all (fun y=>(y.2 != .free) || !(scope.names.any fun z=>z.1 == y.1 && z.2 == .cell)) && (N'.length == N.length + k) &&
  scope.names.all (fun y=>(y.2 != .free) || (sc.names.lookup y.1 == some .cell)) &&
  (List.range N.length).all (fun i=>match N'[i]? with
    | some x=>(match scope.names.lookup x with
      | some .local=>false
      | some .cell=>false
      | some .free=>N[i]? == some x
      | _=>true)
    | none=>true)
theorem de_compKH {X:Cx} {elt iter target:Expr} {ifs:List Expr} {scope:Scope} {pos:Pos} (N':List Str) (k:Nat) {ti:TId} {g:TGd} {tt:TTd} {te:TEd} (hc:X.calm = true) (hi:DIh X target iter ti)
    (hb:∀ (cl:List (Str × Addr)) (C:Addr) (ex:List Addr) (s:Shared) (H:Hp),DG (cxComp X N' scope cl C ex s H) target g∧DTs (cxComp X N' scope cl C ex s H) ifs tt∧DE (cxComp X N' scope cl C ex s H) elt te)
    (ok:compOk X.N X.env.scope N' scope k = true)
    (hs:autoParam (∀ x,foldedSetIterable iter X.env x = pure x) ZA.a4._auto_1):DE X (.ListComp elt [⟨target,iter,ifs,0⟩] scope pos) (dComp k ti g tt te):=by
  unfold compOk at ok
  simp only [Bool.and_eq_true,List.all_eq_true,Bool.or_eq_true,bne_iff_ne,ne_eq,beq_iff_eq] at ok
  obtain ⟨⟨⟨⟨⟨h1,h2⟩,h30⟩,h4⟩,h5⟩,h6⟩:=ok
  have h3:∀ x,(x,NameKind.free) ∈ scope.names→(x,NameKind.cell) ∉ scope.names:=fun x hx hc=>by
    have z:=(h30 _ hx).resolve_left fun z=>z rfl
    have w:(scope.names.any fun z=>z.1 == x && z.2 == .cell) = true:=List.any_eq_true.mpr ⟨_,hc,by simp⟩
    rw [w] at z; cases z
  refine de_comp k hc hi hb (by cases q:scope.kind <;> rw [q] at h1 <;> first | rfl | cases h1) (fun y hy hl=>(h2 y hy).resolve_left fun z=>z hl) h3 h4 (fun i x e hi hv=>?_) (fun x hx hf=>(h5 x hx).resolve_left fun z=>z hf) hs
  have h6':=h6 i (List.mem_range.mpr hi)
  rw [e] at h6'
  dsimp only at h6'
  have hv':∃ kd,scope.names.lookup x = some kd∧(kd = .local∨kd = .cell∨kd = .free):=by
    have kin:(relabel scope X.env).names.lookup x = _:=lookup_relabel
    unfold Vis at hv
    rw [kin] at hv
    cases q:scope.names.lookup x with
    | none=>rw [q] at hv; simp at hv
    | some kd =>
      refine ⟨kd,rfl,?_⟩
      rw [q] at hv
      cases kd <;> simp at hv ⊢
  obtain ⟨kd,hk,hkd⟩:=hv'
  rw [hk] at h6'
  rcases hkd with rfl | rfl | rfl
  · simp at h6'
  · simp at h6'
  · have e1:X.N[i]? = some x:=by simpa using h6'
    exact ⟨e1,hk,(h5 _ (mem_of_look hk)).resolve_left fun z=>z rfl⟩
theorem ds_compKH {X:Cx} {elt iter target:Expr} {ifs:List Expr} {scope:Scope} {pos:Pos} (N':List Str) (k i:Nat) {ti:TId} {g:TGd} {tt:TTd} {te:TEd} (hc:X.calm = true) (hi:DIh X target iter ti)
    (hb:∀ (cl:List (Str × Addr)) (C:Addr) (ex:List Addr) (s:Shared) (H:Hp),DG (cxComp X N' scope cl C ex s H) target g∧DTs (cxComp X N' scope cl C ex s H) ifs tt∧DE (cxComp X N' scope cl C ex s H) elt te)
    (ok:compOk X.N X.env.scope N' scope k = true)
    (hs:autoParam (∀ x,foldedSetIterable iter X.env x = pure x) ZA.a4._auto_1) {x:Str} {pos' pos2:Pos} (hN2:X.N.Nodup) (hi2:autoParam (X.N[i]? = some x) ZA.a3._auto_1) (hx:autoParam (Loc X.env.scope x) ZA.a6._auto_1)
    (hsw:autoParam (swapsWith (.ListComp elt [⟨target,iter,ifs,0⟩] scope pos) (some (.Name x pos')) pos2.line X.env = pure true) ZA.a3._auto_1) (hf:autoParam (X.fn x = true∨X.env.scope.names.lookup x = some .local) ZA.a1._auto_1) :
    DS X (.Assign [.Name x pos'] (.ListComp elt [⟨target,iter,ifs,0⟩] scope pos) pos2) (dSet i (dComp k ti g tt te)):=by
  unfold compOk at ok
  simp only [Bool.and_eq_true,List.all_eq_true,Bool.or_eq_true,bne_iff_ne,ne_eq,beq_iff_eq] at ok
  obtain ⟨⟨⟨⟨⟨h1,h2⟩,h30⟩,h4⟩,h5⟩,h6⟩:=ok
  have h3:∀ x,(x,NameKind.free) ∈ scope.names→(x,NameKind.cell) ∉ scope.names:=fun x hx hc=>by
    have z:=(h30 _ hx).resolve_left fun z=>z rfl
    have w:(scope.names.any fun z=>z.1 == x && z.2 == .cell) = true:=List.any_eq_true.mpr ⟨_,hc,by simp⟩
    rw [w] at z; cases z
  refine ds_comp k hc hi hb (by cases q:scope.kind <;> rw [q] at h1 <;> first | rfl | cases h1) (fun y hy hl=>(h2 y hy).resolve_left fun z=>z hl) h3 h4 (fun i x e hi hv=>?_) (fun x hx hf=>(h5 x hx).resolve_left fun z=>z hf) hs i hN2 hi2 hx hsw hf
  have h6':=h6 i (List.mem_range.mpr hi)
  rw [e] at h6'
  dsimp only at h6'
  have hv':∃ kd,scope.names.lookup x = some kd∧(kd = .local∨kd = .cell∨kd = .free):=by
    have kin:(relabel scope X.env).names.lookup x = _:=lookup_relabel
    unfold Vis at hv
    rw [kin] at hv
    cases q:scope.names.lookup x with
    | none=>rw [q] at hv; simp at hv
    | some kd =>
      refine ⟨kd,rfl,?_⟩
      rw [q] at hv
      cases kd <;> simp at hv ⊢
  obtain ⟨kd,hk,hkd⟩:=hv'
  rw [hk] at h6'
  rcases hkd with rfl | rfl | rfl
  · simp at h6'
  · simp at h6'
  · have e1:X.N[i]? = some x:=by simpa using h6'
    exact ⟨e1,hk,(h5 _ (mem_of_look hk)).resolve_left fun z=>z rfl⟩
theorem de_compK {X:Cx} {elt iter target:Expr} {ifs:List Expr} {scope:Scope} {pos:Pos} (N':List Str) (k:Nat) {ti:TId} {g:TGd} {tt:TTd} {te:TEd} (hc:X.calm = true) (hi:DI X target iter ti)
    (hb:∀ (cl:List (Str × Addr)) (C:Addr) (ex:List Addr) (s:Shared) (H:Hp),DG (cxComp X N' scope cl C ex s H) target g∧DTs (cxComp X N' scope cl C ex s H) ifs tt∧DE (cxComp X N' scope cl C ex s H) elt te)
    (ok:compOk X.N X.env.scope N' scope k = true)
    (hs:autoParam (∀ x,foldedSetIterable iter X.env x = pure x) ZA.a4._auto_1):DE X (.ListComp elt [⟨target,iter,ifs,0⟩] scope pos) (dComp k ti g tt te):=de_compKH N' k hc (di_h hi) hb ok hs
theorem ds_compK {X:Cx} {elt iter target:Expr} {ifs:List Expr} {scope:Scope} {pos:Pos} (N':List Str) (k i:Nat) {ti:TId} {g:TGd} {tt:TTd} {te:TEd} (hc:X.calm = true) (hi:DI X target iter ti)
    (hb:∀ (cl:List (Str × Addr)) (C:Addr) (ex:List Addr) (s:Shared) (H:Hp),DG (cxComp X N' scope cl C ex s H) target g∧DTs (cxComp X N' scope cl C ex s H) ifs tt∧DE (cxComp X N' scope cl C ex s H) elt te)
    (ok:compOk X.N X.env.scope N' scope k = true)
    (hs:autoParam (∀ x,foldedSetIterable iter X.env x = pure x) ZA.a4._auto_1) {x:Str} {pos' pos2:Pos} (hN2:X.N.Nodup) (hi2:autoParam (X.N[i]? = some x) ZA.a3._auto_1) (hx:autoParam (Loc X.env.scope x) ZA.a6._auto_1)
    (hsw:autoParam (swapsWith (.ListComp elt [⟨target,iter,ifs,0⟩] scope pos) (some (.Name x pos')) pos2.line X.env = pure true) ZA.a3._auto_1) (hf:autoParam (X.fn x = true∨X.env.scope.names.lookup x = some .local) ZA.a1._auto_1) :
    DS X (.Assign [.Name x pos'] (.ListComp elt [⟨target,iter,ifs,0⟩] scope pos) pos2) (dSet i (dComp k ti g tt te)):=ds_compKH N' k i hc (di_h hi) hb ok hs hN2 hi2 hx hsw hf
section
variable {X:Cx} {pos:Pos}
noncomputable def gdTup2 (i j:Nat):TGd:=fun d δ Q=>match d with
  | .tup [x,y]=>Q ((δ.set i (.sh x)).set j (.sh y))
  | _=>False
theorem dg_tup2 (i j:Nat) {x y:Str} {px py:Pos} {kk:Nat} (hc:X.calm = true) (hN:X.N.Nodup) (hi:autoParam (X.N[i]? = some x) ZA.a3._auto_1) (hx:autoParam (Loc X.env.scope x) ZA.a6._auto_1) (hj:autoParam (X.N[j]? = some y) ZA.a3._auto_1) (hy:autoParam (Loc X.env.scope y) ZA.a6._auto_1)
    (hfx:X.fn x = true∨X.env.scope.names.lookup x = some .local:=by first | exact .inl rfl | exact .inr rfl) (hfy:X.fn y = true∨X.env.scope.names.lookup y = some .local:=by first | exact .inl rfl | exact .inr rfl)
    (hs1:autoParam ((assignEach [.Name x px,.Name y py] X.env).map (·.2) = assign (.Name x px) X.env :: (assignEach [.Name y py] X.env).map (·.2)) ZA.a3._auto_1) (hs2:autoParam ((assignEach [.Name y py] X.env).map (·.2) = assign (.Name y py) X.env :: (assignEach [] X.env).map (·.2)) ZA.a3._auto_1)
    (hn:autoParam ((assignEach [.Name x px,.Name y py] X.env).length = 2) ZA.a3._auto_1) (hst:autoParam ((assignEach [.Name x px,.Name y py] X.env).findIdx? (·.1) = none) ZA.a3._auto_1):DG X (.Tuple [.Name x px,.Name y py] kk pos) (gdTup2 i j) :=
  pg_imp (pg_tup hc (pgs_cons (pg_name (i:=i) hN hi hx hfx) (pgs_cons (pg_name (i:=j) hN hj hy hfy) pgs_nil hs2) hs1) hn hst) fun v σ H Q2 hx=>hx.el fun n δ G d Q R hv h k=>by
    unfold gdTup2 at h
    split at h
    · obtain ⟨a,vs,rfl,ha,la⟩:=hv.tup_inv
      cases la with
      | cons d1 la=>cases la with
        | cons d2 la =>
          cases la
          exact ⟨a,_,rfl,Same.tupS R.sub ha,rfl,_,_,rfl,_,_,rfl,rfl,k _ _ ((R.set i d1).set j d2) h⟩
    · exact h.elim
end
end Dl
namespace Dl
open PySem PySem.Spec PyProof.Rows L2
section
variable {X:Cx} {e:Expr} {te:TEd} {pos p q:Pos}
variable {es:List Expr} {b:Expr} {tb:TEd} {ta:TAd}
variable {a c:Expr} {ta' tc:TEd}
end
end Dl
namespace Dl
open PySem PySem.Spec PyProof.Rows L2
noncomputable def rngO (p:Addr) (a b c:Int):HO:=.ext fun h=>∃ t u v,IsRange h p a b c t u v
section
variable {X:Cx} {pos p q:Pos}
noncomputable def rRng3:List V→Hp→VK→Prop:=fun xs H Q=>∃ i j k,xs = [.int i,.int j,.int k]∧0 < k∧k < 1073741824∧∀ p,H p = none→Q (.ref p) (upd H p (rngO p i j k))
theorem call_rng3:CallR X (.type "range") rRng3:=by
  rintro pins s σ H xs us Q I r ⟨i,j,k,rfl,h0,h1,q⟩
  cases r with
  | cons r1 r2=>cases r2 with
    | cons r2 r3=>cases r3 with
      | cons r3 r4 =>
        cases r4
        obtain ⟨t,rfl⟩:=r1
        obtain ⟨u,rfl⟩:=r2
        obtain ⟨v,rfl⟩:=r3
        refine call_range_3 (by omega) ?_ (.inl (PyProof.noPylong_small (by omega)))
        refine ⟨.ref s.heap.objs.size,upd H s.heap.objs.size (rngO s.heap.objs.size i j k),I.laid (t':=s.toks) (fun b o e=>Heap.get?_push_of_some _ e) (Nat.le_refl _) ?_,rfl,q _ I.fresh⟩
        refine ⟨⟨t,u,v,Heap.get?_push_size _ rfl⟩,⟨_,Heap.get?_push_size _ rfl⟩,fun h1 h2 zz56 k=>zz56.elim fun t zz=>zz.elim fun u zz=>zz.elim fun v e=>⟨t,u,v,k _ e⟩⟩
noncomputable def stepL (a c:Int) (n:Nat):List Int:=(List.range n).map fun i=>a + (i:Nat) * c
noncomputable def rngN (a b c:Int):Nat:=if a < b then ((b - a - 1) / c + 1).toNat else 0
noncomputable def rLstRng:List V→Hp→VK→Prop:=fun xs H Q=>∃ p i j k,xs = [.ref p]∧H p = some (rngO p i j k)∧0 < k∧-1000000000 ≤ i∧i ≤ 1000000000∧-1000000000 ≤ j∧j ≤ 1000000000∧k ≤ 1000000000∧rngN i j k ≤ 2 ^ 24 ∧
  ∀ l,H l = none→Q (.ref l) (upd H l (.lst ((stepL i k (rngN i j k)).map V.int)))
theorem vals_of_items {a c:Int}:∀ {n:Nat} {acc:List Value},acc.length = n→(∀ (j:Nat) v,acc[j]? = some v→∃ t,v = .int (a + (j:Nat) * c) t)→Vals ((stepL a c n).map V.int) acc:=by
  intro n
  induction n with
  | zero=>intro acc h _; cases acc with
    | nil=>exact .nil
    | cons _ _=>cases h
  | succ n ih =>
    intro acc h hi
    have e:acc = acc.take n ++ [acc[n]'(by omega)]:=by
      have z:=List.take_append_drop n acc
      rw [List.drop_eq_getElem_cons (by omega),List.drop_eq_nil_of_le (by omega)] at z
      exact z.symm
    have e2:stepL a c (n + 1) = stepL a c n ++ [a + (n:Nat) * c]:=by simp [stepL,List.range_succ]
    rw [e2,List.map_append,e]
    refine Vals.append (ih (by rw [List.length_take]; omega) fun j v hj=>hi j v ?_) (.cons (hi n _ (List.getElem?_eq_getElem _)) .nil)
    rw [List.getElem?_take] at hj
    split at hj
    · exact hj
    · cases hj
theorem call_lst_rng (hc:X.calm = true):CallR X (.type "list") rLstRng:=by
  rintro pins s σ H xs us Q I r ⟨p,i,j,k,rfl,hp,h0,a1,a2,b1,b2,c2,hn,q⟩
  obtain ⟨u,rfl,ru⟩:=r.one
  cases ru
  obtain ⟨⟨t,u,v,hr⟩,_,_⟩:=I.hok p _ hp
  have hd:0 ≤ (j - i - 1) / k∨¬ i < j:=by
    by_cases z:i < j
    · exact .inl (Int.ediv_nonneg (by omega) (by omega))
    · exact .inr z
  have hsz:Builtin.Range.rangeSize i j k = (rngN i j k:Nat):=by
    unfold Builtin.Range.rangeSize rngN
    rw [if_pos h0]
    split
    · rcases hd with z | z
      · omega
      · exact absurd (by assumption) z
    · rfl
  have hsm:Builtin.Range.small i j k = true:=by
    unfold Builtin.Range.small
    rw [hsz]
    simp only [Builtin.Range.rangeFitsLong,Bool.and_eq_true,Bool.or_eq_true,decide_eq_true_eq,beq_iff_eq]
    have:(rngN i j k:Int) ≤ 2 ^ 24:=by exact_mod_cast hn
    refine ⟨⟨⟨⟨⟨by omega,by omega⟩,by omega,by omega⟩,by omega,by omega⟩,by omega,by omega⟩,.inr ?_⟩
    rw [if_pos (by omega),Bool.and_eq_true,decide_eq_true_eq,decide_eq_true_eq]
    omega
  refine PySem.call_list_range (I.ok.hd hc) hr hsm hsz hn fun h' tk acc' c' hk hl hi=>?_
  have hv:Vals ((stepL i k (rngN i j k)).map V.int) acc'.toList:=vals_of_items (by simpa using hi.1) fun m v hm=>by
    obtain ⟨t,e⟩:=hi.2 m v (by simpa using hm)
    exact ⟨t,e⟩
  refine ⟨.ref s.heap.objs.size,upd H s.heap.objs.size (.lst ((stepL i k (rngN i j k)).map V.int)),I.laid (t':=tk) hk (Nat.le_refl _) ?_,rfl,q _ I.fresh⟩
  refine ⟨by rw [List.length_map]; simp only [stepL,List.length_map,List.length_range]; exact hn,acc'.toList,c',hv,?_⟩
  simpa using hl
noncomputable def dLstRng (ta:TAd):TEd:=fun δ Q=>ta δ fun ds δ1=>match ds with
  | [.int i,.int j,.int k]=>0 < k∧-1000000000 ≤ i∧i ≤ 1000000000∧-1000000000 ≤ j∧j ≤ 1000000000∧k ≤ 1000000000∧rngN i j k ≤ 2 ^ 24∧Q (.lst ((stepL i k (rngN i j k)).map D.int)) δ1
  | _=>False
theorem de_list_range {a b c:Expr} {ta:TAd} {cp:Pos} (hc:X.calm = true) (hl:X.mg "list" = none) (hr:X.mg "range" = none) (ha:DA X [a,b,c] ta) (hg:autoParam (Gl X "list") ZA.a3._auto_1) (hg2:autoParam (Gl X "range") ZA.a3._auto_1)
    (h1:autoParam (starEach [a,b,c] X.env = (false,eval a X.env) :: starEach [b,c] X.env) ZA.a3._auto_1) (h2:autoParam ((backTo cp (starEach [b,c] X.env)).any (·.1) = false) ZA.a3._auto_1)
    (h3:autoParam (starEach [Expr.Call (.Name "range" q) [a,b,c] [] cp] X.env = (false,eval (Expr.Call (.Name "range" q) [a,b,c] [] cp) X.env) :: starEach [] X.env) ZA.a3._auto_1) (h4:autoParam ((backTo pos (starEach [] X.env)).any (·.1) = false) ZA.a3._auto_1) :
    DE X (.Call (.Name "list" p) [.Call (.Name "range" q) [a,b,c] [] cp] [] pos) (dLstRng ta) :=
  pe_imp (pe_callTy (call_lst_rng hc) hg hl (by rfl) (pa_cons (pe_callTy call_rng3 hg2 hr (by rfl) ha (by decide) (by decide) h1 h2) pa_nil h3) (by decide) (by decide) h3 h4) fun σ H Q2 hx=>hx.el fun n δ G Q R h k =>
    ⟨n,δ,G,_,R,h,fun vs G1 H1 ds δ1 R1 s1 d1 h1=>by
      split at h1
      · rename_i i j k'
        have ev:vs = [.int i,.int j,.int k']:=by
          cases d1 with | cons e1 d1=>cases d1 with | cons e2 d1=>cases d1 with | cons e3 d1=>cases d1; cases e1; cases e2; cases e3; rfl
        obtain ⟨k0,i1,i2,j1,j2,k2,hn,hq⟩:=h1
        refine ⟨i,j,k',ev,k0,by omega,fun r hr'=>?_⟩
        have hG:G1 r = none:=R1.sub.free hr'
        have R2:Rel X.K n δ1 σ G1 (upd H1 r (rngO r i j k')):=R1.other hG (R1.al _ hr') (R1.notOwn hr') _
        refine ⟨r,i,j,k',rfl,upd_same,k0,i1,i2,j1,j2,k2,hn,fun l hl'=>?_⟩
        exact k _ _ _ _ δ1 (R2.laid hl' _) (s1.trans (same_upd (R2.sub.free hl') _)) (.lst (SqL.of upd_same) ((DenL.ints _).up (same_upd (R2.sub.free hl') _))) hq
      · exact h1.elim⟩
end
end Dl
namespace Dl
open PySem PySem.Spec PyProof.Rows L2
section
variable {A:Around} {prog:Program} {w:World} {s:Shared} {E:Value→Shared→Prop}
variable {zz ti to i1 i2 a1 a2:Addr} {b1 b2:Bool} {k:Nat} {xs ys:Array Value} {u v:Value}
end
end Dl
namespace Dl
open PySem PySem.Spec PyProof.Rows L2
section
variable {X:Cx} {pins:List (Addr × Obj)} {σ:L2.St} {H:Hp} {s:Shared} {b:Bool} {a:Addr} {xs ys:List V}
end
section
variable {X:Cx} {elts:List Expr} {kk:Nat} {tp p pos:Pos} {a c:Expr}
end
end Dl
namespace Dl
open PySem PySem.Spec PyProof.Rows L2
section
variable {X:Cx} {a b e:Expr} {ta tb te:TEd} {pos:Pos}
noncomputable def dExt (i:Nat) (te:TEd):TSd:=fun E δ=>match δ[i]? with
  | some (.ow _)=>te δ fun d δ1=>match δ1[i]?,d with
    | some (.ow l),.lst m=>l.length + m.length ≤ sizeLine∧E.nx (δ1.set i (.ow (l ++ m)))
    | _,_=>False
  | _=>False
end
section
variable {X:Cx} {e:Expr} {es:List Expr} {t:TAd} {p pos:Pos}
noncomputable def intsF:List D→Option (List Int)
  | []=>some []
  | .int i :: r=>(intsF r).map (i :: ·)
  | _ :: _=>none
theorem intsF_some:∀ {l:List D} {ns:List Int},intsF l = some ns→l = ns.map D.int
  | [],ns,h=>by cases h; rfl
  | .int i :: r,ns,h=>by
    unfold intsF at h
    cases q:intsF r with
    | none=>rw [q] at h; cases h
    | some m=>rw [q] at h; cases h; rw [intsF_some q]; rfl
theorem DenL.ints_inv {K:PySem.W.Frag} {G:Hp}:∀ {vs:List V} {ns:List Int},DenL K G vs (ns.map D.int)→vs = ns.map V.int
  | _,[],.nil=>rfl
  | _,_ :: _,.cons h t=>by rw [h.int_inv,DenL.ints_inv t]; rfl
end
end Dl
namespace Dl
open PySem L2
noncomputable def lstF:D→Option (List D)
  | .lst l=>some l
  | _=>none
noncomputable def cSorted:RC:=fun ds Q=>match ds with
  | [d]=>∃ l,seqF d = some l∧∃ ns,intsF l = some ns∧ns.length < 64∧∀ ms:List Int,ms.Perm ns→ms.Pairwise (· ≤ ·)→Q (.lst (ms.map D.int))
  | _=>False
noncomputable def cMinL:RC:=fun ds Q=>match ds with
  | [d]=>∃ l,lstF d = some l∧∃ ns,intsF l = some ns∧ns ≠ []∧ns.length < 64∧∀ m:Int,m ∈ ns→(∀ x ∈ ns,m ≤ x)→Q (.int m)
  | _=>False
end Dl
namespace HT
open PySem PyProof.Rows
section
variable {prog:Program} {w:World} {A:Around} {E:Value→Shared→Prop} {s:Shared}
end
end HT
namespace Dl
open PySem PySem.Spec PyProof.Rows L2
section
variable {X:Cx} {a:Expr} {ta:TEd} {pos:Pos}
end
end Dl
namespace Dl
open PySem PySem.Spec PyProof.Rows L2
section
variable {X:Cx} {e:Expr} {es:List Expr} {t:TAd} {p pos:Pos}
open AutoSeq1 in
theorem meetsExt (l:Addr) (xs:Array Value) (n:Nat) (b:Addr) (ys:Array Value) (m:Nat) (dd:Option Addr) (sl:Array (Option Value)) (h0:¬ (!xs.isEmpty && Builtin.List.listTooLong (xs.size + ys.size)) = true) (h1:xs.size ≤ sizeLine) (h2:xs.size + ys.size ≤ sizeLine + 1) :
    Meets (Builtin.«list.extend» ⟨[.ref l,.ref b],[]⟩) (fun _ R s=>s.heap.get? l = some { cls:=.type "list",dict:=none,data:=.seq xs n,slots:=#[] }∧s.heap.get? b = some { cls:=.type "list",dict:=dd,data:=.seq ys m,slots:=sl } ∧
      R (.ok (.ret Value.none)) { s with heap:=s.heap.update l (Obj.mapSeq fun x=>x ++ ys) }) :=
  .of_wp fun prog w A R s h=>by
    obtain ⟨hp,g,d,tk,os⟩:=s
    obtain ⟨hl,hb,h⟩:=h
    have f3:=AutoSeq1.sub_list_list
    have hz':(xs ++ ys).size ≤ sizeLine + 1:=by rw [Array.size_append]; exact h2
    wp_walk using (wpAny_updateSeq hl rfl (hz:=h1) (_hz':=hz')),wpAny_loadPart' hl,wpAny_loadPart' hb
    exact ⟨_,rfl,h⟩
noncomputable def rExtendS (K:PySem.W.Frag):V→List V→Hp→VK→Prop:=fun x vs H Q=>∃ (l b:Addr) (xs zs:List V),x = .ref l∧vs = [.ref b]∧H l = some (.lst xs)∧SqL K H b zs∧xs.length + zs.length ≤ sizeLine∧Q .non (upd H l (.lst (xs ++ zs)))
theorem mt_extendS:MtM X "list.extend" (rExtendS X.K):=by
  rintro pins s σ H x vs v us Q I rx rv ⟨l,b,xs,zs,rfl,rfl,hH,hB,hz,q⟩
  cases rx
  obtain ⟨u,rfl,ru⟩:=rv.one
  cases ru
  obtain ⟨z,its,n,r,hl,e⟩:=I.lstM hH
  obtain ⟨its2,r2,pl2,z2⟩:=I.list hB
  obtain ⟨⟨cls2,dd2,data2,sl2⟩,n2,e2,c2,d2,k2⟩:=pl2
  simp only at c2 d2 k2
  subst c2 d2 k2
  have el:=r.length
  have el2:=r2.length
  have hno:¬ (!its.toArray.isEmpty && Builtin.List.listTooLong (its.toArray.size + its2.toArray.size)) = true:=by
    rw [notLongL (by rw [List.size_toArray,List.size_toArray]; omega),Bool.and_false]; exact Bool.false_ne_true
  refine call_meets F.slot_list_extend ⟨_,e,rfl⟩ F.entry_list_extend (F.args_list_extend_2 _ _) (meetsExt l its.toArray n b its2.toArray n2 none sl2 hno (by rw [List.size_toArray]; omega) (by rw [List.size_toArray,List.size_toArray]; omega)) ⟨e,e2,?_⟩
  refine ⟨.non,_,I.lset (its':=its ++ its2) hH e (by simp) (r.append r2) (by rw [List.length_append]; exact hz),rfl,q⟩
theorem ds_extend (i:Nat) {x:Str} {e₀:Expr} {np ap cp:Pos} {te:TEd} (he:DE X e₀ te) (hN:autoParam (X.N[i]? = some x) ZA.a3._auto_1) (hv:autoParam (Vis X.env.scope x) ZA.a5._auto_1)
    (hd:autoParam ((x == ("__debug__":Str)) = false) ZA.a2._auto_1) (hcd:autoParam ((x == ("__classdict__":Str)) = false) ZA.a2._auto_1)
    (hs:autoParam (swapsWith (.Call (.Attribute (.Name x np) "extend" ap) [e₀] [] cp) none pos.line X.env = pure false) ZA.a3._auto_1)
    (hbase:autoParam (attributeBase (.Name x np) "extend" X.env (eval (.Name x np) X.env) = eval (.Name x np) X.env) ZA.a3._auto_1)
    (hfew:autoParam (((backTo cp (starEach [e₀] X.env)).all (fun x=>!x.1) && (backToKw cp (keywordEach [] X.env)).all (fun x=>x.1.isSome)
      && decide ([e₀].length + ([]:List Keyword).length + (if ([]:List Keyword).isEmpty then 0 else 1) < 30)) = true) ZA.a3._auto_1)
    (hline:autoParam ((ap.endLine == cp.line) = true) ZA.a3._auto_1) (hst:autoParam (starEach [e₀] X.env = (false,eval e₀ X.env) :: starEach [] X.env) ZA.a3._auto_1) (hplain:autoParam ((backTo cp (starEach [] X.env)).any (·.1) = false) ZA.a3._auto_1) :
    DS X (.Expr (.Call (.Attribute (.Name x np) "extend" ap) [e₀] [] cp) pos) (dExt i te) :=
  ps_imp (ps_expr (pe_bm PySem.F.plainAttrs_list PySem.F.slot_list_extend PySem.F.type_list_extend mt_extendS (pe_var hN hv hd hcd) (pa_cons he pa_nil hst) hbase hfew hline hst hplain) hs) fun F σ H hx=>hx.el fun n δ G E R h k=>by
    unfold dExt at h
    split at h
    · rename_i l0 e0
      obtain ⟨p,vs,g1,g2,g3,g4,g5⟩:=R.sl i _ e0
      refine ⟨.ref p,g1,.inl ⟨rfl,vs,SqL.of g2⟩,n,δ,G,_,R,h,fun v G1 H1 d δ1 R1 s1 d1 h1=>?_⟩
      split at h1
      · rename_i l1 m e1
        obtain ⟨q,ws,k1,k2,k3,k4,k5⟩:=R1.sl i _ e1
        rw [g1] at k1; cases k1
        obtain ⟨b,zs,rfl,hb,lb⟩:=d1.lst_inv
        exact ⟨p,b,ws,zs,rfl,rfl,k2,R1.sub.seq hb,by rw [k5.length,lb.length]; exact h1.1,k.nx _ σ G1 _ (R1.change e1 g1 (k5.append lb)) h1.2⟩
      · exact h1.elim
    · exact h.elim
end
end Dl
namespace Dl
open PySem PySem.Spec PyProof.Rows L2
section
variable {X:Cx} {pins:List (Addr × Obj)} {σ:L2.St} {H:Hp} {s:Shared} {fp:List Addr}
theorem Inv.yields {g:Heap} {tk:Nat} {vs:List V} {us:List Value} (I:Inv X pins σ H s) (hf:∀ b ∈ fp,FpOk X pins H b) (fo:∀ b ∈ fp,∃ o,s.heap.get? b = some o)
    (kp:∀ c o,c ∉ fp→s.heap.get? c = some o→g.get? c = some o) (pT:IsTup g s.heap.objs.size us.toArray) (rv:Vals vs us) (hz:vs.length ≤ sizeLine) :
    Inv X pins σ (upd H s.heap.objs.size (.tup vs)) { s with heap:=g,toks:=tk }∧∀ b ∈ fp,upd H s.heap.objs.size (.tup vs) b = none:=by
  have hfree:∀ b ∈ fp,H b = none:=fun b hb=>(hf b hb).1
  have lt:∀ {b:Addr} {o:Obj},s.heap.get? b = some o→b ≠ s.heap.objs.size:=fun e=>Nat.ne_of_lt (Heap.lt_size e)
  have trk:∀ {b:Addr} {o:HO},H b = some o→b ∉ fp:=fun e hb=>by rw [hfree _ hb] at e; cases e
  have fr:H s.heap.objs.size = none:=I.hok.fresh (Nat.le_refl _)
  have un:Un (frs X.stack) fp H (upd H s.heap.objs.size (.tup vs)) s.heap g:=by
    refine ⟨fun b o e _ _ nx=>kp b o nx e,fun b o e _ _ nx=>⟨o.slots,kp b o nx e⟩,fun b o e n _=>by rw [upd_ne (lt e)]; exact n,fun b o e nx=>⟨o,kp b o nx e⟩,fun b zs e=>?_,fun b o' w' e=>?_,fun b ps e=>⟨#[],?_⟩⟩
    · rw [upd_ne (ne_of_none e fr)]; exact e
    · rw [upd_ne (ne_of_none e fr)]; exact e
    · rw [upd_ne (ne_of_none e fr),e]; simp
  have hok:HOk X.prog X.w (upd H s.heap.objs.size (.tup vs)) g:=fun b o e=>by
    by_cases hb:b = s.heap.objs.size
    · subst hb
      rw [upd_same] at e; cases e
      exact ⟨hz,us,rv,pT⟩
    · rw [upd_ne hb] at e
      refine (I.hok b o e).stay (fun c w' hc' q=>kp c w' ?_ q) (fun c q=>by rw [upd_ne (ne_of_none q fr)]; exact q) fun c zs q=>by rw [upd_ne (ne_of_none q fr)]; exact q
      rcases hc' with rfl | hc'
      · exact trk e
      · exact trk hc'
  refine ⟨I.call' (s':={ s with heap:=g,toks:=tk }) (ch:=fp) rfl un hok I.bare fun b hb=>⟨(hf b hb).2.2.2.1,(hf b hb).2.1,(hf b hb).2.2.2.2.1,(hf b hb).2.2.2.2.2⟩,fun b hb=>?_⟩
  obtain ⟨o,eo⟩:=fo b hb
  rw [upd_ne (lt eo)]; exact hfree b hb
theorem Inv.turns {g:Heap} {tk:Nat} (I:Inv X pins σ H s) (hf:∀ b ∈ fp,FpOk X pins H b) (kp:∀ c o,c ∉ fp→s.heap.get? c = some o→g.get? c = some o):Inv X pins σ H { s with heap:=g,toks:=tk }:=by
  have hfree:∀ b ∈ fp,H b = none:=fun b hb=>(hf b hb).1
  have trk:∀ {b:Addr} {o:HO},H b = some o→b ∉ fp:=fun e hb=>by rw [hfree _ hb] at e; cases e
  have un:Un (frs X.stack) fp H H s.heap g:=⟨fun b o e _ _ nx=>kp b o nx e,fun b o e _ _ nx=>⟨o.slots,kp b o nx e⟩,fun _ _ _ n _=>n,fun b o e nx=>⟨o,kp b o nx e⟩,fun _ _ e=>e,fun _ _ _ e=>e,fun b ps e=>⟨#[],by rw [e]; simp⟩⟩
  have hok:HOk X.prog X.w H g:=fun b o e=>by
    refine (I.hok b o e).stay (fun c w' hc' q=>kp c w' ?_ q) (fun c q=>q) fun c zs q=>q
    rcases hc' with rfl | hc'
    · exact trk e
    · exact trk hc'
  exact I.call' (s':={ s with heap:=g,toks:=tk }) (ch:=fp) rfl un hok I.bare fun b hb=>⟨(hf b hb).2.2.2.1,(hf b hb).2.1,(hf b hb).2.2.2.2.1,(hf b hb).2.2.2.2.2⟩
end
open AutoSeq1 in
section
variable {prog:Program} {w:World} {A:Around} {E:Value→Shared→Prop} {s:Shared} {b:Bool} {p:Addr} {xs:Array Value}
end
section
variable {X:Cx} {elts:List Expr} {kk:Nat} {tp p pos:Pos} {a:Expr}
end
end Dl
namespace Dl
open PySem PySem.Spec PyProof.Rows L2
section
variable {X:Cx} {e:Expr} {es:List Expr} {t:TAd} {p pos:Pos}
theorem vals_of_intsAre:∀ {us:List Value} {ns:List Int},IntsAre us ns→Vals (ns.map V.int) us
  | _,_,.nil=>.nil
  | _,_,.cons n t h=>.cons ⟨t,rfl⟩ (vals_of_intsAre h)
noncomputable def rSortI (K:PySem.W.Frag):List V→Hp→VK→Prop:=fun xs H Q=>∃ (p:Addr) (ns:List Int),xs = [.ref p]∧SqL K H p (ns.map V.int)∧ns.length < 64 ∧
  ∀ ms:List Int,ms.Perm ns→ms.Pairwise (· ≤ ·)→∀ l,H l = none→Q (.ref l) (upd H l (.lst (ms.map V.int)))
theorem call_sortI:CallR X (.builtin "sorted") (rSortI X.K):=by
  rintro pins s σ H xs us Q I r ⟨p,ns,rfl,hq,h64,q⟩
  obtain ⟨u,rfl,ru⟩:=r.one
  cases ru
  obtain ⟨its,rv,pl,hz⟩:=I.list hq
  have hi:=intsAre_of rv
  have el:=rv.length
  rw [List.length_map] at el
  refine sorted_ints pl.isList hi (by omega) fun out ms a1 a2 a3=>?_
  obtain ⟨n,he⟩:=sortedAll_at s.heap its out
  have lm:=a2.length_eq
  refine ⟨.ref _,_,I.laid (a:=s.heap.objs.size + 1) (o:=.lst (ms.map V.int)) (t':=s.toks) (fun _ _=>sortedAll_old) (Nat.le_succ _) ⟨?_,out.toList,n,vals_of_intsAre a1,?_⟩,rfl,q ms a2 a3 _ (I.hok.fresh (Nat.le_succ _))⟩
  · rw [List.length_map,lm]
    exact Nat.le_trans (show ns.length ≤ 64 by omega) (by decide)
  · rw [he]
end
end Dl
namespace Dl
open PySem PySem.Spec PyProof.Rows L2
section
variable {prog:Program} {w:World} {A:Around} {E:Value→Shared→Prop} {s:Shared}
theorem collect_tup {l:Addr} {vs:List Value} {Q:List Value→Shared→Prop} (hl:IsTup s.heap l vs.toArray) (hsz:vs.length ≤ sizeLine)
    (h:∀ h':Heap,(∀ b o,s.heap.get? b = some o→h'.get? b = some o)→h'.objs.size = s.heap.objs.size + 1→Q vs { s with heap:=h' }):wpAny (model prog w) A (collect (.ref l)) Q E s:=by
  obtain ⟨o,ho,hc,n,hd⟩:=id hl
  have lt:=Heap.lt_size ho
  unfold collect
  refine wpAny_bind (wpAny_runValue (codeAny_builtin PySem.F.entry_proto_collect ?_))
  rw [Around.under_plainId PySem.F.plain_proto_collect _]
  show wpAny _ A.in1 (newList [] >>= fun l'=>again (.builtin "list.__iadd__" ⟨[l',.ref l],[]⟩)) _ _ s
  refine wpAny_bind (wpAny_newObj_type (wpAny_pure ⟨plainId_quiet PySem.F.plain_list_iadd _,codeAny_builtin PySem.F.entry_list_iadd ?_⟩))
  rw [Around.under_plainId PySem.F.plain_list_iadd _]
  show wpAny _ A.in1 (Builtin.List.listExtendWith (.ref s.heap.objs.size) (.ref l) (.ref s.heap.objs.size)) _ _ _
  have g0:(s.heap.push { cls:=.type "list",data:=.seq ([]:List Value).toArray }).get? s.heap.objs.size = some (seqObj "list" #[] 0):=Heap.get?_push_size _ rfl
  have k0:∀ b o,s.heap.get? b = some o→(s.heap.push { cls:=.type "list",data:=.seq ([]:List Value).toArray }).get? b = some o:=fun b o e=>Heap.get?_push_of_some _ e
  have z0:(s.heap.push { cls:=.type "list",data:=.seq ([]:List Value).toArray }).objs.size = s.heap.objs.size + 1:=Heap.size_push ..
  generalize s.heap.push { cls:=.type "list",data:=.seq ([]:List Value).toArray } = H0 at g0 k0 z0 ⊢
  unfold Builtin.List.listExtendWith
  refine wpAny_bind (wpAny_typeOf (T:="tuple") ⟨o,k0 _ _ ho,hc⟩ ?_)
  rw [if_pos (by simp)]
  refine wpAny_bind (listItems_at (k0 _ _ ho) hd (wpAny_bind (listItems_at g0 rfl ?_)))
  rw [if_neg (by simp)]
  refine wpAny_bind (listUpdate_at g0 rfl ?_ (by decide) (by simp; omega))
  have g1:=get?_update_seq g0 (fun xs=>xs ++ vs.toArray)
  refine wpAny_pure ?_
  show wpAny _ A (load s.heap.objs.size >>= _) _ _ _
  refine wpAny_bind (wpAny_load g1 ?_)
  have e:((#[]:Array Value) ++ vs.toArray).toList = vs:=by simp
  show wpAny _ A (pure ((#[]:Array Value) ++ vs.toArray).toList) _ _ _
  rw [e]
  refine wpAny_pure (h _ (fun b o' e'=>?_) (by rw [Heap.size_update,z0]))
  exact (Heap.get?_update_ne _ _ _ _ (Nat.ne_of_lt (Heap.lt_size e'))).trans (k0 _ _ e')
end
section
variable {X:Cx} {e:Expr} {es:List Expr} {t:TAd} {p pos:Pos}
noncomputable def rSortT (K:PySem.W.Frag):List V→Hp→VK→Prop:=fun xs H Q=>∃ (p:Addr) (ns:List Int),xs = [.ref p]∧SqT K H p (ns.map V.int)∧ns.length < 64 ∧
  ∀ ms:List Int,ms.Perm ns→ms.Pairwise (· ≤ ·)→∀ l,H l = none→Q (.ref l) (upd H l (.lst (ms.map V.int)))
theorem call_sortT:CallR X (.builtin "sorted") (rSortT X.K):=by
  rintro pins s σ H xs us Q I r ⟨p,ns,rfl,hq,h64,q⟩
  obtain ⟨u,rfl,ru⟩:=r.one
  cases ru
  obtain ⟨its,rv,pl,hz⟩:=I.tuple hq
  have hi:=intsAre_of rv
  have el:=rv.length
  rw [List.length_map] at el
  refine Calls.call_function_entry kind_sorted plain_sorted entry_sorted (args_sorted1 _) ?_
  unfold Builtin.«sorted»
  refine wpAny_bind (m:=checkCount "sorted" 1 1 _) (wpAny_pure (wpAny_bind (collect_tup pl (Nat.le_trans (show its.length ≤ 64 by omega) (by decide)) fun h1 k1 z1=>?_)))
  refine wpAny_bind (wpAny_newList ?_ (Nat.le_trans (show its.length ≤ 64 by omega) (by decide)))
  have hoL:(h1.push (seqObj "list" its.toArray 0)).get? h1.objs.size = some (seqObj "list" its.toArray 0):=Heap.get?_push_size _ rfl
  show wpAny _ _ _ _ _ { s with heap:=h1.push (seqObj "list" its.toArray 0) }
  refine wpAny_bind (wpAny_holding (wpAny_call_entry slot_list_sort ⟨_,hoL,rfl⟩ entry_list_sort (list_sort_tree hoL hi (by omega) fun out ms a1 a2 a3=>⟨_,rfl,?_⟩) (args_list_sort _)))
  obtain ⟨n,he⟩:=sortedHeap_at (out:=out) hoL
  have lm:=a2.length_eq
  have sz:s.heap.objs.size ≤ h1.objs.size:=by rw [z1]; exact Nat.le_succ _
  have kp:∀ b o,s.heap.get? b = some o→(sortedHeap (h1.push (seqObj "list" its.toArray 0)) h1.objs.size its out).get? b = some o:=fun b o z=>by
    have lb:b < h1.objs.size:=Heap.lt_size (k1 b o z)
    rw [sortedHeap_old (Nat.ne_of_lt lb) (by rw [Heap.size_push]; exact Nat.lt_succ_of_lt lb)]
    exact Heap.get?_push_of_some _ (k1 b o z)
  refine wpAny_pure ⟨_,rfl,.ref _,_,I.laid (a:=h1.objs.size) (o:=.lst (ms.map V.int)) (t':=s.toks) kp sz ⟨?_,out.toList,n,vals_of_intsAre a1,?_⟩,rfl,q ms a2 a3 _ (I.hok.fresh sz)⟩
  · rw [List.length_map,lm]
    exact Nat.le_trans (show ns.length ≤ 64 by omega) (by decide)
  · rw [he]
theorem cs_sortQ {K:PySem.W.Frag}:CallS K (fun xs H Q=>rSortI K xs H Q∨rSortT K xs H Q) cSorted:=fun G H xs ds Q Q2 s hd h k=>by
  unfold cSorted at h
  split at h
  · obtain ⟨l,e0,ns,e,h64,q⟩:=h
    obtain ⟨v,rfl,d1⟩:=denl1 hd
    have fin:∀ ms:List Int,ms.Perm ns→ms.Pairwise (· ≤ ·)→∀ r,H r = none→Q2 (.ref r) (upd H r (.lst (ms.map V.int))):=fun ms p1 p2 r hr=>k _ _ _ _ (Ext.laid s hr _) (.lst (SqL.of upd_same) ((DenL.ints ms).up (same_upd (s.free hr) _))) (q ms p1 p2)
    rcases seqF_some e0 with rfl | rfl
    · obtain ⟨a,vs,rfl,ha,la⟩:=d1.lst_inv
      rw [intsF_some e] at la
      have ev:vs = ns.map V.int:=DenL.ints_inv la
      subst ev
      exact .inl ⟨a,ns,rfl,s.seq ha,h64,fin⟩
    · obtain ⟨a,vs,rfl,ha,la⟩:=d1.tup_inv
      rw [intsF_some e] at la
      have ev:vs = ns.map V.int:=DenL.ints_inv la
      subst ev
      exact .inr ⟨a,ns,rfl,Same.tupS s ha,h64,fin⟩
  · exact h.elim
theorem de_sorted (_:X.calm = true) (hm:X.mg "sorted" = none) (ha:DA X (e :: es) t) (hg:autoParam (Gl X "sorted") ZA.a3._auto_1) (he:autoParam (starEach (e :: es) X.env = (false,eval e X.env) :: starEach es X.env) ZA.a3._auto_1) (hpl:autoParam ((backTo pos (starEach es X.env)).any (·.1) = false) ZA.a3._auto_1):DE X (.Call (.Name "sorted" p) (e :: es) [] pos) (dCall cSorted t) :=
  de_callB (CallR.or call_sortI call_sortT) cs_sortQ hm (by rfl) ha hg (by decide) (by decide) he hpl
end
end Dl
namespace Dl
open PySem PySem.Spec PyProof.Rows L2
section
variable {X:Cx} {e:Expr} {es:List Expr} {te:TEd} {t:TAd}
end
end Dl
namespace Dl
open PySem PySem.Spec PyProof.Rows L2
inductive Ar where
  | v (d:D) | o (C:Nat) (fs:List (Str × Fl)) | l (xs:List D) | x | r (fs:List (Str × Fl))
  deriving Inhabited
noncomputable abbrev SpO:=List Ar→(D→List Ar→Prop)→Prop
noncomputable def slA (h:Nat):Ar→Sl
  | .v d=>.sh d
  | .o C fs=>.ob (some h) C fs
  | .l xs=>.mu h xs
  | .x=>.no
  | .r fs=>.rc (some h) fs
noncomputable def entO (hs:Nat→Nat):Nat→List Ar→List Sl
  | _,[]=>[]
  | i,a :: r=>slA (hs i) a :: entO hs (i + 1) r
noncomputable def startO (N:List Str) (hs:Nat→Nat) (as:List Ar):Ev:=entO hs 0 as ++ List.replicate (N.length - as.length) Sl.no
noncomputable def outA (h:Nat):Ar→Option Sl→Ar
  | .v d,_=>.v d
  | .o _ _,some (.ob (some a) C' fs')=>if a = h then .o C' fs' else .x
  | .l _,some (.mu a ys)=>if a = h then .l ys else .x
  | .r _,some (.rc (some a) fs')=>if a = h then .r fs' else .x
  | _,_=>.x
noncomputable def outO (hs:Nat→Nat):Nat→List Ar→Ev→List Ar
  | _,[],_=>[]
  | i,a :: r,δ=>outA (hs i) a δ[i]? :: outO hs (i + 1) r δ
inductive Ax where
  | v (d:D) | at (j:Nat)
noncomputable abbrev TAo:=Ev→(List Ax→Ev→Prop)→Prop
noncomputable def atsOf:List Ax→List Nat
  | []=>[]
  | .v _ :: r=>atsOf r
  | .at j :: r=>j :: atsOf r
noncomputable def inA (δ:Ev):Ax→Ar
  | .v d=>.v d
  | .at j=>match δ[j]? with
    | some (.ob _ C fs)=>.o C fs
    | some (.ow l)=>.l l
    | some (.mu _ l)=>.l l
    | some (.sh d)=>.v d
    | some (.rc _ fs)=>.r fs
    | _=>.x
noncomputable def upA:Sl→Option Ar→Sl
  | .ob h _ _,some (.o C fs)=>.ob h C fs
  | .ow _,some (.l ys)=>.ow ys
  | .mu a _,some (.l ys)=>.mu a ys
  | .rc h _,some (.r fs)=>.rc h fs
  | .sh d,_=>.sh d
  | _,_=>.no
noncomputable def setO:Ev→List Ax→List Ar→Ev
  | δ,[],_=>δ
  | δ,.v _ :: r,os=>setO δ r os.tail
  | δ,.at j :: r,os=>setO (match δ[j]? with | some s=>δ.set j (upA s os.head?) | none=>δ) r os.tail
noncomputable def dMeth (i:Nat) (C:Nat) (m:Str) (S:SpO) (t:TAo):TEd:=fun δ Q=>match δ[i]? with
  | some (.ob _ C' fs)=>C' = C∧fs.lookup m = none∧t δ fun axs δ1=>(i :: atsOf axs).Nodup∧S (inA δ1 (.at i) :: axs.map (inA δ1)) fun d outs=>Q d (setO δ1 (.at i :: axs) outs)
  | _=>False
noncomputable def dMake (i:Nat) (C:Nat) (S:SpO) (t:TAd):TSd:=fun E δ=>t δ fun ds δ1=>S (.o C [] :: ds.map .v) fun d outs=>match d,outs with
  | .non,.o C' fs :: _=>E.nx (δ1.set i (.ob none C' fs))
  | _,_=>False
noncomputable def aNil:TAo:=fun δ Q=>Q [] δ
noncomputable def aCons (te:TEd) (t:TAo):TAo:=fun δ Q=>te δ fun d δ1=>t δ1 fun axs δ2=>Q (.v d :: axs) δ2
noncomputable def ArW (K:PySem.W.Frag) (G H:Hp) (ow:Ow) (i:Nat) (v:V):Ar→Prop
  | .v d=>Den K G v d
  | .o C fs=>∃ a dx vfs,v = .ref a∧H a = some (.ins C dx vfs)∧H dx = some (.own a)∧ow a = some (i,("":Str))∧ow dx = some (i,("":Str))∧FsW K G H ow i vfs fs
  | .l xs=>∃ a vs,v = .ref a∧H a = some (.lst vs)∧ow a = some (i,("":Str))∧DenL K G vs xs
  | .x=>True
  | .r fs=>∃ a vfs,v = .ref a∧H a = some (.dK (vfs.map kx))∧ow a = some (i,("":Str))∧FsW K G H ow i vfs fs
structure ExtM (M:Addr→Prop) (G H G' H':Hp):Prop where
  gg:Same G G'
  gh:Same G' H'
  hh:∀ b o,H b = some o→¬ M b→H' b = some o
  al:∀ b,H' b = none→H b = none
  fr:∀ b o,G' b = some o→G b = none→H b = none
structure ArsW (K:PySem.W.Frag) (G H:Hp) (ow:Ow) (vs:List V) (as:List Ar):Prop where
  at_:∀ k a v,as[k]? = some a→vs[k]? = some v→ArW K G H ow k v a
noncomputable def spO (K:PySem.W.Frag) (S:SpO):Sp:=fun vs H Q _=>∃ (G:Hp) (as:List Ar) (Qd:D→List Ar→Prop) (ow:Ow),Same G H∧as.length = vs.length∧ArsW K G H ow vs as∧(∀ p k,ow p = some k→G p = none∧H p ≠ none)∧S as Qd ∧
  ∀ (v:V) (G' H':Hp) (d:D) (outs:List Ar) (ow':Ow),ExtM (fun p=>ow p ≠ none) G H G' H'→Den K G' v d→ArsW K G' H' ow' vs outs→(∀ p k,ow' p = some k→G' p = none∧H' p ≠ none∧(H p = none∨ow p ≠ none))→Qd d outs→Q v H'
theorem entO_get (hs:Nat→Nat):∀ (as:List Ar) (i k:Nat),(entO hs i as)[k]? = (as[k]?).map (slA (hs (i + k)))
  | [],i,k=>by simp [entO]
  | a :: r,i,0=>by simp [entO]
  | a :: r,i,k + 1=>by simp only [entO,List.getElem?_cons_succ]; rw [entO_get hs r (i + 1) k]; congr 2; congr 1; omega
theorem entO_len (hs:Nat→Nat):∀ (as:List Ar) (i:Nat),(entO hs i as).length = as.length
  | [],i=>rfl
  | a :: r,i=>by simp [entO,entO_len hs r]
theorem outO_get (hs:Nat→Nat) (δ:Ev):∀ (as:List Ar) (i k:Nat),(outO hs i as δ)[k]? = (as[k]?).map fun a=>outA (hs (i + k)) a δ[i + k]?
  | [],i,k=>by simp [outO]
  | a :: r,i,0=>by simp [outO]
  | a :: r,i,k + 1=>by
    simp only [outO,List.getElem?_cons_succ]; rw [outO_get hs δ r (i + 1) k]
    have:i + 1 + k = i + (k + 1):=by omega
    rw [this]
theorem setO_get:∀ (axs:List Ax) (δ:Ev) (outs:List Ar) (j:Nat) (s':Sl),(atsOf axs).Nodup→(setO δ axs outs)[j]? = some s' →
    (j ∉ atsOf axs∧δ[j]? = some s')∨∃ (k:Nat) (s:Sl),axs[k]? = some (Ax.at j)∧δ[j]? = some s∧s' = upA s outs[k]?
  | [],δ,outs,j,s',_,h=>.inl ⟨by simp [atsOf],h⟩
  | .v d :: r,δ,outs,j,s',nd,h=>by
    rcases setO_get r δ outs.tail j s' nd h with ⟨h1,h2⟩ | ⟨k,s,h1,h2,h3⟩
    · exact .inl ⟨h1,h2⟩
    · exact .inr ⟨k + 1,s,by simpa using h1,h2,by rw [h3]; cases outs <;> simp⟩
  | .at i :: r,δ,outs,j,s',nd,h=>by
    obtain ⟨n1,n2⟩:=List.nodup_cons.mp nd
    rcases setO_get r _ outs.tail j s' n2 h with ⟨h1,h2⟩ | ⟨k,s,h1,h2,h3⟩
    · by_cases e:i = j
      · subst e
        cases q:δ[i]? with
        | none=>rw [q] at h2; simp only at h2; rw [q] at h2; cases h2
        | some s =>
          rw [q] at h2
          simp only at h2
          rcases set_get h2 with ⟨_,e2,_⟩ | ⟨z,_⟩
          · exact .inr ⟨0,s,rfl,rfl,by rw [e2]; cases outs <;> rfl⟩
          · exact absurd rfl z
      · refine .inl ⟨by simp only [atsOf,List.mem_cons,not_or]; exact ⟨fun z=>e z.symm,h1⟩,?_⟩
        cases q:δ[i]? with
        | none=>rw [q] at h2; exact h2
        | some s=>rw [q] at h2; simp only at h2; rwa [List.getElem?_set_ne e] at h2
    · have hj:j ∈ atsOf r:=by
        have:∀ (l:List Ax) (k:Nat),l[k]? = some (.at j)→j ∈ atsOf l:=by
          intro l
          induction l with
          | nil=>intro k z; simp at z
          | cons a t ih =>
            intro k z
            cases k with
            | zero=>simp at z; subst z; simp [atsOf]
            | succ k=>have:=ih k (by simpa using z); cases a <;> simp [atsOf,this]
        exact this r k h1
      have e:i ≠ j:=fun z=>n1 (by rw [z]; exact hj)
      refine .inr ⟨k + 1,s,by simpa using h1,?_,by rw [h3]; cases outs <;> simp⟩
      cases q:δ[i]? with
      | none=>rw [q] at h2; exact h2
      | some s=>rw [q] at h2; simp only at h2; rwa [List.getElem?_set_ne e] at h2
theorem setO_len:∀ (axs:List Ax) (δ:Ev) (outs:List Ar),(setO δ axs outs).length = δ.length
  | [],δ,outs=>rfl
  | .v d :: r,δ,outs=>setO_len r δ outs.tail
  | .at i :: r,δ,outs=>by
    show (setO (match δ[i]? with | some s=>δ.set i (upA s outs.head?) | none=>δ) r outs.tail).length = _
    rw [setO_len r]
    cases δ[i]? <;> simp
noncomputable def posOf (j:Nat):List Ax→Option Nat
  | []=>none
  | .v _ :: r=>(posOf j r).map (· + 1)
  | .at i :: r=>if i = j then some 0 else (posOf j r).map (· + 1)
theorem posOf_none {j:Nat}:∀ {axs:List Ax},j ∉ atsOf axs→posOf j axs = none
  | [],_=>rfl
  | .v _ :: r,h=>by simp only [posOf]; rw [posOf_none (axs:=r) h]; rfl
  | .at i :: r,h=>by
    simp only [atsOf,List.mem_cons,not_or] at h
    simp only [posOf]
    rw [if_neg (fun z=>h.1 z.symm),posOf_none h.2]; rfl
theorem posOf_at {j:Nat}:∀ {axs:List Ax} {k:Nat},(atsOf axs).Nodup→axs[k]? = some (.at j)→posOf j axs = some k
  | [],k,_,h=>by simp at h
  | .v _ :: r,0,_,h=>by simp at h
  | .v _ :: r,k + 1,nd,h=>by simp only [posOf]; rw [posOf_at (axs:=r) (k:=k) nd (by simpa using h)]; rfl
  | .at i :: r,0,_,h=>by simp at h; subst h; simp [posOf]
  | .at i :: r,k + 1,nd,h=>by
    obtain ⟨n1,n2⟩:=List.nodup_cons.mp nd
    have e:=posOf_at (axs:=r) (k:=k) n2 (by simpa using h)
    have:i ≠ j:=fun z=>by
      subst z
      have:=posOf_none (axs:=r) n1
      rw [e] at this; cases this
    simp only [posOf]; rw [if_neg this,e]; rfl
section
variable {K:PySem.W.Frag} {G H G' H':Hp} {ow ow':Ow} {i i':Nat}
noncomputable def hsOf (vs:List V):Nat→Nat:=fun k=>match vs[k]? with
  | some (.ref a)=>a
  | _=>0
theorem rel_startO {N:List Str} {vs:List V} {as:List Ar} (s:Same G H) (hl:as.length = vs.length) (h:ArsW K G H ow vs as) (ho:∀ p k,ow p = some k→G p = none∧H p ≠ none) :
    Rel K ⟨G,H,fun p=>ow p ≠ none⟩ (startO N (hsOf vs) as) (start N vs) G H:=by
  refine ⟨s,Same.refl _,fun b o e _=>e,fun b e=>e,fun b o e (e0:G b = none)=>(by rw [e0] at e; cases e),⟨ow,⟨fun p k hk=>⟨(ho p k hk).1,(ho p k hk).2,.inr (fun z=>by rw [hk] at z; cases z)⟩⟩,fun i sl hs=>?_⟩,?_⟩
  · unfold startO at hs
    by_cases hi:i < as.length
    · rw [List.getElem?_append_left (by rw [entO_len]; exact hi),entO_get,Nat.zero_add] at hs
      have q:as[i]? = some as[i]:=List.getElem?_eq_getElem hi
      rw [q] at hs
      have hv:vs[i]? = some (vs[i]'(by omega)):=List.getElem?_eq_getElem (by omega)
      have hw:=h.at_ i _ _ q hv
      have hst:(start N vs)[i]? = some (some (vs[i]'(by omega))):=by
        unfold L2.start
        rw [List.getElem?_append_left (by rw [List.length_map]; omega),List.getElem?_map,hv]; rfl
      rw [hst]
      generalize as[i] = a at hs hw
      generalize vs[i]'(by omega) = v at hv hw
      cases a with
      | v d=>cases hs; exact ⟨v,rfl,hw⟩
      | x=>cases hs; trivial
      | o C fs =>
        cases hs
        obtain ⟨a,dx,vfs,rfl,h3,h4,h5,h6,h7⟩:=hw
        refine ⟨a,dx,vfs,rfl,fun a0 z=>?_,h3,h4,h5,h6,h7⟩
        cases z; unfold hsOf; rw [hv]
      | r fs =>
        cases hs
        obtain ⟨a,vfs,rfl,h3,h5,h7⟩:=hw
        refine ⟨a,vfs,rfl,fun a0 z=>?_,h3,h5,h7⟩
        cases z; unfold hsOf; rw [hv]
      | l xs =>
        obtain ⟨a,ws,rfl,h3,h4,h5⟩:=hw
        have e:hsOf vs i = a:=by unfold hsOf; rw [hv]
        cases hs
        rw [e]
        exact ⟨ws,rfl,h3,h4,h5⟩
    · rw [List.getElem?_append_right (by rw [entO_len]; omega),List.getElem?_replicate] at hs
      split at hs
      · cases hs; trivial
      · cases hs
  · simp [startO,L2.start,hl,entO_len]
theorem out_ok {n:En} {δ:Ev} {σ:L2.St} {vs:List V} {as:List Ar} (hw:ArsW K G H ow vs as) (hG:Same G G') (gh:∀ (i:Nat) (s:Sl),δ[i]? = some s→SlW K n G' H' ow' i σ[i]? s):ArsW K G' H' ow' vs (outO (hsOf vs) 0 as δ):=by
  refine ⟨fun k b v hb hv=>?_⟩
  rw [outO_get,Nat.zero_add] at hb
  cases qa:as[k]? with
  | none=>rw [qa] at hb; cases hb
  | some a =>
    rw [qa] at hb
    have h0:=hw.at_ k a v qa hv
    cases a with
    | v d=>cases hb; exact Den.up hG h0
    | x=>cases hb; trivial
    | o C fs =>
      simp only [Option.map_some,Option.some.injEq] at hb
      subst hb
      obtain ⟨a,dx,vfs,rfl,-⟩:=h0
      cases q:δ[k]? with
      | none=>trivial
      | some s =>
        cases s with
        | ob h C' fs' =>
          cases h with
          | none=>trivial
          | some a' =>
            show ArW K G' H' ow' k (.ref a) (if a' = hsOf vs k then .o C' fs' else .x)
            split
            · rename_i e3
              obtain ⟨b,dy,wfs,g1,g2,g3,g4,g5,g6,g7⟩:=gh k _ q
              have:b = a:=by rw [g2 _ rfl,e3]; unfold hsOf; rw [hv]
              subst this
              exact ⟨b,dy,wfs,rfl,g3,g4,g5,g6,g7⟩
            · trivial
        | _=>trivial
    | r fs =>
      simp only [Option.map_some,Option.some.injEq] at hb
      subst hb
      obtain ⟨a,vfs,rfl,-⟩:=h0
      cases q:δ[k]? with
      | none=>trivial
      | some s =>
        cases s with
        | rc h fs' =>
          cases h with
          | none=>trivial
          | some a' =>
            show ArW K G' H' ow' k (.ref a) (if a' = hsOf vs k then .r fs' else .x)
            split
            · rename_i e3
              obtain ⟨b,wfs,g1,g2,g3,g5,g7⟩:=gh k _ q
              have:b = a:=by rw [g2 _ rfl,e3]; unfold hsOf; rw [hv]
              subst this
              exact ⟨b,wfs,rfl,g3,g5,g7⟩
            · trivial
        | _=>trivial
    | l xs =>
      simp only [Option.map_some,Option.some.injEq] at hb
      subst hb
      obtain ⟨a,ws,rfl,-⟩:=h0
      cases q:δ[k]? with
      | none=>trivial
      | some s =>
        cases s with
        | mu a' ys =>
          show ArW K G' H' ow' k (.ref a) (if a' = hsOf vs k then .l ys else .x)
          split
          · rename_i e3
            obtain ⟨ws',g1,g2,g3,g4⟩:=gh k _ q
            have:a' = a:=by rw [e3]; unfold hsOf; rw [hv]
            subst this
            exact ⟨_,ws',rfl,g2,g3,g4⟩
          · trivial
        | _=>trivial
end
section
variable {P:Program} {w:World} {K:PySem.W.Frag} {mg:Str→Option Value} {base:Heap}
theorem fnO {x qual:Str} {st:Stmt} {f:Addr} {fd:FuncData} {N ps:List Str} {k:Nat} {S:SpO} (F:Fun K x qual st f fd) (Sc:FnScope N ps (defScope st)) (len:∀ as Q,S as Q→as.length = ps.length)
    (hbody:∀ (cdv:Value) (A:Around) (outer:List Env) (s:Shared) (H:Hp) (E:XK),Room k (A.deeper (envOfC qual (defScope st) s.heap.objs.size f cdv)) →
      ∃ t,DSs (cxOf CX0 P w K mg base N qual (defScope st) f cdv A outer s H E).nox (defBody st) t∧∀ (hs:Nat→Nat) as Q,S as Q→t { nx:=fun δ=>Q .non (outO hs 0 as δ),rt:=fun d δ=>Q d (outO hs 0 as δ) } (startO N hs as)):FnOk P w K mg base CX0 (k + 1) f fd ps (spO K S):=by
  refine F.ok Sc (fun vs H Q E zz57=>zz57.elim fun G zz=>zz.elim fun as zz=>zz.elim fun Qd zz=>zz.elim fun ow zz=>zz.elim fun sub zz=>zz.elim fun hl zz=>zz.elim fun hw zz=>zz.elim fun ho zz=>zz.elim fun h _=>?_) (fun cdv A outer s H vs Q E hr zz58=>zz58.elim fun G zz=>zz.elim fun as zz=>zz.elim fun Qd zz=>zz.elim fun ow zz=>zz.elim fun sub zz=>zz.elim fun hl zz=>zz.elim fun hw zz=>zz.elim fun ho zz=>zz.elim fun h kk=>?_)
  · rw [← hl]; exact len as Qd h
  · obtain ⟨t,ht,hq⟩:=hbody cdv A outer s H E hr
    have fin:∀ (v:V) (d:D) (δ:Ev) (σ:L2.St) (G' H':Hp),Rel K ⟨G,H,fun p=>ow p ≠ none⟩ δ σ G' H'→Den K G' v d→Qd d (outO (hsOf vs) 0 as δ)→Q v H':=fun v d δ σ G' H' R' dv q=>by
      obtain ⟨ow',ok',gh'⟩:=R'.gh
      exact kk v G' H' d _ ow' ⟨R'.eg,R'.sub,R'.eh,R'.al,fun b o e e0=>R'.fr b o e e0⟩ dv (out_ok hw R'.eg gh') (fun p k hk=>ok'.is p k hk) q
    exact ⟨_,ht,⟨G,H,fun p=>ow p ≠ none⟩,_,G,_,rel_startO (N:=N) sub hl hw ho,hq (hsOf vs) as Qd h,⟨fun δ σ G' H' R' q=>fin .non .non δ σ G' H' R' .non q,fun v d δ σ G' H' R' dv q=>fin v d δ σ G' H' R' dv q,fun _ _ _ _ _ q=>q.elim,fun _ _ _ _ _ q=>q.elim⟩⟩
end
end Dl
namespace Dl
open PySem PySem.Spec PyProof.Rows L2
inductive AxL (K:PySem.W.Frag) (G:Hp) (σ:L2.St):List V→List Ax→Prop
  | nil:AxL K G σ [] []
  | v {x:V} {d:D} {xs:List V} {axs:List Ax}:Den K G x d→AxL K G σ xs axs→AxL K G σ (x :: xs) (.v d :: axs)
  | at {x:V} {j:Nat} {xs:List V} {axs:List Ax}:σ[j]? = some (some x)→AxL K G σ xs axs→AxL K G σ (x :: xs) (.at j :: axs)
section
variable {K:PySem.W.Frag} {G G' H H':Hp} {σ:L2.St} {n:En} {δ:Ev}
theorem AxL.length:∀ {vs:List V} {axs:List Ax},AxL K G σ vs axs→vs.length = axs.length
  | _,_,.nil=>rfl
  | _,_,.v _ t=>by simp [AxL.length t]
  | _,_,.at _ t=>by simp [AxL.length t]
theorem AxL.getV:∀ {vs:List V} {axs:List Ax} {k:Nat} {d:D} {v:V},AxL K G σ vs axs→axs[k]? = some (.v d)→vs[k]? = some v→Den K G v d
  | _,_,_,_,_,.nil,h,_=>by simp at h
  | _,_,0,_,_,.v h _,h1,h2=>by simp at h1 h2; subst h1 h2; exact h
  | _,_,0,_,_,.at h _,h1,h2=>by simp at h1
  | _,_,k + 1,_,_,.v _ t,h1,h2=>AxL.getV (k:=k) t (by simpa using h1) (by simpa using h2)
  | _,_,k + 1,_,_,.at _ t,h1,h2=>AxL.getV (k:=k) t (by simpa using h1) (by simpa using h2)
theorem AxL.getA:∀ {vs:List V} {axs:List Ax} {k j:Nat},AxL K G σ vs axs→axs[k]? = some (.at j)→∃ v,vs[k]? = some v∧σ[j]? = some (some v)
  | _,_,_,_,.nil,h=>by simp at h
  | _,_,0,_,.v h _,h1=>by simp at h1
  | _,_,0,_,.at h _,h1=>by simp at h1; subst h1; exact ⟨_,rfl,h⟩
  | _,_,k + 1,_,.v _ t,h1=>by
    obtain ⟨v,e1,e2⟩:=AxL.getA (k:=k) t (by simpa using h1)
    exact ⟨v,by simpa using e1,e2⟩
  | _,_,k + 1,_,.at _ t,h1=>by
    obtain ⟨v,e1,e2⟩:=AxL.getA (k:=k) t (by simpa using h1)
    exact ⟨v,by simpa using e1,e2⟩
theorem Rel.after {M:Addr→Prop} (R:Rel K n δ σ G H) (e:ExtM M G H G' H') (hM:∀ p,M p→n.H p = none∨n.M p) :
    Same G' H'∧Same n.G G'∧(∀ b o,n.H b = some o→¬ n.M b→H' b = some o)∧(∀ b,H' b = none→n.H b = none)∧(∀ b o,G' b = some o→n.G b = none→n.H b = none):=by
  refine ⟨e.gh,R.eg.trans e.gg,fun b o q m=>e.hh b o (R.eh b o q m) fun z=>?_,fun b q=>R.al b (e.al b q),fun b o q q0=>?_⟩
  · rcases hM b z with h | h
    · rw [h] at q; cases q
    · exact m h
  · cases h:G b with
    | none=>exact R.al b (e.fr b o q h)
    | some w=>exact R.fr b w h q0
theorem Rel.enter (R:Rel K n δ σ G H) {axs:List Ax} {vs:List V} (nd:(atsOf axs).Nodup) (ha:AxL K G σ vs axs):∃ owC:Ow,ArsW K G H owC vs (axs.map (inA δ))∧(∀ p k,owC p = some k→G p = none∧H p ≠ none) ∧
    ∀ (G' H':Hp) (outs:List Ar) (ow':Ow),ExtM (fun p=>owC p ≠ none) G H G' H'→ArsW K G' H' ow' vs outs→(∀ p k,ow' p = some k→G' p = none∧H' p ≠ none∧(H p = none∨owC p ≠ none))→Rel K n (setO δ axs outs) σ G' H':=by
  obtain ⟨ow,ok,gh⟩:=R.gh
  have oc:∀ {p:Addr} {j k:Nat} {f:Str},axs[k]? = some (.at j)→ow p = some (j,f)→((ow p).bind fun jf=>(posOf jf.1 axs).map fun k=>(k,jf.2)) = some (k,f):=fun {p j k f} hk h=>by
    rw [h]
    show (posOf j axs).map _ = _
    rw [posOf_at nd hk]; rfl
  have oc':∀ {p:Addr},((ow p).bind fun jf=>(posOf jf.1 axs).map fun k=>(k,jf.2)) ≠ none→∃ jf,ow p = some jf:=fun {p} h=>by
    cases q:ow p with
    | none=>rw [q] at h; exact absurd rfl h
    | some w=>exact ⟨w,rfl⟩
  refine ⟨fun p=>(ow p).bind fun jf=>(posOf jf.1 axs).map fun k=>(k,jf.2),⟨fun k a v h1 h2=>?_⟩,fun p k hk=>?_,fun G' H' outs ow' e hw ho=>?_⟩
  · rw [List.getElem?_map] at h1
    cases q:axs[k]? with
    | none=>rw [q] at h1; cases h1
    | some ax =>
      rw [q] at h1
      cases ax with
      | v d=>cases h1; exact ha.getV q h2
      | «at» j =>
        obtain ⟨v',e1,e2⟩:=ha.getA q
        rw [h2] at e1; cases e1
        simp only [Option.map_some,Option.some.injEq] at h1
        subst h1
        show ArW K G H _ k v (match δ[j]? with | some (.ob _ C fs)=>.o C fs | some (.ow l)=>.l l | some (.mu _ l)=>.l l | some (.sh d)=>.v d | some (.rc _ fs)=>.r fs | _=>.x)
        cases qs:δ[j]? with
        | none=>trivial
        | some s =>
          have hs:=gh j s qs
          rw [e2] at hs
          cases s with
          | no=>trivial
          | sh d=>obtain ⟨w,g1,g2⟩:=hs; cases g1; exact g2
          | ow l=>obtain ⟨p,ws,g1,g2,g3,g4,g5⟩:=hs; cases g1; exact ⟨p,ws,rfl,g2,oc q g4,g5⟩
          | mu b l=>obtain ⟨ws,g1,g2,g4,g5⟩:=hs; cases g1; exact ⟨b,ws,rfl,g2,oc q g4,g5⟩
          | ob h C fs =>
            obtain ⟨a,dx,vfs,g1,g2,g3,g4,g5,g6,g7⟩:=hs
            cases g1
            exact ⟨a,dx,vfs,rfl,g3,g4,oc q g5,oc q g6,g7.keep (Same.refl _) (fun p f z=>oc q z) fun _ _ _ _ z=>z⟩
          | pt a=>trivial
          | rc h fs =>
            obtain ⟨a,vfs,g1,g2,g3,g5,g7⟩:=hs
            cases g1
            exact ⟨a,vfs,rfl,g3,oc q g5,g7.keep (Same.refl _) (fun p f z=>oc q z) fun _ _ _ _ z=>z⟩
  · obtain ⟨jf,hj⟩:=oc' (p:=p) (fun z=>by have w:=z.symm.trans hk; cases w)
    obtain ⟨h1,h2,h3⟩:=ok.is p jf hj
    exact ⟨h1,h2⟩
  · obtain ⟨a1,a2,a3,a4,a5⟩:=R.after e (fun p hp=>by obtain ⟨jf,hj⟩:=oc' hp; exact (ok.is p jf hj).2.2)
    refine ⟨a1,a2,a3,a4,a5,⟨fun p=>match ow' p with
      | some (k,f)=>(match axs[k]? with | some (.at j)=>some (j,f) | _=>none)
      | none=>match ow p with
        | some (j,f)=>if posOf j axs = none then some (j,f) else none
        | none=>none,⟨fun p kk hk=>?_⟩,fun j s' hs'=>?_⟩,by rw [setO_len]; exact R.len⟩
    · cases q:ow' p with
      | some kf =>
        obtain ⟨h1,h2,h3⟩:=ho p kf q
        refine ⟨h1,h2,?_⟩
        rcases h3 with h3 | h3
        · exact .inl (R.al p h3)
        · obtain ⟨jf,hj⟩:=oc' h3; exact (ok.is p jf hj).2.2
      | none =>
        simp only [q] at hk
        cases q2:ow p with
        | none=>rw [q2] at hk; cases hk
        | some jf =>
          obtain ⟨j,f⟩:=jf
          rw [q2] at hk
          simp only at hk
          split at hk
          · rename_i hp
            obtain ⟨h1,h2,h3⟩:=ok.is p _ q2
            have nM:¬ (((ow p).bind fun jf=>(posOf jf.1 axs).map fun k=>(k,jf.2)) ≠ none):=fun z=>z (by rw [q2]; show (posOf j axs).map _ = _; rw [hp]; rfl)
            refine ⟨?_,fun z=>h2 (e.al p z),h3⟩
            cases q3:G' p with
            | none=>rfl
            | some w=>exact absurd (e.fr p w q3 h1) h2
          · cases hk
    · rcases setO_get axs δ outs j s' nd hs' with ⟨hj,hs⟩ | ⟨k,s,hk,hs,rfl⟩
      · have hp:posOf j axs = none:=posOf_none hj
        have nC:∀ p f,ow p = some (j,f)→((ow p).bind fun jf=>(posOf jf.1 axs).map fun k=>(k,jf.2)) = none:=fun p f z=>by rw [z]; show (posOf j axs).map _ = _; rw [hp]; rfl
        refine (gh j s' hs).keep e.gg (fun p f z=>?_) fun p f o z q=>e.hh p o q fun w=>w (nC p f z)
        have q:ow' p = none:=by
          cases q:ow' p with
          | none=>rfl
          | some kf =>
            obtain ⟨h1,h2,h3⟩:=ho p kf q
            rcases h3 with h3 | h3
            · exact absurd h3 (ok.is p _ z).2.1
            · exact absurd (nC p f z) h3
        simp only [q,z,hp]; simp
      · obtain ⟨v,e1,e2⟩:=ha.getA hk
        have h0:=gh j s hs
        rw [e2] at h0 ⊢
        have hO:∀ p f,ow' p = some (k,f)→(match ow' p with
            | some (k,f)=>(match axs[k]? with | some (.at j)=>some (j,f) | _=>none)
            | none=>match ow p with
              | some (j,f)=>if posOf j axs = none then some (j,f) else none
              | none=>none) = some (j,f):=fun p f z=>by simp only [z,hk]
        cases qo:outs[k]? with
        | none =>
          cases s with
          | sh d=>obtain ⟨w,g1,g2⟩:=h0; exact ⟨w,g1,g2.up e.gg⟩
          | _=>trivial
        | some ar =>
          have hr:=hw.at_ k ar v qo e1
          cases s with
          | no=>cases ar <;> trivial
          | pt a=>cases ar <;> trivial
          | sh d=>obtain ⟨w,g1,g2⟩:=h0; exact ⟨w,g1,g2.up e.gg⟩
          | ow l =>
            cases ar with
            | l ys =>
              obtain ⟨a,ws,rfl,r1,r2,r3⟩:=hr
              obtain ⟨p,zs,g1,g2,g3,g4,g5⟩:=h0
              cases g1
              exact ⟨a,ws,rfl,r1,g3,hO _ _ r2,r3⟩
            | _=>trivial
          | mu b l =>
            cases ar with
            | l ys =>
              obtain ⟨a,ws,rfl,r1,r2,r3⟩:=hr
              obtain ⟨zs,g1,g2,g4,g5⟩:=h0
              cases g1
              exact ⟨ws,rfl,r1,hO _ _ r2,r3⟩
            | _=>trivial
          | ob h C fs =>
            cases ar with
            | o C' fs' =>
              obtain ⟨a,dx,vfs,rfl,r1,r2,r3,r4,r5⟩:=hr
              obtain ⟨a',dx',vfs',g1,g2,_⟩:=h0
              cases g1
              exact ⟨a,dx,vfs,rfl,g2,r1,r2,hO _ _ r3,hO _ _ r4,r5.keep (Same.refl _) hO fun _ _ _ _ z=>z⟩
            | _=>trivial
          | rc h fs =>
            cases ar with
            | r fs' =>
              obtain ⟨a,vfs,rfl,r1,r3,r5⟩:=hr
              obtain ⟨a',vfs',g1,g2,_⟩:=h0
              cases g1
              exact ⟨a,vfs,rfl,g2,r1,hO _ _ r3,r5.keep (Same.refl _) hO fun _ _ _ _ z=>z⟩
            | _=>trivial
end
noncomputable def lAo (K:PySem.W.Frag) (t:TAo):TA:=fun σ H Q2=>∃ (n:En) (δ:Ev) (G:Hp) (Q:List Ax→Ev→Prop),Rel K n δ σ G H∧t δ Q ∧
  ∀ (v:List V) (G' H':Hp) (d:List Ax) (δ':Ev),Rel K n δ' σ G' H'→Same G G'→AxL K G' σ v d→Q d δ'→Q2 v H'
theorem lAo.el {K:PySem.W.Frag} {t:TAo} {σ H Q2} {P:Prop} (x:lAo K t σ H Q2) (k:∀ (n:En) (δ:Ev) (G:Hp) (Q:List Ax→Ev→Prop),(Rel K n δ σ G H)→(t δ Q)→(∀ (v:List V) (G' H':Hp) (d:List Ax) (δ':Ev),Rel K n δ' σ G' H'→Same G G'→AxL K G' σ v d→Q d δ'→Q2 v H')→P):P:=by
  obtain ⟨n,δ,G,Q,h0,h1,h2⟩:=x
  exact k n δ G Q h0 h1 h2
noncomputable abbrev DAo (X:Cx) (es:List Expr) (t:TAo):Prop:=PA X es (lAo X.K t)
section
variable {X:Cx} {e:Expr} {es:List Expr} {te:TEd} {t:TAo} {x:Str} {p pos:Pos} {f C:Addr} {fd:FuncData} {ps:List Str} {S:SpO} {k:Nat} {m:Str} {apos:Pos}
theorem dao_nil:DAo X [] aNil:=pa_imp pa_nil fun σ H Q2 hx=>hx.el fun n δ G Q R h k=>k [] G H [] δ R (Same.refl _) .nil h
theorem dao_cons (ha:DE X e te) (hr:DAo X es t) (hs:autoParam (starEach (e :: es) X.env = (false,eval e X.env) :: starEach es X.env) ZA.a3._auto_1):DAo X (e :: es) (aCons te t) :=
  pa_imp (pa_cons ha hr hs) fun σ H Q2 hx=>hx.el fun n δ G Q R h k=>⟨n,δ,G,_,R,h,fun v G1 H1 d δ1 R1 s1 d1 h1=>⟨n,δ1,G1,_,R1,h1,fun vs G2 H2 ds δ2 R2 s2 d2 h2 =>
    k (v :: vs) G2 H2 (.v d :: ds) δ2 R2 (s1.trans s2) (.v (d1.up s2) d2) h2⟩⟩
theorem de_meth (i:Nat) {y:Str} {op:Pos} {pl:Sem Bool} (c:Cls X.K C) (hm:Meth X.K C m f) (F:FnOk X.prog X.w X.K X.mg X.base CX0 k f fd ps (spO X.K S)) (hr:Room k X.A) (hb:Binds X.K fd ps []) (ha:DAo X (e :: es) t)
    (hN:autoParam (X.N[i]? = some y) ZA.a3._auto_1) (hv:autoParam (Vis X.env.scope y) ZA.a5._auto_1) (hd:autoParam ((y == ("__debug__":Str)) = false) ZA.a2._auto_1) (hcd:autoParam ((y == ("__classdict__":Str)) = false) ZA.a2._auto_1)
    (hst:autoParam (starEach (e :: es) X.env = (false,eval e X.env) :: starEach es X.env) ZA.a3._auto_1) (hpl:autoParam ((backTo pos (starEach es X.env)).any (·.1) = false) ZA.a3._auto_1)
    (ht:autoParam (eval (.Call (.Attribute (.Name y op) m apos) (e :: es) [] pos) X.env = (do
      let ov ← eval (.Name y op) X.env
      standAt apos.atName
      let (f,first) ← holding [ov] (getMethod ov m pl)
      callWith pos f first (backTo pos (starEach (e :: es) X.env)) (backToKw pos (keywordEach [] X.env)))) ZA.a3._auto_1) :
    DE X (.Call (.Attribute (.Name y op) m apos) (e :: es) [] pos) (dMeth i C m S t) :=
  pe_imp (pe_meth (pl:=pl) (pe_var hN hv hd hcd) c hm F hr hb .nil pass0 ha hst hpl ht) fun σ H Q2 hx=>hx.el fun n δ G Q R h kk=>by
    unfold dMeth at h
    split at h
    · rename_i h0 C' fs q
      obtain ⟨rfl,hl,h⟩:=h
      obtain ⟨a,dx,vfs,g1,g2,g3,g4,ow,i',g5⟩:=R.sl i _ q
      refine ⟨.ref a,g1,a,dx,vfs,rfl,g3,?_,n,δ,G,_,R,h,fun vs G1 H1 axs δ1 R1 s1 d1 zz59=>zz59.elim fun nd h1=>?_⟩
      · have hk:m ∉ fs.map (·.1):=fun z=>by
          obtain ⟨p,hp,e⟩:=List.mem_map.mp z
          exact absurd hl (by intro hh; have:=List.lookup_eq_none_iff.mp hh p hp; simp [e] at this)
        rw [← g5.keys] at hk
        exact List.lookup_eq_none_iff.mpr fun p hp=>by
          have:p.1 ≠ m:=fun z=>hk (List.mem_map.mpr ⟨p,hp,z⟩)
          simpa using fun z=>this z.symm
      · show spO X.K S (.ref a :: (vs ++ [])) H1 Q2 E0
        rw [List.append_nil]
        obtain ⟨owC,c1,c2,c3⟩:=R1.enter (axs:=.at i :: axs) nd (.at g1 d1)
        exact ⟨G1,_,_,owC,R1.sub,by simp [d1.length],c1,c2,h1,fun v G2 H2 d outs ow' e2 dv w2 o2 q2=>kk v G2 H2 d _ (c3 G2 H2 outs ow' e2 w2 o2) (s1.trans e2.gg) dv q2⟩
    · exact h.elim
theorem de_meth0 (i:Nat) {y:Str} {op:Pos} {pl:Sem Bool} (c:Cls X.K C) (hm:Meth X.K C m f) (F:FnOk X.prog X.w X.K X.mg X.base CX0 k f fd ps (spO X.K S)) (hr:Room k X.A) (hb:Binds X.K fd ps [])
    (hN:autoParam (X.N[i]? = some y) ZA.a3._auto_1) (hv:autoParam (Vis X.env.scope y) ZA.a5._auto_1) (hd:autoParam ((y == ("__debug__":Str)) = false) ZA.a2._auto_1) (hcd:autoParam ((y == ("__classdict__":Str)) = false) ZA.a2._auto_1)
    (ht:autoParam (eval (.Call (.Attribute (.Name y op) m apos) [] [] pos) X.env = (do
      let ov ← eval (.Name y op) X.env
      standAt apos.atName
      let (f,first) ← holding [ov] (getMethod ov m pl)
      callWith pos f first (backTo pos (starEach [] X.env)) (backToKw pos (keywordEach [] X.env)))) ZA.a3._auto_1) :
    DE X (.Call (.Attribute (.Name y op) m apos) [] [] pos) (dMeth i C m S aNil) :=
  pe_imp (pe_meth0 (pl:=pl) (pe_var hN hv hd hcd) c hm F hr hb .nil pass0 ht) fun σ H Q2 hx=>hx.el fun n δ G Q R h kk=>by
    unfold dMeth at h
    split at h
    · rename_i h0 C' fs q
      obtain ⟨rfl,hl,nd,h⟩:=h
      obtain ⟨a,dx,vfs,g1,g2,g3,g4,ow,i',g5⟩:=R.sl i _ q
      refine ⟨.ref a,g1,a,dx,vfs,rfl,g3,?_,?_⟩
      · have hk:m ∉ fs.map (·.1):=fun z=>by
          obtain ⟨p,hp,e⟩:=List.mem_map.mp z
          exact absurd hl (by intro hh; have:=List.lookup_eq_none_iff.mp hh p hp; simp [e] at this)
        rw [← g5.keys] at hk
        exact List.lookup_eq_none_iff.mpr fun p hp=>by
          have:p.1 ≠ m:=fun z=>hk (List.mem_map.mpr ⟨p,hp,z⟩)
          simpa using fun z=>this z.symm
      · obtain ⟨owC,c1,c2,c3⟩:=R.enter (axs:=[.at i]) nd (.at g1 .nil)
        exact ⟨G,_,_,owC,R.sub,by simp,c1,c2,h,fun v G2 H2 d outs ow' e2 dv w2 o2 q2=>kk v G2 H2 d _ (c3 G2 H2 outs ow' e2 w2 o2) e2.gg dv q2⟩
    · exact h.elim
end
end Dl
namespace Dl
open PySem PySem.Spec PyProof.Rows L2
noncomputable def putFl (f:Str) (s:Fl):List (Str × Fl)→List (Str × Fl)
  | []=>[(f,s)]
  | (g,x) :: r=>if g = f then (g,s) :: r else (g,x) :: putFl f s r
noncomputable def putK (f:Str):List Str→List Str
  | []=>[f]
  | g :: r=>if g = f then g :: r else g :: putK f r
theorem keysF_put (f:Str) (v:V):∀ l:List (Str × V),(putF f v l).map (·.1) = putK f (l.map (·.1))
  | []=>rfl
  | (g,x) :: r=>by
    simp only [putF,List.map_cons,putK]
    split
    · rfl
    · rw [List.map_cons,keysF_put f v r]
theorem keysFl_put (f:Str) (s:Fl):∀ l:List (Str × Fl),(putFl f s l).map (·.1) = putK f (l.map (·.1))
  | []=>rfl
  | (g,x) :: r=>by
    simp only [putFl,List.map_cons,putK]
    split
    · rfl
    · rw [List.map_cons,keysFl_put f s r]
theorem putK_mem (f:Str):∀ l:List Str,f ∈ l→putK f l = l
  | [],h=>by simp at h
  | g :: r,h=>by
    simp only [putK]
    split
    · rfl
    · rename_i ne
      rcases List.mem_cons.mp h with e | e
      · exact absurd e.symm ne
      · rw [putK_mem f r e]
theorem lookup_putFl (f g:Str) (s:Fl):∀ fs:List (Str × Fl),(putFl f s fs).lookup g = if g = f then some s else fs.lookup g
  | []=>by
    show List.lookup g [(f,s)] = _
    by_cases h:g = f
    · have hb:(g == f) = true:=beq_iff_eq.mpr h
      simp only [List.lookup,hb,if_pos h]
    · have hb:(g == f) = false:=beq_eq_false_iff_ne.mpr h
      simp only [List.lookup,hb,if_neg h]
  | (k,x) :: r=>by
    have ih:=lookup_putFl f g s r
    rw [show putFl f s ((k,x) :: r) = (if k = f then (k,s) :: r else (k,x) :: putFl f s r) from rfl]
    by_cases hk:k = f
    · rw [if_pos hk]
      by_cases h:g = k
      · have hb:(g == k) = true:=beq_iff_eq.mpr h
        simp only [List.lookup,hb,if_pos (h.trans hk)]
      · have hb:(g == k) = false:=beq_eq_false_iff_ne.mpr h
        simp only [List.lookup,hb,if_neg (fun e:g = f=>h (e.trans hk.symm))]
    · rw [if_neg hk]
      by_cases h:g = k
      · have hb:(g == k) = true:=beq_iff_eq.mpr h
        simp only [List.lookup,hb,if_neg (fun e:g = f=>hk (h.symm.trans e))]
      · have hb:(g == k) = false:=beq_eq_false_iff_ne.mpr h
        simp only [List.lookup,hb]
        exact ih
noncomputable abbrev TXd:=Ev→(D→Prop)→Prop
noncomputable def fldOf (C i:Nat) (f:Str) (δ:Ev):Option D:=match δ[i]? with
  | some (.ob _ C' fs)=>if C' = C then (match fs.lookup f with
    | some (.sh d)=>some d
    | _=>none) else none
  | _=>none
noncomputable def putAt (i:Nat) (f:Str) (s:Fl) (δ:Ev):Ev:=match δ[i]? with
  | some (.ob h C fs)=>δ.set i (.ob h C (putFl f s fs))
  | _=>δ
noncomputable def fewOf (C i:Nat) (δ:Ev):Bool:=match δ[i]? with
  | some (.ob _ C' fs)=>decide (C' = C) && decide (fs.length < 999)
  | _=>false
noncomputable def xVar (i:Nat):TXd:=fun δ Q=>match δ[i]? with
  | some (.sh d)=>Q d
  | _=>False
noncomputable def xFld (C i:Nat) (f:Str):TXd:=fun δ Q=>match fldOf C i f δ with
  | some d=>Q d
  | none=>False
noncomputable def dX (t:TXd):TEd:=fun δ Q=>t δ fun d=>Q d δ
noncomputable def dSetF (C i:Nat) (f:Str) (te:TEd):TSd:=fun E δ=>te δ fun d δ1=>fewOf C i δ1 = true∧E.nx (putAt i f (.sh d) δ1)
section
variable {K:PySem.W.Frag} {n:En} {G H G' H':Hp} {ow ow':Ow} {i i':Nat} {f:Str} {v:V} {s:Fl} {vfs:List (Str × V)} {fs:List (Str × Fl)} {δ:Ev} {σ:L2.St} {p q:Addr} {o:HO}
theorem FlW.keepL (hH:∀ p f o,ow p = some (i,f)→(∀ C dx fs,o ≠ HO.ins C dx fs)→H p = some o→H' p = some o) (h:FlW K G H ow i f v s):FlW K G H' ow i f v s:=by
  cases s with
  | sh d=>exact h
  | ow l=>obtain ⟨q,vs,h1,h2,h3,h4⟩:=h; exact ⟨q,vs,h1,hH _ _ _ h3 (fun _ _ _ z=>by cases z) h2,h3,h4⟩
  | dc l=>obtain ⟨q,vs,h1,h2,h3,h4⟩:=h; exact ⟨q,vs,h1,hH _ _ _ h3 (fun _ _ _ z=>by cases z) h2,h3,h4⟩
  | fz q l=>exact h
theorem FsW.keepL (hH:∀ p f o,ow p = some (i,f)→(∀ C dx fs,o ≠ HO.ins C dx fs)→H p = some o→H' p = some o) (h:FsW K G H ow i vfs fs):FsW K G H' ow i vfs fs :=
  ⟨h.keys,fun f s e=>let ⟨v,h1,h2⟩:=h.at_ f s e; ⟨v,h1,h2.keepL hH⟩⟩
theorem FsW.put (h:FsW K G H ow i vfs fs) (hv:FlW K G H ow i f v s):FsW K G H ow i (putF f v vfs) (putFl f s fs):=by
  refine ⟨by rw [keysF_put,keysFl_put,h.keys],fun g s' e=>?_⟩
  rw [lookup_putFl] at e
  rw [lookup_putF]
  by_cases z:g = f
  · rw [if_pos z] at e ⊢
    cases e
    subst z
    exact ⟨v,rfl,hv⟩
  · rw [if_neg z] at e ⊢
    exact h.at_ g s' e
theorem Rel.updOwn (R:Rel K n δ σ G H) (ok:OwOk n G H ow) (gh:∀ (i:Nat) (s:Sl),δ[i]? = some s→SlW K n G H ow i σ[i]? s) (hp:ow p = some (i,f)) {s':Sl} (hs:SlW K n G (upd H p o) ow i σ[i]? s'):Rel K n (δ.set i s') σ G (upd H p o):=by
  obtain ⟨g3,g7,g8⟩:=ok.is _ _ hp
  have ne:∀ b u,G b = some u→b ≠ p:=fun b u e z=>by subst z; rw [g3] at e; cases e
  refine ⟨fun b u e=>by rw [upd_ne (ne b u e)]; exact R.sub b u e,R.eg,fun b u q m=>?_,fun b q=>?_,R.fr,⟨ow,⟨fun b k hk=>?_⟩,fun j s hj=>?_⟩,by rw [List.length_set]; exact R.len⟩
  · have:b ≠ p:=fun z=>by
      subst z
      rcases g8 with g8 | g8
      · rw [g8] at q; cases q
      · exact m g8
    rw [upd_ne this]; exact R.eh b u q m
  · by_cases hb:b = p
    · subst hb; rw [upd_same] at q; cases q
    · rw [upd_ne hb] at q; exact R.al b q
  · obtain ⟨h1,h2,h3⟩:=ok.is b k hk; exact ⟨h1,upd_some h2,h3⟩
  · rcases set_get hj with ⟨e,rfl,hl⟩ | ⟨e,hj⟩
    · subst e; exact hs
    · refine (gh j s hj).keep (Same.refl _) (fun _ _ z=>z) fun b f' u z q=>?_
      have:b ≠ p:=fun w=>by subst w; rw [hp] at z; cases z; exact e rfl
      rw [upd_ne this]; exact q
theorem own_new (R:Rel K n δ σ G H) (ok:OwOk n G H ow) (gh:∀ (i:Nat) (s:Sl),δ[i]? = some s→SlW K n G H ow i σ[i]? s) (hq:H q = none) (i:Nat) (f:Str) (o:HO) :
    OwOk n G (upd H q o) (owSet ow q (some (i,f)))∧∀ (i':Nat) (s:Sl),δ[i']? = some s→SlW K n G (upd H q o) (owSet ow q (some (i,f))) i' σ[i']? s:=by
  have hne:∀ b k,ow b = some k→b ≠ q:=fun b k hk z=>by subst z; exact (ok.is _ _ hk).2.1 hq
  refine ⟨⟨fun b k hk=>?_⟩,fun j s hs=>?_⟩
  · by_cases hb:b = q
    · subst hb; exact ⟨R.sub.free hq,by rw [upd_same]; exact (fun z=>by cases z),.inl (R.al _ hq)⟩
    · rw [owSet_ne hb] at hk
      obtain ⟨h1,h2,h3⟩:=ok.is b k hk
      exact ⟨h1,upd_some h2,h3⟩
  · exact (gh j s hs).keep (Same.refl _) (fun b f z=>by rw [owSet_ne (hne _ _ z)]; exact z) fun b f u z q=>by rw [upd_ne (hne _ _ z)]; exact q
theorem fldOf_inv {C i:Nat} {d:D} (h:fldOf C i f δ = some d):∃ h0 fs,δ[i]? = some (.ob h0 C fs)∧fs.lookup f = some (.sh d):=by
  unfold fldOf at h
  split at h
  · rename_i h0 C' fs e
    split at h
    · rename_i ec
      subst ec
      split at h
      · rename_i d' e2; cases h; exact ⟨h0,fs,e,e2⟩
      · cases h
    · cases h
  · cases h
theorem fewOf_inv {C i:Nat} (h:fewOf C i δ = true):∃ h0 fs,δ[i]? = some (.ob h0 C fs)∧fs.length < 999:=by
  unfold fewOf at h
  split at h
  · rename_i h0 C' fs e
    simp only [Bool.and_eq_true,decide_eq_true_eq] at h
    obtain ⟨rfl,h⟩:=h
    exact ⟨h0,fs,e,h⟩
  · cases h
theorem putAt_of {h0:Option Nat} {C:Nat} (e:δ[i]? = some (.ob h0 C fs)) (s:Fl):putAt i f s δ = δ.set i (.ob h0 C (putFl f s fs)):=by
  unfold putAt; rw [e]
theorem Rel.putV (R:Rel K n δ σ G H) {h0:Option Nat} {C:Nat} {d:D} (e:δ[i]? = some (.ob h0 C fs)) (hv:Den K G v d):∃ a dx vfs,σ[i]? = some (some (.ref a))∧H a = some (.ins C dx vfs)∧vfs.length = fs.length ∧
    Rel K n (δ.set i (.ob h0 C (putFl f (.sh d) fs))) σ G (upd H a (.ins C dx (putF f v vfs))):=by
  obtain ⟨ow,ok,gh⟩:=R.gh
  obtain ⟨a,dx,vfs,g1,g2,g3,g4,g5,g6,g7⟩:=gh i _ e
  refine ⟨a,dx,vfs,g1,g3,by have:=congrArg List.length g7.keys; simpa using this,R.updOwn ok gh g5 ⟨a,dx,_,g1,g2,upd_same,?_,g5,g6,?_⟩⟩
  · rw [upd_ne (fun z=>by subst z; rw [g3] at g4; cases g4)]; exact g4
  · refine FsW.put (g7.keepL fun p f o z no q=>?_) hv
    rw [upd_ne (fun z=>by subst z; rw [g3] at q; cases q; exact no _ _ _ rfl)]; exact q
end
noncomputable def lX (K:PySem.W.Frag) (t:TXd):TE:=fun σ H Q2=>∃ (n:En) (δ:Ev) (G:Hp) (Q:D→Prop),Rel K n δ σ G H∧t δ Q∧∀ (v:V) (G' H':Hp) (d:D),Ext G H G' H'→Den K G' v d→Q d→Q2 v H'
theorem lX.el {K:PySem.W.Frag} {t:TXd} {σ H Q2} {P:Prop} (x:lX K t σ H Q2) (k:∀ (n:En) (δ:Ev) (G:Hp) (Q:D→Prop),(Rel K n δ σ G H)→(t δ Q)→(∀ (v:V) (G' H':Hp) (d:D),Ext G H G' H'→Den K G' v d→Q d→Q2 v H')→P):P:=by
  obtain ⟨n,δ,G,Q,h0,h1,h2⟩:=x
  exact k n δ G Q h0 h1 h2
noncomputable abbrev DX (X:Cx) (e:Expr) (t:TXd):Prop:=PE X e (lX X.K t)
section
variable {X:Cx} {a b e:Expr} {es:List Expr} {ta tb te:TXd} {t:TXA} {pos:Pos} {C:Addr} {f:Str}
theorem dx_de (h:DX X e te):DE X e (dX te):=pe_imp h fun σ H Q2 hx=>hx.el fun n δ G Q R h k=>⟨n,δ,G,_,R,h,fun v G' H' d x dv q=>k v G' H' d δ (R.ext x) x.gg dv q⟩
theorem dx_var (i:Nat) {x:Str} {pos:Pos} (hN:autoParam (X.N[i]? = some x) ZA.a3._auto_1) (hv:autoParam (Vis X.env.scope x) ZA.a5._auto_1) (hd:autoParam ((x == ("__debug__":Str)) = false) ZA.a2._auto_1)
    (hcd:autoParam ((x == ("__classdict__":Str)) = false) ZA.a2._auto_1):DX X (.Name x pos) (xVar i) :=
  pe_imp (pe_var hN hv hd hcd) fun σ H Q2 hx=>hx.el fun n δ G Q R h k=>by
    unfold xVar at h
    split at h
    · rename_i d e
      obtain ⟨v,h1,h2⟩:=R.sl i _ e
      exact ⟨v,h1,k v G H d (Ext.refl R.sub) h2 h⟩
    · exact h.elim
theorem dx_fld (i:Nat) {x:Str} {np:Pos} (c:Cls X.K C) (na:NoAttr X.K C f) (hN:autoParam (X.N[i]? = some x) ZA.a3._auto_1) (hv:autoParam (Vis X.env.scope x) ZA.a5._auto_1)
    (hd:autoParam ((x == ("__debug__":Str)) = false) ZA.a2._auto_1) (hcd:autoParam ((x == ("__classdict__":Str)) = false) ZA.a2._auto_1) (hb:autoParam (attributeBase (.Name x np) f X.env (eval (.Name x np) X.env) = eval (.Name x np) X.env) ZA.a3._auto_1):DX X (.Attribute (.Name x np) f pos) (xFld C i f) :=
  pe_imp (pe_fld (pe_var hN hv hd hcd) hb) fun σ H Q2 hx=>hx.el fun n δ G Q R h k=>by
    unfold xFld at h
    split at h
    · rename_i d e
      obtain ⟨h0,fs,e1,e2⟩:=fldOf_inv e
      obtain ⟨a,dx,vfs,g1,g2,g3,g4,ow,i',g5⟩:=R.sl i _ e1
      obtain ⟨v,k1,k2⟩:=g5.at_ f _ e2
      exact ⟨.ref a,g1,a,C,dx,vfs,v,rfl,g3,c,na,k1,k v G H d (Ext.refl R.sub) k2 h⟩
    · exact h.elim
theorem ds_setF (i:Nat) {x:Str} {np tp:Pos} {tv:TEd} (c:Cls X.K C) (na:NoAttr X.K C f) (he:DE X e tv) (hN:autoParam (X.N[i]? = some x) ZA.a3._auto_1) (hv:autoParam (Vis X.env.scope x) ZA.a5._auto_1)
    (hd:autoParam ((x == ("__debug__":Str)) = false) ZA.a2._auto_1) (hcd:autoParam ((x == ("__classdict__":Str)) = false) ZA.a2._auto_1) (hs:autoParam (swapsWith e (some (.Attribute (.Name x np) f tp)) pos.line X.env = pure false) ZA.a3._auto_1) :
    DS X (.Assign [.Attribute (.Name x np) f tp] e pos) (dSetF C i f tv) :=
  ps_imp (ps_fld (pe_var hN hv hd hcd) he hs) fun F σ H hx=>hx.el fun n δ G E R h k=>⟨n,δ,G,_,R,h,fun v G1 H1 d δ1 R1 s1 d1 zz60=>zz60.elim fun h1 h2=>by
    obtain ⟨h0,fs,e1,lt⟩:=fewOf_inv h1
    obtain ⟨a,dx,vfs,g1,g2,g3,R2⟩:=R1.putV (f:=f) e1 d1
    rw [putAt_of e1] at h2
    exact ⟨.ref a,g1,a,C,dx,vfs,rfl,g2,c,na,by omega,k.nx _ σ G1 _ R2 h2⟩⟩
end
theorem make_core {K:PySem.W.Frag} {n:En} {δ1:Ev} {σ:L2.St} {G1 H1:Hp} {vs:List V} {ds:List D} {S:SpO} {y dy C:Addr} {Qf:Nat→List (Str × Fl)→Prop} {Q2:Hp→Prop} (i:Nat) (R1:Rel K n δ1 σ G1 H1) (d1:DenL K G1 vs ds) (hy:H1 y = none) (hdy:H1 dy = none) (ne:dy ≠ y)
    (h1:S (.o C [] :: ds.map .v) fun d outs=>match d,outs with
      | .non,.o C' fs :: _=>Qf C' fs
      | _,_=>False)
    (k:∀ C' fs G2 H2,Same G1 G2→Rel K n (δ1.set i (.ob none C' fs)) (σ.set i (some (.ref y))) G2 H2→Qf C' fs→Q2 H2):spO K S (.ref y :: vs) (upd (upd H1 dy (.own y)) y (.ins C dy [])) (fun v H2=>v = .non∧Q2 H2) E0:=by
  have nd:(upd H1 dy (.own y)) y = none:=by rw [upd_ne (Ne.symm ne)]; exact hy
  have R2:Rel K n δ1 σ G1 (upd H1 dy (.own y)):=R1.other (R1.sub.free hdy) (R1.al _ hdy) hdy _
  have R3:Rel K n δ1 σ G1 (upd (upd H1 dy (.own y)) y (.ins C dy [])):=R2.other (R2.sub.free nd) (R2.al _ nd) nd _
  have hown:∀ p,(owSet (owSet (fun _=>none) dy (some (0,("":Str)))) y (some (0,("":Str)))) p ≠ none→p = y∨p = dy:=fun p hp=>by
    by_cases h1:p = y
    · exact .inl h1
    · rw [owSet_ne h1] at hp
      by_cases h2:p = dy
      · exact .inr h2
      · rw [owSet_ne h2] at hp; exact absurd rfl hp
  have h1none:∀ p,p = y∨p = dy→H1 p = none:=fun p hp=>by
    rcases hp with rfl | rfl
    · exact hy
    · exact hdy
  refine ⟨G1,_,_,owSet (owSet (fun _=>none) dy (some (0,("":Str)))) y (some (0,("":Str))),R3.sub,by simp [d1.length],⟨fun k a v ka kv=>?_⟩,fun p k hp=>?_,h1,fun v G2 H2 d outs ow' e2 dv w2 o2 q2=>?_⟩
  · cases k with
    | zero =>
      simp only [List.getElem?_cons_zero,Option.some.injEq] at ka kv
      subst ka kv
      exact ⟨y,dy,[],rfl,upd_same,by rw [upd_ne ne]; exact upd_same,owSet_same,by rw [owSet_ne ne]; exact owSet_same,⟨rfl,fun f s z=>by cases z⟩⟩
    | succ k =>
      simp only [List.getElem?_cons_succ,List.getElem?_map] at ka kv
      cases q:ds[k]? with
      | none=>rw [q] at ka; cases ka
      | some d =>
        rw [q] at ka; cases ka
        obtain ⟨v',g1,g2⟩:=d1.get q
        rw [kv] at g1; cases g1
        exact g2
  · have hp':=hown p (fun z=>by rw [z] at hp; cases hp)
    refine ⟨R1.sub.free (h1none p hp'),?_⟩
    rcases hp' with rfl | rfl
    · rw [upd_same]; exact fun z=>by cases z
    · rw [upd_ne ne,upd_same]; exact fun z=>by cases z
  · show v = .non∧Q2 H2
    cases outs with
    | nil=>cases d <;> exact q2.elim
    | cons a0 outs =>
      cases a0 with
      | o C' fs =>
        cases d with
        | non =>
          refine ⟨dv.non_inv,?_⟩
          obtain ⟨a1,a2,a3,a4,a5⟩:=R3.after e2 (fun p hp=>.inl (R1.al p (h1none p (hown p hp))))
          obtain ⟨ow,ok,gh⟩:=R1.gh
          obtain ⟨a,dx,vfs,g1,g2,g3,g4,g5,g6⟩:=w2.at_ 0 _ _ rfl rfl
          cases g1
          have owN:∀ p jf,ow p = some jf→ow' p = none∧H2 p = H1 p∧G2 p = none:=fun p jf z=>by
            obtain ⟨h1,h2,h3⟩:=ok.is p jf z
            have np:¬ (p = y∨p = dy):=fun w=>h2 (h1none p w)
            have h3p:(upd (upd H1 dy (.own y)) y (.ins C dy [])) p = H1 p:=by rw [upd_ne (fun w=>np (.inl w)),upd_ne (fun w=>np (.inr w))]
            refine ⟨?_,?_,?_⟩
            · cases q:ow' p with
              | none=>rfl
              | some kf =>
                obtain ⟨j1,j2,j3⟩:=o2 p kf q
                rcases j3 with j3 | j3
                · rw [h3p] at j3; exact absurd j3 h2
                · exact absurd (hown p j3) np
            · cases q:H1 p with
              | none=>exact absurd q h2
              | some u=>exact e2.hh p u (by rw [h3p]; exact q) fun w=>np (hown p w)
            · cases q:G2 p with
              | none=>rfl
              | some u=>have:=e2.fr p u q h1; rw [h3p] at this; exact absurd this h2
          refine k C' fs G2 H2 e2.gg ⟨a1,a2,a3,a4,a5,⟨fun p=>match ow' p with
            | some (0,f)=>some (i,f)
            | some _=>none
            | none=>ow p,⟨fun p jf hj=>?_⟩,fun j s hs=>?_⟩,by rw [List.length_set,List.length_set]; exact R1.len⟩ q2
          · cases q:ow' p with
            | some kf =>
              obtain ⟨j1,j2,j3⟩:=o2 p kf q
              refine ⟨j1,j2,.inl ?_⟩
              rcases j3 with j3 | j3
              · exact R3.al p j3
              · exact R1.al p (h1none p (hown p j3))
            | none =>
              simp only [q] at hj
              obtain ⟨h1,h2,h3⟩:=ok.is p jf hj
              obtain ⟨_,n2,n3⟩:=owN p jf hj
              exact ⟨n3,by rw [n2]; exact h2,h3⟩
          · have hO:∀ p f,ow' p = some (0,f)→(match ow' p with | some (0,f)=>some (i,f) | some _=>none | none=>ow p) = some (i,f):=fun p f z=>by simp only [z]
            rcases set_get hs with ⟨e,rfl,hl⟩ | ⟨e,hs⟩
            · subst e
              exact ⟨_,dx,vfs,List.getElem?_set_self (Nat.lt_of_lt_of_le hl (Nat.le_of_eq R1.len)),(fun a0 z=>by cases z),g2,g3,hO _ _ g4,hO _ _ g5,g6.keep (Same.refl _) hO fun _ _ _ _ z=>z⟩
            · rw [List.getElem?_set_ne e]
              refine (gh j s hs).keep e2.gg (fun p f z=>?_) fun p f u z q=>?_
              · simp only [(owN p _ z).1]; exact z
              · rw [(owN p _ z).2.1]; exact q
        | _=>exact q2.elim
      | _=>cases d <;> exact q2.elim
theorem ds_make {X:Cx} (i:Nat) {x cn:Str} {p pos pos' cpos:Pos} {e:Expr} {es:List Expr} {t:TAd} {S:SpO} {k:Nat} {f C:Addr} {fd:FuncData} {ps:List Str} (hN:X.N.Nodup) (M:Mk X.K C f) (F:FnOk X.prog X.w X.K X.mg X.base CX0 k f fd ps (spO X.K S)) (hr:Room (k + 1) X.A) (hm:X.mg cn = some (.ref C)) (hb:Binds X.K fd ps [])
    (ha:DA X (e :: es) t) (hi:autoParam (X.N[i]? = some x) ZA.a3._auto_1) (hx:autoParam (Loc X.env.scope x) ZA.a6._auto_1) (hs:autoParam (swapsWith (.Call (.Name cn p) (e :: es) [] cpos) (some (.Name x pos')) pos.line X.env = pure false) ZA.a3._auto_1)
    (hf:autoParam (X.fn x = true∨X.env.scope.names.lookup x = some .local) ZA.a1._auto_1) (hg:autoParam (Gl X cn) ZA.a3._auto_1) (hdb:autoParam ((cn == ("__debug__":Str)) = false) ZA.a2._auto_1)
    (he:autoParam (starEach (e :: es) X.env = (false,eval e X.env) :: starEach es X.env) ZA.a3._auto_1) (hpl:autoParam ((backTo cpos (starEach es X.env)).any (·.1) = false) ZA.a3._auto_1) :
    DS X (.Assign [.Name x pos'] (.Call (.Name cn p) (e :: es) [] cpos) pos) (dMake i C S t) :=
  ps_imp (ps_set (i:=i) hN hi hx (pe_make M F hr hg hm hb .nil pass0 ha hdb he hpl) hs hf) fun F σ H hx=>hx.el fun n δ G E R h k=>⟨n,δ,G,_,R,h,fun vs G1 H1 ds δ1 R1 s1 d1 h1 y dy hy hdy ne=>by
    show spO X.K S (.ref y :: (vs ++ [])) _ _ E0
    rw [List.append_nil]
    exact make_core i R1 d1 hy hdy ne h1 fun C' fs G2 H2 s2 R2 q=>k.nx _ _ G2 H2 R2 q⟩
end Dl
namespace Dl
open PySem PySem.Spec PyProof.Rows L2
section
variable {X:Cx} {e:Expr} {te:TXd} {pos:Pos} {C:Addr} {f:Str}
end
end Dl
namespace L2
open PySem PySem.Spec PyProof.Rows
section
variable {κ:Type} [DecidableEq κ]
noncomputable def valV (kvs:List (κ × V)) (k:κ):Option V:=(kvs.find? fun kv=>decide (kv.1 = k)).map (·.2)
noncomputable def putK (kvs:List (κ × V)) (k:κ) (v:V):List (κ × V) :=
  if (kvs.any fun kv=>decide (kv.1 = k)) = true then kvs.map (fun kv=>if kv.1 = k then (kv.1,v) else kv) else kvs ++ [(k,v)]
noncomputable def dropK (kvs:List (κ × V)) (k:κ):List (κ × V):=kvs.filter fun kv=>decide (kv.1 ≠ k)
theorem valV_pos {p:κ × V} {r:List (κ × V)} {k:κ} (e:p.1 = k):valV (p :: r) k = some p.2:=by simp [valV,List.find?_cons,e]
theorem valV_neg {p:κ × V} {r:List (κ × V)} {k:κ} (e:¬ p.1 = k):valV (p :: r) k = valV r k:=by simp [valV,List.find?_cons,e]
theorem valV_any (k:κ):∀ kvs:List (κ × V),(kvs.any fun kv=>decide (kv.1 = k)) = (valV kvs k).isSome
  | []=>rfl
  | p :: r=>by
    rw [List.any_cons]
    by_cases e:p.1 = k
    · simp only [valV_pos e,decide_eq_true e,Bool.true_or,Option.isSome_some]
    · rw [valV_neg e,decide_eq_false e,Bool.false_or]; exact valV_any k r
theorem length_putK (kvs:List (κ × V)) (k:κ) (v:V):(putK kvs k v).length ≤ kvs.length + 1:=by
  unfold putK
  split
  · rw [List.length_map]; omega
  · rw [List.length_append,List.length_cons,List.length_nil]; omega
theorem RelO.isSome_eq {o:Option V} {u:Option Value} (r:RelO o u):o.isSome = u.isSome:=by
  cases o with
  | none=>cases u with
    | none=>rfl
    | some _=>exact (show False from r).elim
  | some _=>cases u with
    | none=>exact (show False from r).elim
    | some _=>rfl
theorem KV.val {kvs:List (κ × V)} {vs:List (κ × Value)} (r:KV kvs vs) (k:κ):RelO (valV kvs k) (valueAt vs k):=by
  unfold KV at r
  induction r with
  | nil=>exact True.intro
  | @cons p q ps qs h t ih =>
    obtain ⟨h1,h2⟩:=h
    by_cases e:p.1 = k
    · have e':q.1 = k:=h1.symm.trans e
      have b:valueAt (q :: qs) k = some q.2:=by simp [valueAt,List.find?_cons,e']
      rw [valV_pos e,b]; exact h2
    · have e':¬ q.1 = k:=fun z=>e (h1.trans z)
      have b:valueAt (q :: qs) k = valueAt qs k:=by simp [valueAt,List.find?_cons,e']
      rw [valV_neg e,b]; exact ih
theorem KV.any {kvs:List (κ × V)} {vs:List (κ × Value)} (r:KV kvs vs) (k:κ):(kvs.any fun kv=>decide (kv.1 = k)) = vs.any fun kv=>decide (kv.1 = k):=by
  unfold KV at r
  induction r with
  | nil=>rfl
  | cons h t ih=>rw [List.any_cons,List.any_cons,ih,h.1]
theorem KV.repl {kvs:List (κ × V)} {vs:List (κ × Value)} (r:KV kvs vs) (k:κ) {y:V} {u:Value} (ry:RelV y u) :
    KV (kvs.map fun kv=>if kv.1 = k then (kv.1,y) else kv) (vs.map fun kv=>if kv.1 = k then (kv.1,u) else kv):=by
  unfold KV at r ⊢
  induction r with
  | nil=>exact .nil
  | @cons p q ps qs h t ih =>
    rw [List.map_cons,List.map_cons]
    refine .cons ?_ ih
    obtain ⟨h1,h2⟩:=h
    by_cases e:p.1 = k
    · rw [if_pos e,if_pos (h1.symm.trans e)]; exact ⟨h1,ry⟩
    · rw [if_neg e,if_neg (fun z=>e (h1.trans z))]; exact ⟨h1,h2⟩
theorem KV.put {kvs:List (κ × V)} {vs:List (κ × Value)} (r:KV kvs vs) (k:κ) {y:V} {u:Value} (ry:RelV y u):KV (putK kvs k y) (stored vs k u):=by
  unfold putK stored
  rw [r.any k]
  by_cases e:(vs.any fun kv=>decide (kv.1 = k)) = true
  · rw [if_pos e,if_pos e]; exact r.repl k ry
  · rw [if_neg e,if_neg e]; exact Paired.snoc r ⟨rfl,ry⟩
theorem KV.drop {kvs:List (κ × V)} {vs:List (κ × Value)} (r:KV kvs vs) (k:κ):KV (dropK kvs k) (without vs k):=by
  unfold KV at r ⊢
  unfold dropK without
  induction r with
  | nil=>exact .nil
  | @cons p q ps qs h t ih =>
    obtain ⟨h1,h2⟩:=h
    rw [List.filter_cons,List.filter_cons]
    by_cases e:p.1 = k
    · have a:¬ decide (p.1 ≠ k) = true:=by simp [e]
      have b:¬ decide (q.1 ≠ k) = true:=by simp [h1.symm.trans e]
      rw [if_neg a,if_neg b]; exact ih
    · have e':¬ q.1 = k:=fun z=>e (h1.trans z)
      have a:decide (p.1 ≠ k) = true:=by simp [e]
      have b:decide (q.1 ≠ k) = true:=by simp [e']
      rw [if_pos a,if_pos b]; exact .cons ⟨h1,h2⟩ ih
theorem KV.keys {kvs:List (κ × V)} {vs:List (κ × Value)} (r:KV kvs vs):kvs.map (·.1) = vs.map (·.1):=by
  unfold KV at r
  induction r with
  | nil=>rfl
  | cons h t ih=>rw [List.map_cons,List.map_cons,ih,h.1]
theorem KV.length {kvs:List (κ × V)} {vs:List (κ × Value)} (r:KV kvs vs):kvs.length = vs.length:=Paired.length r
theorem dropK_le (kvs:List (κ × V)) (k:κ):(dropK kvs k).length ≤ kvs.length:=List.length_filter_le _ _
end
theorem kV_is {P:Program} {w:World} {k:Key} {u:Value} (r:RelV (kV k) u):(mixKind P w).is k u = true:=by
  cases k with
  | inl i=>obtain ⟨t,e⟩:=(show ∃ t,u = Value.int i t from r); subst e; exact mixKind_int P w i t
  | inr x=>obtain ⟨t,e⟩:=(show ∃ t,u = Value.str x t from r); subst e; exact mixKind_str P w x t
theorem items_are {P:Program} {w:World}:∀ {ks:List Key} {us:List Value},Vals (ks.map kV) us→ItemsAre (mixKind P w) ks us
  | [],_,r=>by rw [List.map_nil] at r; cases r; exact .nil
  | k :: ks,_,r=>by
    rw [List.map_cons] at r
    cases r with
    | cons h t=>exact .cons (kV_is h) (items_are t)
noncomputable abbrev KT (H:Hp):List (List Key × V)→List (List Key × Addr × Value)→Prop:=Paired fun p q=>p.1 = q.1∧H q.2.1 = some (.tup (p.1.map kV))∧RelV p.2 q.2.2
theorem KT.val {H:Hp} {kvs:List (List Key × V)} {xs:List (List Key × Addr × Value)} (r:KT H kvs xs) (k:List Key):RelO (valV kvs k) ((atKey xs k).map (·.2)):=by
  induction r with
  | nil=>exact True.intro
  | @cons p q ps qs h t ih =>
    obtain ⟨h1,_,h2⟩:=h
    by_cases e:p.1 = k
    · have e':q.1 = k:=h1.symm.trans e
      have b:atKey (q :: qs) k = some q.2:=by simp [atKey,List.find?_cons,e']
      rw [valV_pos e,b]; exact h2
    · have e':¬ q.1 = k:=fun z=>e (h1.trans z)
      have b:atKey (q :: qs) k = atKey qs k:=by simp [atKey,List.find?_cons,e']
      rw [valV_neg e,b]; exact ih
theorem KT.repl {H:Hp} {kvs:List (List Key × V)} {xs:List (List Key × Addr × Value)} (r:KT H kvs xs) (k:List Key) {y:V} {u:Value} (ry:RelV y u) :
    KT H (kvs.map fun kv=>if kv.1 = k then (kv.1,y) else kv) (xs.map (putAt k u)):=by
  induction r with
  | nil=>exact .nil
  | @cons p q ps qs h t ih =>
    rw [List.map_cons,List.map_cons]
    refine .cons ?_ ih
    obtain ⟨h1,h2,h3⟩:=h
    unfold putAt
    by_cases e:p.1 = k
    · rw [if_pos e,if_pos (h1.symm.trans e)]; exact ⟨h1,h2,ry⟩
    · rw [if_neg e,if_neg (fun z=>e (h1.trans z))]; exact ⟨h1,h2,h3⟩
theorem KT.put {H:Hp} {kvs:List (List Key × V)} {xs:List (List Key × Addr × Value)} (r:KT H kvs xs) (k:List Key) {b:Addr} {y:V} {u:Value} (hb:H b = some (.tup (k.map kV))) (ry:RelV y u) :
    KT H (putK kvs k y) (storedH xs k b u):=by
  have e:(kvs.any fun kv=>decide (kv.1 = k)) = (atKey xs k).isSome:=by
    rw [valV_any,(r.val k).isSome_eq,Option.isSome_map]
  unfold putK storedH
  rw [e]
  by_cases q:(atKey xs k).isSome = true
  · rw [if_pos q,if_pos q]; exact r.repl k ry
  · rw [if_neg q,if_neg q]; exact Paired.snoc r ⟨rfl,hb,ry⟩
theorem KT.keeps {H H':Hp} {kvs:List (List Key × V)} {xs:List (List Key × Addr × Value)} (r:KT H kvs xs) (ht:∀ b ys,H b = some (.tup ys)→H' b = some (.tup ys)):KT H' kvs xs :=
  Paired.mapP r fun _ _ z=>⟨z.1,ht _ _ z.2.1,z.2.2⟩
section
variable {P:Program} {w:World} {H:Hp} {h:Heap} {a:Addr}
theorem rd_of {u:HO} (ok:HOk P w H h) (e:Rd H a u):ObjOk P w H h a u:=e.ok ok
theorem dk_rd {kvs:List (Key × V)} (ok:HOk P w H h) (e:Rd H a (.dK kvs)):kvs.length ≤ sizeLine∧(a == sysModules) = false∧∃ vs,KV kvs vs∧h.DictOf (mixKind P w) a vs :=
  show ObjOk P w H h a (.dK kvs) from rd_of ok e
theorem dk_of {kvs:List (Key × V)} (ok:HOk P w H h) (e:H a = some (.dK kvs)):kvs.length ≤ sizeLine∧(a == sysModules) = false∧∃ vs,KV kvs vs∧h.DictOf (mixKind P w) a vs:=dk_rd ok (.inl e)
theorem key_of {ks:List Key} (ok:HOk P w H h) (e:H a = some (.tup (ks.map kV))):(tupleKind (mixKind P w)).is h ks a:=by
  obtain ⟨_,its,r,o,h1,h2,n,h3⟩:=(show ObjOk P w H h a (.tup (ks.map kV)) from ok a _ e)
  exact ⟨o,its.toArray,n,h1,h2,h3,by simpa using items_are r⟩
theorem dt_rd {kvs:List (List Key × V)} (ok:HOk P w H h) (e:Rd H a (.dT kvs)):kvs.length ≤ sizeLine∧(a == sysModules) = false ∧
    ∃ xs,KT H kvs xs∧h.DictOfH (tupleKind (mixKind P w)) a xs:=by
  obtain ⟨z,y,xs,r,o,es,ep,h1,h2,h3,h4,h5⟩:=(show ObjOk P w H h a (.dT kvs) from rd_of ok e)
  refine ⟨z,y,xs,r,o,es,ep,h1,h2,h3,h4,fun x hx=>?_,h5⟩
  have all:∀ {l:List (List Key × V)} {m:List (List Key × Addr × Value)},KT H l m→∀ x ∈ m,(tupleKind (mixKind P w)).is h x.1 x.2.1:=by
    intro l m q
    induction q with
    | nil=>intro x hx; exact nomatch hx
    | @cons p q ps qs hq t ih =>
      intro x hx
      rcases List.mem_cons.mp hx with e | hx
      · subst e
        exact key_of ok (by rw [← hq.1]; exact hq.2.1)
      · exact ih x hx
  exact all r x hx
theorem dt_of {kvs:List (List Key × V)} (ok:HOk P w H h) (e:H a = some (.dT kvs)):kvs.length ≤ sizeLine∧(a == sysModules) = false ∧
    ∃ xs,KT H kvs xs∧h.DictOfH (tupleKind (mixKind P w)) a xs:=dt_rd ok (.inl e)
end
noncomputable def DGet (H:Hp) (a:Addr) (y:V) (r:Option V):Prop :=
  (∃ kvs k,Rd H a (.dK kvs)∧y = kV k∧r = valV kvs k)∨∃ kvs k b,Rd H a (.dT kvs)∧y = .ref b∧H b = some (.tup (k.map kV))∧r = valV kvs k
noncomputable def DPut (H:Hp) (a:Addr) (y v:V) (H':Hp):Prop :=
  (∃ kvs k,H a = some (.dK kvs)∧y = kV k∧kvs.length < sizeLine∧H' = upd H a (.dK (putK kvs k v))) ∨
  ∃ kvs k b,H a = some (.dT kvs)∧y = .ref b∧H b = some (.tup (k.map kV))∧kvs.length < sizeLine∧H' = upd H a (.dT (putK kvs k v))
theorem DGet.k {H:Hp} {a:Addr} {kvs:List (Key × V)} {k:Key} (e:H a = some (.dK kvs)):DGet H a (kV k) (valV kvs k):=.inl ⟨kvs,k,.inl e,rfl,rfl⟩
theorem DPut.k {H:Hp} {a:Addr} {kvs:List (Key × V)} {k:Key} {v:V} (e:H a = some (.dK kvs)) (hl:kvs.length < sizeLine):DPut H a (kV k) v (upd H a (.dK (putK kvs k v))):=.inl ⟨kvs,k,e,rfl,hl,rfl⟩
section
variable {X:Cx} {pins:List (Addr × Obj)} {σ:St} {H:Hp} {s:Shared} {a:Addr} {y v:V} {u r:Value} {o:Option V} {A:Around} {E:Value→Shared→Prop}
theorem Inv.big (I:Inv X pins σ H s):sysModules < s.heap.objs.size:=by
  have h:mainGlobals < s.heap.objs.size:=(I.mod.glob.keeps I.bk).lt
  exact Nat.lt_trans (by decide) h
theorem d_getItem {Q:Value→Shared→Prop} (hu:A.units + 1 < cLine) (I:Inv X pins σ H s) (g:DGet H a y (some v)) (ry:RelV y u) (h:∀ w' s',Inv X pins σ H s'→RelV v w'→Q w' s') :
    wpAny (model X.prog X.w) A (getItem (.ref a) u) Q E s:=by
  rcases g with ⟨kvs,k,e,ey,l⟩ | ⟨kvs,k,b,e,ey,eb,l⟩
  · subst ey
    obtain ⟨z,hd,vs,rel,dd⟩:=dk_rd I.hok e
    obtain ⟨w',hw,rw'⟩:=RelO.some_of (v:=v) (o:=valueAt vs k) (by rw [l]; exact rel.val k)
    exact wpAny_getItem_of (kV_is ry) dd.mapOf hw (h w' _ (I.tok _) rw')
  · subst ey
    cases (show u = Value.ref b from ry)
    obtain ⟨z,hd,xs,rel,dd⟩:=dt_rd I.hok e
    obtain ⟨w',hw,rw'⟩:=RelO.some_of (v:=v) (o:=(atKey xs k).map (·.2)) (by rw [l]; exact rel.val k)
    obtain ⟨p,hp,hp2⟩:=Option.map_eq_some_iff.mp hw
    refine wpAny_getItem_heap (tupleKind_room_in1 hu) (key_of I.hok eb) dd hp ?_
    rw [hp2]
    exact h w' _ (I.tok _) rw'
theorem d_notIn {Q:Value→Shared→Prop} (hu:A.units + 1 < cLine) (I:Inv X pins σ H s) (g:DGet H a y o) (ry:RelV y u) (h:∀ s',Inv X pins σ H s'→Q (.bool (!o.isSome)) s') :
    wpAny (model X.prog X.w) A (compareOp .NotIn u (.ref a)) Q E s:=by
  rcases g with ⟨kvs,k,e,ey,l⟩ | ⟨kvs,k,b,e,ey,eb,l⟩
  · subst ey
    obtain ⟨z,hd,vs,rel,dd⟩:=dk_rd I.hok e
    refine wpAny_notIn_of (kV_is ry) hd dd.mapOf ?_
    rw [← (rel.val k).isSome_eq,← l]
    exact h _ (I.tok _)
  · subst ey
    cases (show u = Value.ref b from ry)
    obtain ⟨z,hd,xs,rel,dd⟩:=dt_rd I.hok e
    refine wpAny_notIn_heap (tupleKind_room_in1 hu) (key_of I.hok eb) hd dd ?_
    have q:=(rel.val k).isSome_eq
    rw [Option.isSome_map] at q
    rw [← q,← l]
    exact h _ (I.tok _)
theorem d_write {h':Heap} {t':Nat} {ob:HO} (I:Inv X pins σ H s) (mu:Mut (H a)) (hs:Heap.SameBut a s.heap h') (he:∃ q,h'.get? a = some q) (new:ObjOk X.prog X.w (upd H a ob) h' a ob) :
    Inv X pins σ (upd H a ob) { s with heap:=h',toks:=t' } :=
  I.write (x:=a) (e:=a) mu (.inl rfl) (fun b q hb z=>(hs.2 b hb).trans z) he new
theorem dk_new {P:Program} {w:World} {H':Hp} {h':Heap} {kvs:List (Key × V)} {vs:List (Key × Value)} (z:kvs.length ≤ sizeLine) (hd:(a == sysModules) = false) (rel:KV kvs vs) (dd:h'.DictOf (mixKind P w) a vs) :
    ObjOk P w H' h' a (.dK kvs):=⟨z,hd,vs,rel,dd⟩
theorem d_setItem {H':Hp} {Q:Unit→Shared→Prop} (hu:A.units + 1 < cLine) (I:Inv X pins σ H s) (g:DPut H a y v H') (ry:RelV y u) (rv:RelV v r) (h:∀ s',Inv X pins σ H' s'→Q () s') :
    wpAny (model X.prog X.w) A (setItem (.ref a) u r) Q E s:=by
  rcases g with ⟨kvs,k,e,ey,l,eH⟩ | ⟨kvs,k,b,e,ey,eb,l,eH⟩
  · subst ey eH
    obtain ⟨z,hd,vs,rel,dd⟩:=dk_of I.hok e
    have hz:vs.length ≤ sizeLine:=by rw [← rel.length]; exact z
    have hl:(putK kvs k v).length ≤ sizeLine:=by have:=length_putK kvs k v; omega
    refine wpAny_setItem_pairs (hsz:=hz) (kV_is ry) dd fun h' dd' hs=>h _ ?_
    have he:∃ q,h'.get? a = some q:=let ⟨q,_,_,hq,_⟩:=dd'; ⟨q,hq⟩
    exact d_write I (by rw [e]; exact True.intro) hs he (dk_new hl hd (rel.put k rv) dd')
  · subst ey eH
    cases (show u = Value.ref b from ry)
    obtain ⟨z,hd,xs,rel,dd⟩:=dt_of I.hok e
    have hz:xs.length ≤ sizeLine:=by rw [← Paired.length rel]; exact z
    have hl:(putK kvs k v).length ≤ sizeLine:=by have:=length_putK kvs k v; omega
    refine wpAny_setItem_heap (hsz:=hz) (tupleKind_room_in1 hu) (key_of I.hok eb) dd fun h' dd' hs=>h _ ?_
    obtain ⟨q,es,ep,hq,h2,h3,h4,_,h5⟩:=dd'
    refine d_write I (by rw [e]; exact True.intro) hs ⟨q,hq⟩ ⟨hl,hd,_,(rel.put k eb rv).keeps fun c ys ec=>?_,q,es,ep,hq,h2,h3,h4,h5⟩
    rw [upd_ne (ne_of ec e (fun z=>nomatch z))]
    exact ec
end
section
variable {X:Cx} {pins:List (Addr × Obj)} {σ:St} {H:Hp} {s:Shared} {a:Addr} {kvs:List (Key × V)} {k:Key} {u:Value} {A:Around} {E:Value→Shared→Prop}
theorem d_pop {v:V} {more:List Value} {Q:Value→Shared→Prop} (I:Inv X pins σ H s) (e:H a = some (.dK kvs)) (ry:RelV (kV k) u) (l:valV kvs k = some v) (hm:more = []∨∃ x,more = [x])
    (h:∀ w' s',Inv X pins σ (upd H a (.dK (dropK kvs k))) s'→RelV v w'→Q w' s'):wpAny (model X.prog X.w) A (call (.builtin "dict.pop") (.ref a :: u :: more)) Q E s:=by
  obtain ⟨z,hd,vs,rel,dd⟩:=dk_of I.hok e
  obtain ⟨w',hw,rw'⟩:=RelO.some_of (v:=v) (o:=valueAt vs k) (by rw [← l]; exact rel.val k)
  have hp:(keyPart u).isSome = true:=by
    cases k with
    | inl i=>obtain ⟨t,q⟩:=(show ∃ t,u = Value.int i t from ry); subst q; rfl
    | inr x=>obtain ⟨t,q⟩:=(show ∃ t,u = Value.str x t from ry); subst q; rfl
  have ha:argsOk "dict.pop" ⟨.ref a :: u :: more,[]⟩:=by
    rcases hm with q | ⟨x,q⟩
    · subst q; exact PySem.F.args_dict_pop_2 _ _
    · subst q; exact PySem.F.args_dict_pop_3 _ _ _
  refine call_meetsIn PySem.F.slot_dict_pop dd.typeIs PySem.F.entry_dict_pop ha (meets_dict_pop_there (mixKind X.prog X.w) a (kV_is ry) more hm hp)
    ⟨vs,w',dd,by rw [← rel.length]; exact z,hw,fun h' dd' hs=>h w' _ ?_ rw'⟩
  have he:∃ q,h'.get? a = some q:=let ⟨q,_,_,hq,_⟩:=dd'; ⟨q,hq⟩
  exact d_write I (by rw [e]; exact True.intro) hs he (dk_new (Nat.le_trans (dropK_le kvs k) z) hd (rel.drop k) dd')
end
noncomputable def NoSl (i:Expr):Prop:=∀ ov iv,subscripted i false ov iv = operate [ov,iv] (getItem ov iv)
theorem subD_of {prog:Program} {w:World} {A:Around} {E:Value→Shared→Prop} {s:Shared} {env:Env} {value slice:Expr} {pos:Pos} {T id:String} {Q:Value→Shared→Prop}
    (hl:typeLookup (.type T) "__getitem__" = pure (some (.builtin id))) (hs:NoSl slice)
    (h:wpAny (model prog w) A (eval value env) (fun o s₁=>wpAny (model prog w) A (eval slice env) (fun i s₂=>s₂.TypeIs o T∧wpAny (model prog w) A (getItem o i) Q E s₂) E s₁) E s) :
    wpAny (model prog w) A (eval (.Subscript value slice pos) env) Q E s:=by
  refine Subscript_ (wpAny_mono h (fun o s₁ h₁=>wpAny_mono h₁ (fun i s₂ h₂=>?_) fun _ _ x=>x) fun _ _ x=>x)
  obtain ⟨hT,h₂⟩:=h₂
  unfold subscriptTail
  refine wpAny_bind ?_
  rw [getitemInPython_of_ne hT.not_modules]
  refine wpAny_bind (wpAny_specialOf hT hl ?_)
  have fin:wpAny (model prog w) A (subscripted slice false o i) (fun r s₃=>wpAny (model prog w) A (letTemporaryGo value o r >>= fun _=>pure r) Q E s₃) E s₂:=by
    rw [hs o i]
    exact wpAny_operating (wpAny_mono h₂ (fun r s₃ h₃=>wpAny_bind (wpAny_letTemporaryGo (wpAny_pure h₃))) fun _ _ x=>x)
  first
    | exact wpAny_pure (wpAny_bind fin)
    | exact wpAny_bind (wpAny_pure (wpAny_bind fin))
    | exact wpAny_bind fin
theorem dict_typeIs {X:Cx} {pins:List (Addr × Obj)} {σ:St} {H:Hp} {s:Shared} {a:Addr} {y:V} {o:Option V} (I:Inv X pins σ H s) (g:DGet H a y o):s.TypeIs (.ref a) "dict":=by
  rcases g with ⟨kvs,k,e,_,_⟩ | ⟨kvs,k,b,e,_,_,_⟩
  · obtain ⟨_,_,vs,_,dd⟩:=dk_rd I.hok e
    exact dd.typeIs
  · obtain ⟨_,_,xs,_,dd⟩:=dt_rd I.hok e
    exact dd.typeIs
noncomputable def tDGet (td ty:TE):TE:=fun σ H Q=>td σ H fun x H1=>ty σ H1 fun y H2=>∃ a v,x = .ref a∧DGet H2 a y (some v)∧Q v H2
noncomputable def sDPut (td ty tv:TE):TS:=fun D σ H=>tv σ H fun v H1=>td σ H1 fun x H2=>ty σ H2 fun y H3=>∃ a H4,x = .ref a∧DPut H3 a y v H4∧D.nx σ H4
section
variable {X:Cx} {o i e value:Expr} {pos pos' tpos:Pos} {td ty tv:TE}
theorem pe_dget (hu:X.A.units + 1 < cLine) (ho:PE X o td) (hi:PE X i ty) (hs:NoSl i):PE X (.Subscript o i pos) (tDGet td ty):=by
  intro pins s σ H Q I h
  refine subD_of PySem.F.slot_dict_getitem.lookup hs (thn (ho pins s σ H _ I h) fun u s1 zz61=>zz61.elim fun x zz=>zz.elim fun H1 zz=>zz.elim fun I1 zz=>zz.elim fun rx q1=>thn (hi pins s1 σ H1 _ I1 q1) fun iv s2 zz62=>zz62.elim fun y zz=>zz.elim fun H2 zz=>zz.elim fun I2 zz=>zz.elim fun ry zz=>zz.elim fun a zz=>zz.elim fun v zz=>zz.elim fun ex zz=>zz.elim fun g q2=>?_)
  subst ex
  obtain rfl : u = Value.ref a:=rx
  exact ⟨dict_typeIs I2 g,d_getItem hu I2 g ry fun w' s3 I3 rw'=>⟨v,H2,I3,rw',q2⟩⟩
theorem ps_dput (hu:X.A.units + 1 < cLine) (ho:PE X o td) (hi:PE X i ty) (hv:PE X value tv) (hs:swapsWith value (some (.Subscript o i pos')) pos.line X.env = pure false) :
    PS X (.Assign [.Subscript o i pos'] value pos) (sDPut td ty tv):=by
  intro pins s σ H D I h
  refine wpAny_Assign_Subscript (thn (hv pins s σ H _ I h) fun r s1 zz63=>zz63.elim fun v zz=>zz.elim fun H1 zz=>zz.elim fun I1 zz=>zz.elim fun rv q1=>thn (ho pins s1 σ H1 _ I1 q1) fun u s2 zz64=>zz64.elim fun x zz=>zz.elim fun H2 zz=>zz.elim fun I2 zz=>zz.elim fun rx q2=>thn (hi pins s2 σ H2 _ I2 q2) fun iv s3 zz65=>zz65.elim fun y zz=>zz.elim fun H3 zz=>zz.elim fun I3 zz=>zz.elim fun ry zz=>zz.elim fun a zz=>zz.elim fun H4 zz=>zz.elim fun ex zz=>zz.elim fun g q3=>?_) hs
  subst ex
  obtain rfl : u = Value.ref a:=rx
  exact d_setItem hu I3 g ry rv fun s4 I4=>⟨σ,H4,I4,q3⟩
end
theorem dk_empty {P:Program} {w:World} {H:Hp} (h:Heap) (hb:sysModules < h.objs.size):ObjOk P w H (h.push { cls:=.type "dict",data:=.dict #[] }) h.objs.size (.dK []) :=
  ⟨Nat.zero_le _,beq_eq_false_iff_ne.mpr (Ne.symm (Nat.ne_of_lt hb)),[],.nil,Heap.DictOf.new h⟩
noncomputable def tDNewK:TE:=fun _ H Q=>∀ p,H p = none→Q (.ref p) (upd H p (.dK []))
section
variable {X:Cx} {pos:Pos}
theorem pe_dnewK:PE X (.Dict [] [] pos) tDNewK:=fun pins s σ H Q I h =>
  wpAny_Dict_empty ⟨.ref s.heap.objs.size,_,I.laid (a:=s.heap.objs.size) (o:=.dK []) (t':=s.toks) (fun _ _ q=>Heap.get?_push_of_some _ q) (Nat.le_refl _) (dk_empty s.heap I.big),rfl,h _ (I.hok.fresh (Nat.le_refl _))⟩
end
structure M1 (X:Cx) (o:Expr) (m:Str) (apos:Pos) (e:Expr) (cpos:Pos):Prop where
  base:attributeBase o m X.env (eval o X.env) = eval o X.env
  few:((backTo cpos (starEach [e] X.env)).all (fun x=>!x.1) && (backToKw cpos (keywordEach [] X.env)).all (fun x=>x.1.isSome)
    && decide (([e]:List Expr).length + ([]:List Keyword).length + (if ([]:List Keyword).isEmpty then 0 else 1) < 30)) = true
  line:(apos.endLine == cpos.line) = true
  trees:backTo cpos (starEach [e] X.env) = [(false,eval e X.env)]
noncomputable def IsD (H:Hp) (a:Addr):Prop:=(∃ kvs,Rd H a (.dK kvs))∨∃ kvs,Rd H a (.dT kvs)
theorem isD_at {X:Cx} {pins:List (Addr × Obj)} {σ:St} {H:Hp} {s:Shared} {a:Addr} (I:Inv X pins σ H s) (d:IsD H a) :
    s.TypeIs (.ref a) "dict"∧(∀ b,Value.ref a = .ref b→∃ ob,s.heap.get? b = some ob∧ob.dict = none)∧(a == sysModules) = false:=by
  rcases d with ⟨kvs,e⟩ | ⟨kvs,e⟩
  · obtain ⟨_,hd,vs,_,dd⟩:=dk_rd I.hok e
    refine ⟨dd.typeIs,fun b q=>?_,hd⟩
    cases q
    obtain ⟨ob,_,_,h1,h2,_⟩:=dd
    exact ⟨ob,h1,h2.2.1⟩
  · obtain ⟨_,hd,xs,_,dd⟩:=dt_rd I.hok e
    refine ⟨dd.typeIs,fun b q=>?_,hd⟩
    cases q
    obtain ⟨ob,_,_,h1,h2,_⟩:=dd
    exact ⟨ob,h1,h2.2.1⟩
section
variable {X:Cx} {pins:List (Addr × Obj)} {σ:St} {H:Hp} {s:Shared} {a:Addr} {y d:V} {u r:Value} {o:Option V} {A:Around} {E:Value→Shared→Prop}
end
noncomputable def tDPop1 (td ty:TE):TE:=fun σ H Q=>td σ H fun x H1=>∃ a,x = .ref a∧IsD H1 a∧ty σ H1 fun y H2=>∃ kvs k v,H2 a = some (.dK kvs)∧y = kV k∧valV kvs k = some v∧Q v (upd H2 a (.dK (dropK kvs k)))
section
variable {X:Cx} {o e f:Expr} {apos cpos:Pos} {td ty tx:TE}
theorem pe_dpop1 (ho:PE X o td) (he:PE X e ty) (m:M1 X o "pop" apos e cpos):PE X (.Call (.Attribute o "pop" apos) [e] [] cpos) (tDPop1 td ty):=by
  intro pins s σ H Q I h
  refine wpAny_Call_method m.base m.few m.line PySem.F.plainAttrs_dict PySem.F.slot_dict_pop PySem.F.type_dict_pop (thn (ho pins s σ H _ I h) fun u s1 zz66=>zz66.elim fun x zz=>zz.elim fun H1 zz=>zz.elim fun I1 zz=>zz.elim fun rx zz=>zz.elim fun a zz=>zz.elim fun ex zz=>zz.elim fun d q1=>?_)
  subst ex
  obtain rfl : u = Value.ref a:=rx
  obtain ⟨t1,t2,_⟩:=isD_at I1 d
  refine ⟨t1,t2,?_⟩
  rw [m.trees]
  refine Calls.callWith_builtin rfl (Calls.evalArgs_plain (Calls.spliced_cons (thn (he pins s1 σ H1 _ I1 q1) fun iv s2 zz67=>zz67.elim fun y zz=>zz.elim fun H2 zz=>zz.elim fun I2 zz=>zz.elim fun ry zz=>zz.elim fun kvs zz=>zz.elim fun k zz=>zz.elim fun v zz=>zz.elim fun ea zz=>zz.elim fun ey zz=>zz.elim fun l q2=>Calls.spliced_nil ?_)))
  subst ey
  exact d_pop I2 ea ry l (.inl rfl) fun w' s3 I3 rw'=>⟨v,_,I3,rw',q2⟩
end
section
variable {X:Cx} {pins:List (Addr × Obj)} {σ:St} {H:Hp} {s:Shared} {a:Addr} {kvs:List (Key × V)} {A:Around} {E:Value→Shared→Prop}
end
section
variable {X:Cx} {pins:List (Addr × Obj)} {σ:St} {H:Hp} {s:Shared} {a:Addr} {y:V} {u:Value} {A:Around} {E:Value→Shared→Prop}
end
end L2
namespace Dl
open PySem PySem.Spec PyProof.Rows L2
noncomputable def valD (kvs:List (Key × D)) (k:Key):Option D:=(kvs.find? fun kv=>decide (kv.1 = k)).map (·.2)
noncomputable def putD (kvs:List (Key × D)) (k:Key) (d:D):List (Key × D) :=
  if (kvs.any fun kv=>decide (kv.1 = k)) = true then kvs.map (fun kv=>if kv.1 = k then (kv.1,d) else kv) else kvs ++ [(k,d)]
noncomputable def dropD (kvs:List (Key × D)) (k:Key):List (Key × D):=kvs.filter fun kv=>decide (kv.1 ≠ k)
noncomputable def keyD:D→Option Key
  | .int i=>some (.inl i)
  | .str x=>some (.inr x)
  | _=>none
noncomputable def dK:Key→D
  | .inl i=>.int i
  | .inr x=>.str x
section
variable {K:PySem.W.Frag} {G G':Hp} {vs:List (Key × V)} {ds:List (Key × D)} {k:Key}
theorem DenK.length (h:DenK K G vs ds):vs.length = ds.length:=by
  induction h with
  | nil=>rfl
  | cons _ _ ih=>simp [ih]
theorem DenK.val {d:D} (h:DenK K G vs ds) (e:valD ds k = some d):∃ v,valV vs k = some v∧Den K G v d:=by
  induction h with
  | nil=>cases e
  | @cons k' v' d' r s a _ ih =>
    by_cases z:k' = k
    · have e1:valD ((k',d') :: s) k = some d':=by simp [valD,z]
      rw [e1] at e; cases e
      exact ⟨v',by simp [valV,z],a⟩
    · have e1:valD ((k',d') :: s) k = valD s k:=by simp [valD,List.find?_cons,z]
      rw [e1] at e
      obtain ⟨v,h1,h2⟩:=ih e
      exact ⟨v,by rw [show valV ((k',v') :: r) k = valV r k by simp [valV,List.find?_cons,z]]; exact h1,h2⟩
theorem DenK.isSome (h:DenK K G vs ds):(valV vs k).isSome = (valD ds k).isSome:=by
  induction h with
  | nil=>rfl
  | @cons k' v' d' r s a _ ih =>
    by_cases z:k' = k
    · rw [show valD ((k',d') :: s) k = some d' by simp [valD,z],show valV ((k',v') :: r) k = some v' by simp [valV,z]]; rfl
    · rw [show valD ((k',d') :: s) k = valD s k by simp [valD,List.find?_cons,z],show valV ((k',v') :: r) k = valV r k by simp [valV,List.find?_cons,z]]; exact ih
theorem DenK.any (h:DenK K G vs ds):(vs.any fun kv=>decide (kv.1 = k)) = ds.any fun kv=>decide (kv.1 = k):=by
  induction h with
  | nil=>rfl
  | cons a _ ih=>simp only [List.any_cons,ih]
theorem DenK.append {vs':List (Key × V)} {ds':List (Key × D)} (h:DenK K G vs ds) (h':DenK K G vs' ds'):DenK K G (vs ++ vs') (ds ++ ds'):=by
  induction h with
  | nil=>exact h'
  | cons a _ ih=>exact .cons a ih
theorem DenK.repl {v:V} {d:D} (h:DenK K G vs ds) (hv:Den K G v d):DenK K G (vs.map fun kv=>if kv.1 = k then (kv.1,v) else kv) (ds.map fun kv=>if kv.1 = k then (kv.1,d) else kv):=by
  induction h with
  | nil=>exact .nil
  | @cons k' v' d' r s a _ ih =>
    rw [List.map_cons,List.map_cons]
    by_cases z:k' = k
    · rw [if_pos z,if_pos z]; exact .cons hv ih
    · rw [if_neg z,if_neg z]; exact .cons a ih
theorem DenK.put {v:V} {d:D} (h:DenK K G vs ds) (hv:Den K G v d):DenK K G (L2.putK vs k v) (putD ds k d):=by
  unfold L2.putK putD
  rw [h.any (k:=k)]
  split
  · exact h.repl hv
  · exact h.append (.cons hv .nil)
theorem DenK.drop (h:DenK K G vs ds):DenK K G (dropK vs k) (dropD ds k):=by
  unfold dropK dropD
  induction h with
  | nil=>exact .nil
  | @cons k' v' d' r s a _ ih =>
    by_cases z:k' = k
    · rw [List.filter_cons_of_neg (by simp [z]),List.filter_cons_of_neg (by simp [z])]; exact ih
    · rw [List.filter_cons_of_pos (by simp [z]),List.filter_cons_of_pos (by simp [z])]; exact .cons a ih
theorem DenK.get {i:Nat} {kv:Key × V} (h:DenK K G vs ds) (e:vs[i]? = some kv):∃ d,ds[i]? = some (kv.1,d)∧Den K G kv.2 d:=by
  induction h generalizing i with
  | nil=>simp at e
  | @cons k' v' d' r s a _ ih =>
    cases i with
    | zero=>simp at e; subst e; exact ⟨d',rfl,a⟩
    | succ i=>exact ih (by simpa using e)
theorem keyD_den {v:V} {d:D} (h:Den K G v d) (e:keyD d = some k):v = kV k:=by
  cases h <;> simp [keyD] at e <;> subst e <;> rfl
theorem den_dK:Den K G (kV k) (dK k):=by
  cases k
  · exact .int _
  · exact .str _
end
noncomputable def dctOf (C i:Nat) (f:Str) (δ:Ev):Option (List (Key × D)):=match δ[i]? with
  | some (.ob _ C' fs)=>if C' = C then (match fs.lookup f with
    | some (.dc l)=>some l
    | _=>none) else none
  | _=>none
noncomputable def dctR (C i:Nat) (f:Str) (δ:Ev):Option (List (Key × D)):=match δ[i]? with
  | some (.ob _ C' fs)=>if C' = C then (match fs.lookup f with
    | some (.dc l)=>some l
    | some (.fz _ l)=>some l
    | _=>none) else none
  | _=>none
section
variable {K:PySem.W.Frag} {n:En} {G H G' H':Hp} {ow ow':Ow} {i i':Nat} {f:Str} {v:V} {s:Fl} {vfs:List (Str × V)} {fs:List (Str × Fl)} {δ:Ev} {σ:L2.St} {p q:Addr} {o:HO}
theorem dctOf_inv {C i:Nat} {l:List (Key × D)} (h:dctOf C i f δ = some l):∃ h0 fs,δ[i]? = some (.ob h0 C fs)∧fs.lookup f = some (.dc l):=by
  unfold dctOf at h
  split at h
  · rename_i h0 C' fs e
    split at h
    · rename_i ec
      subst ec
      split at h
      · rename_i d' e2; cases h; exact ⟨h0,fs,e,e2⟩
      · cases h
    · cases h
  · cases h
theorem dctR_inv {C i:Nat} {l:List (Key × D)} (h:dctR C i f δ = some l):∃ h0 fs,δ[i]? = some (.ob h0 C fs)∧(fs.lookup f = some (.dc l)∨∃ q,fs.lookup f = some (.fz q l)):=by
  unfold dctR at h
  split at h
  · rename_i h0 C' fs e
    split at h
    · rename_i ec
      subst ec
      split at h
      · rename_i d' e2; cases h; exact ⟨h0,fs,e,.inl e2⟩
      · rename_i q d' e2; cases h; exact ⟨h0,fs,e,.inr ⟨q,e2⟩⟩
      · cases h
    · cases h
  · cases h
theorem FsW.own {s0 s1:Fl} {o':HO} (h:FsW K G H ow i vfs fs) (hf:fs.lookup f = some s0) (hq:vfs.lookup f = some (.ref q)) (ho:ow q = some (i,f)) (hd:FlW K G (upd H q o') ow i f (.ref q) s1):FsW K G (upd H q o') ow i vfs (putFl f s1 fs):=by
  refine ⟨?_,fun g s' e=>?_⟩
  · rw [keysFl_put,Dl.putK_mem,h.keys]
    cases hm:fs.find? (fun p=>f == p.1) with
    | none =>
      have:=List.find?_eq_none.mp hm
      have:fs.lookup f = none:=List.lookup_eq_none_iff.mpr fun p hp=>by simpa using this p hp
      rw [hf] at this; cases this
    | some p =>
      have h1:=List.mem_of_find?_eq_some hm
      have h2:=List.find?_some hm
      exact List.mem_map.mpr ⟨p,h1,(beq_iff_eq.mp h2).symm⟩
  · rw [lookup_putFl] at e
    by_cases z:g = f
    · rw [if_pos z] at e
      cases e
      subst z
      exact ⟨.ref q,hq,hd⟩
    · rw [if_neg z] at e
      obtain ⟨v,h1,h2⟩:=h.at_ g s' e
      refine ⟨v,h1,?_⟩
      cases s' with
      | sh d=>exact h2
      | ow m =>
        obtain ⟨r,ws,g1,g2,g3,g4⟩:=h2
        have:r ≠ q:=fun w=>by subst w; rw [ho] at g3; cases g3; exact z rfl
        exact ⟨r,ws,g1,by rw [upd_ne this]; exact g2,g3,g4⟩
      | dc m =>
        obtain ⟨r,ws,g1,g2,g3,g4⟩:=h2
        have:r ≠ q:=fun w=>by subst w; rw [ho] at g3; cases g3; exact z rfl
        exact ⟨r,ws,g1,by rw [upd_ne this]; exact g2,g3,g4⟩
      | fz q' m=>exact h2
theorem Rel.putDk (R:Rel K n δ σ G H) {h0:Option Nat} {C:Nat} (e:δ[i]? = some (.ob h0 C fs)) (hq:H q = none):∃ a dx vfs,σ[i]? = some (some (.ref a))∧(upd H q (.dK [])) a = some (.ins C dx vfs)∧vfs.length = fs.length ∧
    Rel K n (δ.set i (.ob h0 C (putFl f (.dc []) fs))) σ G (upd (upd H q (.dK [])) a (.ins C dx (putF f (.ref q) vfs))):=by
  obtain ⟨ow,ok,gh⟩:=R.gh
  have R1:Rel K n δ σ G (upd H q (.dK [])):=R.other (R.sub.free hq) (R.al _ hq) hq _
  obtain ⟨ok1,gh1⟩:=own_new R ok gh hq i f (.dK [])
  obtain ⟨a,dx,vfs,g1,g2,g3,g4,g5,g6,g7⟩:=gh1 i _ e
  have qa:q ≠ a:=fun z=>by subst z; rw [upd_same] at g3; cases g3
  refine ⟨a,dx,vfs,g1,g3,by have:=congrArg List.length g7.keys; simpa using this,R1.updOwn ok1 gh1 g5 ⟨a,dx,_,g1,g2,upd_same,?_,g5,g6,?_⟩⟩
  · rw [upd_ne (fun z=>by subst z; rw [g3] at g4; cases g4)]; exact g4
  · refine FsW.put (g7.keepL fun p f o z no q=>?_) ⟨q,[],rfl,?_,owSet_same,.nil⟩
    · rw [upd_ne (fun z=>by subst z; rw [g3] at q; cases q; exact no _ _ _ rfl)]; exact q
    · rw [upd_ne qa]; exact upd_same
theorem Rel.fldDict (R:Rel K n δ σ G H) {h0:Option Nat} {C:Nat} {l:List (Key × D)} (e:δ[i]? = some (.ob h0 C fs)) (hl:fs.lookup f = some (.dc l)):∃ a dx vfs q vs,σ[i]? = some (some (.ref a))∧H a = some (.ins C dx vfs)∧vfs.lookup f = some (.ref q)∧H q = some (.dK vs)∧DenK K G vs l ∧
    ∀ (G' H':Hp) (vs':List (Key × V)) (l':List (Key × D)),Ext G H G' H'→DenK K G' vs' l'→Rel K n (δ.set i (.ob h0 C (putFl f (.dc l') fs))) σ G' (upd H' q (.dK vs')):=by
  obtain ⟨ow,ok,gh⟩:=R.gh
  obtain ⟨a,dx,vfs,g1,g2,g3,g4,g5,g6,g7⟩:=gh i _ e
  obtain ⟨w,k1,q,vs,rfl,k2,k3,k4⟩:=g7.at_ f _ hl
  refine ⟨a,dx,vfs,q,vs,g1,g3,k1,k2,k4,fun G' H' vs' l' x hd=>?_⟩
  have ok':OwOk n G' H' ow:=⟨fun p k hk=>by
    obtain ⟨h1,h2,h3⟩:=ok.is p k hk
    refine ⟨?_,same_some x.hh h2,h3⟩
    cases q:G' p with
    | none=>rfl
    | some w=>exact absurd (x.fr p w q h1) h2⟩
  have gh':∀ (i:Nat) (s:Sl),δ[i]? = some s→SlW K n G' H' ow i σ[i]? s:=fun i s hs=>(gh i s hs).keep x.gg (fun _ _ z=>z) fun p f u _ z=>x.hh p u z
  refine (R.ext x).updOwn ok' gh' k3 ⟨a,dx,vfs,g1,g2,?_,?_,g5,g6,?_⟩
  · rw [upd_ne (fun z=>by subst z; rw [g3] at k2; cases k2)]; exact x.hh _ _ g3
  · rw [upd_ne (fun z=>by subst z; rw [g4] at k2; cases k2)]; exact x.hh _ _ g4
  · exact (g7.keep x.gg (fun _ _ z=>z) fun p f u _ z=>x.hh p u z).own hl k1 k3 ⟨q,vs',rfl,upd_same,k3,hd⟩
theorem Rel.rdDict (R:Rel K n δ σ G H) {C:Nat} {l:List (Key × D)} (h:dctR C i f δ = some l):∃ a dx vfs q vs,σ[i]? = some (some (.ref a))∧H a = some (.ins C dx vfs)∧vfs.lookup f = some (.ref q)∧Rd H q (.dK vs)∧DenK K G vs l:=by
  obtain ⟨h0,fs,e1,e2⟩:=dctR_inv h
  obtain ⟨ow,ok,gh⟩:=R.gh
  obtain ⟨a,dx,vfs,g1,g2,g3,g4,g5,g6,g7⟩:=gh i _ e1
  rcases e2 with e2 | ⟨q,e2⟩
  · obtain ⟨w,k1,q,vs,rfl,k2,k3,k4⟩:=g7.at_ f _ e2
    exact ⟨a,dx,vfs,q,vs,g1,g3,k1,.inl k2,k4⟩
  · obtain ⟨w,k1,ob,vs,rfl,k2,k3⟩:=g7.at_ f _ e2
    exact ⟨a,dx,vfs,q,vs,g1,g3,k1,.inr ⟨ob,R.sub _ _ k2⟩,k3⟩
end
theorem units1d {k:Nat} {A:Around} (r:Room k A):A.units + 1 < cLine:=by have:=r.un; omega
noncomputable def dSetD (C i:Nat) (f:Str):TSd:=fun E δ=>fewOf C i δ = true∧E.nx (putAt i f (.dc []) δ)
noncomputable def xDGet (C i:Nat) (f:Str) (tx:TXd):TXd:=fun δ Q=>match dctR C i f δ with
  | some l=>tx δ fun z=>∃ k d,keyD z = some k∧valD l k = some d∧Q d
  | none=>False
noncomputable def dDPut (C i:Nat) (f:Str) (tx tz:TXd):TSd:=fun E δ=>match dctOf C i f δ with
  | some l=>tx δ fun d=>tz δ fun z=>∃ k,keyD z = some k∧l.length < sizeLine∧E.nx (putAt i f (.dc (putD l k d)) δ)
  | none=>False
noncomputable def dDPop (C i:Nat) (f:Str) (tz:TXd):TSd:=fun E δ=>match dctOf C i f δ with
  | some l=>tz δ fun z=>∃ k d,keyD z = some k∧valD l k = some d∧E.nx (putAt i f (.dc (dropD l k)) δ)
  | none=>False
noncomputable def dDIn (b:Bool) (C i:Nat) (f:Str) (tx:TXd):TTd:=fun δ Q=>match dctR C i f δ with
  | some l=>tx δ fun z=>∃ k,keyD z = some k∧Q (b == (valD l k).isSome) δ
  | none=>False
section
variable {X:Cx} {a b e z:Expr} {es:List Expr} {ta tb te tz:TXd} {pos:Pos} {C:Addr} {f:Str}
theorem ds_setD (i:Nat) {x:Str} {np tp lp:Pos} (c:Cls X.K C) (na:NoAttr X.K C f) (hN:autoParam (X.N[i]? = some x) ZA.a3._auto_1) (hv:autoParam (Vis X.env.scope x) ZA.a5._auto_1)
    (hd:autoParam ((x == ("__debug__":Str)) = false) ZA.a2._auto_1) (hcd:autoParam ((x == ("__classdict__":Str)) = false) ZA.a2._auto_1) (hs:autoParam (swapsWith (.Dict [] [] lp) (some (.Attribute (.Name x np) f tp)) pos.line X.env = pure false) ZA.a3._auto_1) :
    DS X (.Assign [.Attribute (.Name x np) f tp] (.Dict [] [] lp) pos) (dSetD C i f) :=
  ps_imp (ps_fld (pe_var hN hv hd hcd) pe_dnewK hs) fun F σ H zz68=>zz68.elim fun n zz=>zz.elim fun δ zz=>zz.elim fun G zz=>zz.elim fun E zz=>zz.elim fun R zz=>zz.elim fun zz69 k=>zz69.elim fun h2 h3=>fun p hp=>by
    obtain ⟨h0,fs,e1,lt⟩:=fewOf_inv h2
    obtain ⟨a,dx,vfs,g1,g2,g3,R2⟩:=R.putDk (f:=f) e1 hp
    rw [putAt_of e1] at h3
    exact ⟨.ref a,g1,a,C,dx,vfs,rfl,g2,c,na,by omega,k.nx _ σ G _ R2 h3⟩
theorem dx_dget (i:Nat) {x:Str} {np fp:Pos} (hu:X.A.units + 1 < cLine) (c:Cls X.K C) (na:NoAttr X.K C f) (hz:DX X z tz) (hN:autoParam (X.N[i]? = some x) ZA.a3._auto_1) (hv:autoParam (Vis X.env.scope x) ZA.a5._auto_1)
    (hd:autoParam ((x == ("__debug__":Str)) = false) ZA.a2._auto_1) (hcd:autoParam ((x == ("__classdict__":Str)) = false) ZA.a2._auto_1) (hb:autoParam (attributeBase (.Name x np) f X.env (eval (.Name x np) X.env) = eval (.Name x np) X.env) ZA.a3._auto_1) (hs:NoSl z:=by exact fun _ _=>rfl) :
    DX X (.Subscript (.Attribute (.Name x np) f fp) z pos) (xDGet C i f tz) :=
  pe_imp (pe_dget hu (pe_fld (pe_var hN hv hd hcd) hb) hz hs) fun σ H Q2 hx=>hx.el fun n δ G Q R h k=>by
    unfold xDGet at h
    split at h
    · rename_i l el
      obtain ⟨a,dx,vfs,q,vs,g1,g2,g3,g4,g5⟩:=R.rdDict el
      refine ⟨.ref a,g1,a,C,dx,vfs,.ref q,rfl,g2,c,na,g3,n,δ,G,_,R,h,fun v G1 H1 d x1 d1 zz70=>zz70.elim fun kk zz=>zz.elim fun dd zz=>zz.elim fun e1 zz=>zz.elim fun e2 hq=>?_⟩
      obtain ⟨w,w1,w2⟩:=g5.val e2
      cases keyD_den d1 e1
      have g4':Rd H1 q (.dK vs):=by
        rcases g4 with g4 | ⟨ob,g4⟩
        · exact .inl (x1.hh _ _ g4)
        · exact .inr ⟨ob,x1.hh _ _ g4⟩
      exact ⟨q,w,rfl,.inl ⟨vs,kk,g4',rfl,w1.symm⟩,k _ G1 H1 _ x1 (w2.up x1.gg) hq⟩
    · exact h.elim
theorem ds_dput (i:Nat) {x:Str} {np fp sp:Pos} (hu:X.A.units + 1 < cLine) (c:Cls X.K C) (na:NoAttr X.K C f) (he:DX X e te) (hz:DX X z tz) (hN:autoParam (X.N[i]? = some x) ZA.a3._auto_1) (hv:autoParam (Vis X.env.scope x) ZA.a5._auto_1)
    (hd:autoParam ((x == ("__debug__":Str)) = false) ZA.a2._auto_1) (hcd:autoParam ((x == ("__classdict__":Str)) = false) ZA.a2._auto_1) (hb:autoParam (attributeBase (.Name x np) f X.env (eval (.Name x np) X.env) = eval (.Name x np) X.env) ZA.a3._auto_1)
    (hs:autoParam (swapsWith e (some (.Subscript (.Attribute (.Name x np) f fp) z sp)) pos.line X.env = pure false) ZA.a3._auto_1) :
    DS X (.Assign [.Subscript (.Attribute (.Name x np) f fp) z sp] e pos) (dDPut C i f te tz) :=
  ps_imp (ps_dput hu (pe_fld (pe_var hN hv hd hcd) hb) hz he hs) fun F σ H hx=>hx.el fun n δ G E R h k=>by
    unfold dDPut at h
    split at h
    · rename_i l el
      refine ⟨n,δ,G,_,R,h,fun v G1 H1 d x1 d1 h1=>?_⟩
      obtain ⟨h0,fs,e1,e2⟩:=dctOf_inv el
      obtain ⟨a,dx,vfs,q,vs,g1,g2,g3,g4,g5,g6⟩:=(R.ext x1).fldDict e1 e2
      refine ⟨.ref a,g1,a,C,dx,vfs,.ref q,rfl,g2,c,na,g3,n,δ,G1,_,R.ext x1,h1,fun v2 G2 H2 d2 x2 dd2 zz71=>zz71.elim fun kk zz=>zz.elim fun ek zz=>zz.elim fun hl h2=>?_⟩
      cases keyD_den dd2 ek
      rw [putAt_of e1] at h2
      exact ⟨q,_,rfl,DPut.k (x2.hh _ _ g4) (by rw [g5.length]; exact hl),k.nx _ σ G2 _ (g6 G2 H2 _ _ x2 ((g5.up x2.gg).put (d1.up x2.gg))) h2⟩
    · exact h.elim
theorem ds_dpop (i:Nat) {x:Str} {np fp ap cp:Pos} (c:Cls X.K C) (na:NoAttr X.K C f) (hz:DX X z tz) (hN:autoParam (X.N[i]? = some x) ZA.a3._auto_1) (hv:autoParam (Vis X.env.scope x) ZA.a5._auto_1)
    (hd:autoParam ((x == ("__debug__":Str)) = false) ZA.a2._auto_1) (hcd:autoParam ((x == ("__classdict__":Str)) = false) ZA.a2._auto_1) (hb:autoParam (attributeBase (.Name x np) f X.env (eval (.Name x np) X.env) = eval (.Name x np) X.env) ZA.a3._auto_1)
    (hs:autoParam (swapsWith (.Call (.Attribute (.Attribute (.Name x np) f fp) "pop" ap) [z] [] cp) none pos.line X.env = pure false) ZA.a3._auto_1)
    (m:M1 X (.Attribute (.Name x np) f fp) "pop" ap z cp:=by exact ⟨rfl,rfl,rfl,rfl⟩) :
    DS X (.Expr (.Call (.Attribute (.Attribute (.Name x np) f fp) "pop" ap) [z] [] cp) pos) (dDPop C i f tz) :=
  ps_imp (ps_expr (pe_dpop1 (pe_fld (pe_var hN hv hd hcd) hb) hz m) hs) fun F σ H hx=>hx.el fun n δ G E R h k=>by
    unfold dDPop at h
    split at h
    · rename_i l el
      obtain ⟨h0,fs,e1,e2⟩:=dctOf_inv el
      obtain ⟨a,dx,vfs,q,vs,g1,g2,g3,g4,g5,g6⟩:=R.fldDict e1 e2
      refine ⟨.ref a,g1,a,C,dx,vfs,.ref q,rfl,g2,c,na,g3,q,rfl,.inl ⟨vs,.inl g4⟩,n,δ,G,_,R,h,fun v G1 H1 d x1 d1 zz72=>zz72.elim fun kk zz=>zz.elim fun dd zz=>zz.elim fun ek zz=>zz.elim fun ev h2=>?_⟩
      cases keyD_den d1 ek
      obtain ⟨w,w1,w2⟩:=g5.val ev
      rw [putAt_of e1] at h2
      exact ⟨vs,kk,w,x1.hh _ _ g4,rfl,w1,k.nx _ σ G1 _ (g6 G1 H1 _ _ x1 ((g5.up x1.gg).drop)) h2⟩
    · exact h.elim
theorem op_dnotin (hu:X.A.units + 1 < cLine):OpR X (compareOp .NotIn) (fun x y H Q=>∃ a o,y = .ref a∧DGet H a x o∧Q (.bl (!o.isSome)) H):=by
  intro pins s σ H x y v u Q I rx ry ⟨a,o,e,g,q⟩
  subst e
  obtain rfl : u = Value.ref a:=ry
  exact d_notIn hu I g rx fun s3 I3=>⟨.bl (!o.isSome),H,I3,rfl,q⟩
theorem dt_dnotin (i:Nat) {x:Str} {np fp:Pos} (hu:X.A.units + 1 < cLine) (c:Cls X.K C) (na:NoAttr X.K C f) (hz:DX X z tz) (hN:autoParam (X.N[i]? = some x) ZA.a3._auto_1) (hv:autoParam (Vis X.env.scope x) ZA.a5._auto_1)
    (hd:autoParam ((x == ("__debug__":Str)) = false) ZA.a2._auto_1) (hcd:autoParam ((x == ("__classdict__":Str)) = false) ZA.a2._auto_1) (hb:autoParam (attributeBase (.Name x np) f X.env (eval (.Name x np) X.env) = eval (.Name x np) X.env) ZA.a3._auto_1) (hm:behindInMarks .NotIn (.Attribute (.Name x np) f fp) = false:=by first | exact nomark _ | rfl) :
    DT X (.Compare z [.NotIn] [.Attribute (.Name x np) f fp] pos) (dDIn false C i f tz) :=
  pt_imp (pt_cmpR (op_dnotin hu) hz (pe_fld (pe_var hN hv hd hcd) hb) hm) fun σ H Q2 hx=>hx.el fun n δ G Q R h k=>by
    unfold dDIn at h
    split at h
    · rename_i l el
      refine ⟨n,δ,G,_,R,h,fun v G1 H1 d x1 d1 zz73=>zz73.elim fun kk zz=>zz.elim fun ek hq=>?_⟩
      obtain ⟨a,dx,vfs,q,vs,g1,g2,g3,g4,g5⟩:=(R.ext x1).rdDict el
      cases keyD_den d1 ek
      refine ⟨.ref a,g1,a,C,dx,vfs,.ref q,rfl,g2,c,na,g3,q,valV vs kk,rfl,.inl ⟨vs,kk,g4,rfl,rfl⟩,_,rfl,?_⟩
      rw [g5.isSome (k:=kk)]
      have:(false == (valD l kk).isSome) = !(valD l kk).isSome:=by cases (valD l kk).isSome <;> rfl
      rw [this] at hq
      exact k _ G1 H1 δ (R.ext x1) x1.gg hq
    · exact h.elim
end
end Dl
namespace Dl
open PySem PySem.Spec PyProof.Rows L2
section
variable {X:Cx} {pins:List (Addr × Obj)} {σ:L2.St} {H:Hp} {s:Shared} {q:Addr} {kvs:List (Key × V)} {ob:Obj}
theorem Inv.frz (I:Inv X pins σ H s) (e:H q = some (.dK kvs)):∃ ob,Inv X pins σ (upd H q (.frz ob (.dK kvs))) s:=by
  obtain ⟨z,y,vs,r,ob,es,ep,eh,c⟩:=I.hok q _ e
  have ne:∀ b o,H b = some o→(∀ kvs,o ≠ .dK kvs)→b ≠ q:=fun b o eb no w=>by subst w; rw [e] at eb; cases eb; exact no _ rfl
  have nn:∀ b,H b = none→b ≠ q:=fun b eb w=>by subst w; rw [e] at eb; cases eb
  have st:∀ a o,H a = some o→ObjOk X.prog X.w (upd H q (.frz ob (.dK kvs))) s.heap a o:=fun a o ea =>
    (I.hok a o ea).stay (fun _ _ _ w=>w) (fun b w=>by rw [upd_ne (ne b _ w (fun _ z=>by cases z))]; exact w) fun b xs w=>by rw [upd_ne (ne b _ w (fun _ z=>by cases z))]; exact w
  refine ⟨ob,⟨I.ok,I.os,I.bare,⟨I.base.keep,I.base.slot,fun b o e1 n hx=>?_,I.base.there,fun b xs w=>?_,fun b o u w=>?_,fun b ps w=>?_⟩,I.loc,I.cell,?_,fun x c w=>?_,fun p hp=>?_,fun a o ea=>?_,I.len⟩⟩
  · have:=I.base.free b o e1 n hx
    rw [upd_ne (nn b this)]; exact this
  · have:=I.base.tups b xs w
    rw [upd_ne (ne b _ this (fun _ z=>by cases z))]; exact this
  · have:=I.base.frzs b o u w
    rw [upd_ne (ne b _ this (fun _ z=>by cases z))]; exact this
  · obtain ⟨more,this⟩:=I.base.tbls b ps w
    exact ⟨more,by rw [upd_ne (ne b _ this (fun _ z=>by cases z))]; exact this⟩
  · rw [upd_ne (nn _ I.free)]; exact I.free
  · have:=I.freeC x c w
    rw [upd_ne (nn _ this)]; exact this
  · obtain ⟨p1,p2,p3⟩:=I.pin p hp
    exact ⟨p1,by rw [upd_ne (nn _ p2)]; exact p2,p3⟩
  · by_cases ha:a = q
    · subst ha
      rw [upd_same] at ea; cases ea
      exact ⟨eh,st _ _ e⟩
    · rw [upd_ne ha] at ea
      exact st a o ea
theorem Inv.noFrz (I:Inv X pins σ H s) (e:H q = some (.dK kvs)):∀ o u,X.H₀ q ≠ some (.frz o u):=fun o u w=>by
  have:=I.base.frzs q o u w
  rw [e] at this; cases this
theorem Inv.thaw (I:Inv X pins σ H s) (e:H q = some (.frz ob (.dK kvs))) (nf:∀ o u,X.H₀ q ≠ some (.frz o u)):Inv X pins σ (upd H q (.dK kvs)) s:=by
  have ne:∀ b o,H b = some o→(∀ ob u,o ≠ .frz ob u)→b ≠ q:=fun b o eb no w=>by subst w; rw [e] at eb; cases eb; exact no _ _ rfl
  have nn:∀ b,H b = none→b ≠ q:=fun b eb w=>by subst w; rw [e] at eb; cases eb
  have st:∀ a o,ObjOk X.prog X.w H s.heap a o→ObjOk X.prog X.w (upd H q (.dK kvs)) s.heap a o:=fun a o ea =>
    ea.stay (fun _ _ _ w=>w) (fun b w=>by rw [upd_ne (ne b _ w (fun _ _ z=>by cases z))]; exact w) fun b xs w=>by rw [upd_ne (ne b _ w (fun _ _ z=>by cases z))]; exact w
  refine ⟨I.ok,I.os,I.bare,⟨I.base.keep,I.base.slot,fun b o e1 n hx=>?_,I.base.there,fun b xs w=>?_,fun b o u w=>?_,fun b ps w=>?_⟩,I.loc,I.cell,?_,fun x c w=>?_,fun p hp=>?_,fun a o ea=>?_,I.len⟩
  · have:=I.base.free b o e1 n hx
    rw [upd_ne (nn b this)]; exact this
  · have:=I.base.tups b xs w
    rw [upd_ne (ne b _ this (fun _ _ z=>by cases z))]; exact this
  · have:=I.base.frzs b o u w
    have hb:b ≠ q:=fun z=>by subst z; exact nf o u w
    rw [upd_ne hb]; exact this
  · obtain ⟨more,this⟩:=I.base.tbls b ps w
    exact ⟨more,by rw [upd_ne (ne b _ this (fun _ _ z=>by cases z))]; exact this⟩
  · rw [upd_ne (nn _ I.free)]; exact I.free
  · have:=I.freeC x c w
    rw [upd_ne (nn _ this)]; exact this
  · obtain ⟨p1,p2,p3⟩:=I.pin p hp
    exact ⟨p1,by rw [upd_ne (nn _ p2)]; exact p2,p3⟩
  · by_cases ha:a = q
    · subst ha
      rw [upd_same] at ea; cases ea
      exact st _ _ (I.hok _ _ e).2
    · rw [upd_ne ha] at ea
      exact st a o (I.hok a o ea)
end
noncomputable def sFrz (t:TS):TS:=fun F σ H=>∃ (q:Addr) (kvs:List (Key × V)),H q = some (.dK kvs)∧∀ ob,t ⟨fun σ' H'=>H' q = some (.frz ob (.dK kvs))∧F.nx σ' (upd H' q (.dK kvs)),fun _ _=>False,fun _ _=>False,fun _ _=>False⟩ σ (upd H q (.frz ob (.dK kvs)))
theorem ps_frz {X:Cx} {st:Stmt} {t:TS} (h:PS X st t):PS X st (sFrz t):=fun pins s σ H F I zz74=>zz74.elim fun q zz=>zz.elim fun kvs zz=>zz.elim fun e k=>by
  obtain ⟨ob,I1⟩:=Inv.frz I e
  refine wpAny_mono (h pins s σ _ _ I1 (k ob)) (fun f s1 hs=>?_) fun _ _ z=>z
  cases f with
  | next=>obtain ⟨σ',H',I',e',q'⟩:=hs; exact ⟨σ',_,Inv.thaw I' e' (Inv.noFrz I e),q'⟩
  | ret u=>obtain ⟨_,_,_,_,_,z⟩:=hs; exact z.elim
  | brk=>obtain ⟨_,_,_,z⟩:=hs; exact z.elim
  | cont=>obtain ⟨_,_,_,z⟩:=hs; exact z.elim
noncomputable def nfF:Fl→Bool
  | .fz _ _=>false
  | _=>true
noncomputable def nfS:Sl→Bool
  | .ob _ _ fs=>fs.all fun p=>nfF p.2
  | .rc _ fs=>fs.all fun p=>nfF p.2
  | _=>true
noncomputable def noFz (δ:Ev):Bool:=δ.all nfS
noncomputable abbrev frzN (n:En) (q:Addr) (o:HO):En:=⟨upd n.G q o,upd n.H q o,fun b=>n.M b∧b ≠ q⟩
section
variable {K:PySem.W.Frag} {n:En} {G H G' H':Hp} {ow ow':Ow} {i i':Nat} {f:Str} {v:V} {s:Fl} {vfs:List (Str × V)} {fs:List (Str × Fl)} {δ:Ev} {σ:L2.St} {p q:Addr} {o:HO} {ob:Obj} {kvs:List (Key × V)}
theorem sqT_del {a:Addr} {xs:List V} (hq:G q = some (.frz ob (.dK kvs))) (h:SqT K G a xs):SqT K (del G q) a xs:=by
  rcases h with (h | ⟨o,h⟩) | h
  · exact .inl (.inl (by rw [del_ne (fun z=>by subst z; rw [hq] at h; cases h)]; exact h))
  · exact .inl (.inr ⟨o,by rw [del_ne (fun z=>by subst z; rw [hq] at h; cases h)]; exact h⟩)
  · exact .inr h
theorem sqL_del {a:Addr} {xs:List V} (hq:G q = some (.frz ob (.dK kvs))) (h:SqL K G a xs):SqL K (del G q) a xs:=by
  rcases h with (h | ⟨o,h⟩) | h
  · exact .inl (.inl (by rw [del_ne (fun z=>by subst z; rw [hq] at h; cases h)]; exact h))
  · exact .inl (.inr ⟨o,by rw [del_ne (fun z=>by subst z; rw [hq] at h; cases h)]; exact h⟩)
  · exact .inr h
mutual
theorem Den.del (hq:G q = some (.frz ob (.dK kvs))):∀ {v:V} {d:D},Den K G v d→Den K (Dl.del G q) v d
  | _,_,.non=>.non
  | _,_,.bl b=>.bl b
  | _,_,.int i=>.int i
  | _,_,.str x=>.str x
  | _,_,.tup h l=>.tup (sqT_del hq h) (DenL.del hq l)
  | _,_,.lst h l=>.lst (sqL_del hq h) (DenL.del hq l)
theorem DenL.del (hq:G q = some (.frz ob (.dK kvs))):∀ {vs:List V} {ds:List D},DenL K G vs ds→DenL K (Dl.del G q) vs ds
  | _,_,.nil=>.nil
  | _,_,.cons h t=>.cons (Den.del hq h) (DenL.del hq t)
end
theorem DenK.del {vs:List (Key × V)} {ds:List (Key × D)} (hq:G q = some (.frz ob (.dK kvs))) (h:DenK K G vs ds):DenK K (Dl.del G q) vs ds:=by
  induction h with
  | nil=>exact .nil
  | cons a _ ih=>exact .cons (a.del hq) ih
theorem look_mem {β:Type} {f:Str} {s:β}:∀ {fs:List (Str × β)},fs.lookup f = some s→∃ g,(g,s) ∈ fs
  | [],h=>by cases h
  | (g,x) :: r,h=>by
    rw [List.lookup_cons] at h
    split at h
    · cases h; exact ⟨g,List.mem_cons_self⟩
    · obtain ⟨g',h'⟩:=look_mem h; exact ⟨g',List.mem_cons_of_mem _ h'⟩
theorem FlW.thaw {o':HO} (hq:G q = some (.frz ob (.dK kvs))) (no:ow q = none) (nf:nfF s = true) (h:FlW K G H ow i f v s):FlW K (del G q) (upd H q o') (owSet ow q o2) i f v s:=by
  have nq:∀ r k,ow r = some k→r ≠ q:=fun r k w z=>by subst z; rw [no] at w; cases w
  cases s with
  | sh d=>exact Den.del hq h
  | ow l=>obtain ⟨r,vs,h1,h2,h3,h4⟩:=h; exact ⟨r,vs,h1,by rw [upd_ne (nq _ _ h3)]; exact h2,by rw [owSet_ne (nq _ _ h3)]; exact h3,h4.del hq⟩
  | dc l=>obtain ⟨r,vs,h1,h2,h3,h4⟩:=h; exact ⟨r,vs,h1,by rw [upd_ne (nq _ _ h3)]; exact h2,by rw [owSet_ne (nq _ _ h3)]; exact h3,h4.del hq⟩
  | fz r l=>cases nf
theorem FsW.thaw {o':HO} (hq:G q = some (.frz ob (.dK kvs))) (no:ow q = none) (nf:(fs.all fun p=>nfF p.2) = true) (h:FsW K G H ow i vfs fs):FsW K (del G q) (upd H q o') (owSet ow q o2) i vfs fs :=
  ⟨h.keys,fun f s e=>let ⟨v,h1,h2⟩:=h.at_ f s e; ⟨v,h1,h2.thaw hq no (by obtain ⟨g,hg⟩:=look_mem e; exact (List.all_eq_true.mp nf) _ hg)⟩⟩
theorem SlW.thaw {n':En} {o':HO} {s:Sl} {x:Option (Option V)} (hn:∀ p,p ≠ q→n'.H p = none→n.H p = none) (hq:G q = some (.frz ob (.dK kvs))) (no:ow q = none) (nf:nfS s = true) (h:SlW K n' G H ow i x s):SlW K n (del G q) (upd H q o') (owSet ow q o2) i x s:=by
  have nq:∀ r k,ow r = some k→r ≠ q:=fun r k w z=>by subst z; rw [no] at w; cases w
  cases s with
  | no=>trivial
  | sh d=>obtain ⟨v,h1,h2⟩:=h; exact ⟨v,h1,h2.del hq⟩
  | ow l=>obtain ⟨p,vs,h1,h2,h3,h4,h5⟩:=h; exact ⟨p,vs,h1,by rw [upd_ne (nq _ _ h4)]; exact h2,hn _ (nq _ _ h4) h3,by rw [owSet_ne (nq _ _ h4)]; exact h4,h5.del hq⟩
  | mu a l=>obtain ⟨vs,h1,h2,h4,h5⟩:=h; exact ⟨vs,h1,by rw [upd_ne (nq _ _ h4)]; exact h2,by rw [owSet_ne (nq _ _ h4)]; exact h4,h5.del hq⟩
  | ob r C fs =>
    obtain ⟨a,dx,vfs,h1,h2,h3,h4,h5,h6,h7⟩:=h
    exact ⟨a,dx,vfs,h1,h2,by rw [upd_ne (nq _ _ h5)]; exact h3,by rw [upd_ne (nq _ _ h6)]; exact h4,by rw [owSet_ne (nq _ _ h5)]; exact h5,by rw [owSet_ne (nq _ _ h6)]; exact h6,h7.thaw hq no nf⟩
  | pt a=>exact h
  | rc r fs =>
    obtain ⟨a,vfs,h1,h2,h3,h5,h7⟩:=h
    exact ⟨a,vfs,h1,h2,by rw [upd_ne (nq _ _ h5)]; exact h3,by rw [owSet_ne (nq _ _ h5)]; exact h5,h7.thaw hq no nf⟩
theorem Rel.frz (R:Rel K n δ σ G H) {h0:Option Nat} {C:Nat} {l:List (Key × D)} (e:δ[i]? = some (.ob h0 C fs)) (hl:fs.lookup f = some (.dc l)):∃ (q:Addr) (vs:List (Key × V)),H q = some (.dK vs)∧G q = none∧∀ ob:Obj,
    Rel K (frzN n q (.frz ob (.dK vs))) (δ.set i (.ob h0 C (putFl f (.fz q l) fs))) σ (upd G q (.frz ob (.dK vs))) (upd H q (.frz ob (.dK vs))) ∧
    ∀ (δ':Ev) (σ':L2.St) (G' H':Hp) (h1:Option Nat) (fs':List (Str × Fl)) (l':List (Key × D)),Rel K (frzN n q (.frz ob (.dK vs))) δ' σ' G' H'→δ'[i]? = some (.ob h1 C fs')→fs'.lookup f = some (.fz q l')→noFz (δ'.set i (.ob h1 C (putFl f (.dc l') fs'))) = true →
      H' q = some (.frz ob (.dK vs))∧G' q = some (.frz ob (.dK vs))∧Rel K n (δ'.set i (.ob h1 C (putFl f (.dc l') fs'))) σ' (del G' q) (upd H' q (.dK vs)):=by
  obtain ⟨ow,ok,gh⟩:=R.gh
  obtain ⟨a,dx,vfs,g1,g2,g3,g4,g5,g6,g7⟩:=gh i _ e
  obtain ⟨w,k1,q,vs,rfl,k2,k3,k4⟩:=g7.at_ f _ hl
  obtain ⟨c1,c2,c3⟩:=ok.is _ _ k3
  refine ⟨q,vs,k2,c1,fun ob=>⟨?_,?_⟩⟩
  · have s1:Same G (upd G q (.frz ob (.dK vs))):=same_upd c1 _
    have nq:∀ (r:Addr) (j:Nat) (g:Str),ow r = some (j,g)→(j = i→g ≠ f)→r ≠ q:=fun r j g w no z=>by subst z; rw [k3] at w; cases w; exact no rfl rfl
    refine ⟨fun b u eb=>?_,fun b u eb=>?_,fun b u eb m=>?_,fun b eb=>?_,fun b u eb e0=>?_,⟨owSet ow q none,⟨fun b k hk=>?_⟩,fun j s hj=>?_⟩,by rw [List.length_set]; exact R.len⟩
    · by_cases hb:b = q
      · subst hb; rw [upd_same] at eb ⊢; exact eb
      · rw [upd_ne hb] at eb ⊢; exact R.sub b u eb
    · have eb:upd n.G q _ b = some u:=eb
      by_cases hb:b = q
      · subst hb; rw [upd_same] at eb ⊢; exact eb
      · rw [upd_ne hb] at eb ⊢; exact R.eg b u eb
    · have eb:upd n.H q _ b = some u:=eb
      by_cases hb:b = q
      · subst hb; rw [upd_same] at eb ⊢; exact eb
      · rw [upd_ne hb] at eb ⊢; exact R.eh b u eb fun z=>m ⟨z,hb⟩
    · by_cases hb:b = q
      · subst hb; rw [upd_same] at eb; cases eb
      · rw [upd_ne hb] at eb; show upd n.H q _ b = none; rw [upd_ne hb]; exact R.al b eb
    · by_cases hb:b = q
      · subst hb; rw [show (frzN n b _).G b = _ from upd_same] at e0; cases e0
      · rw [upd_ne hb] at eb
        have e0':n.G b = none:=by have:upd n.G q _ b = none:=e0; rw [upd_ne hb] at this; exact this
        show upd n.H q _ b = none
        rw [upd_ne hb]; exact R.fr b u eb e0'
    · by_cases hb:b = q
      · subst hb; rw [owSet_same] at hk; cases hk
      · rw [owSet_ne hb] at hk
        obtain ⟨o1,o2,o3⟩:=ok.is b k hk
        refine ⟨by rw [upd_ne hb]; exact o1,by rw [upd_ne hb]; exact o2,?_⟩
        rcases o3 with o3 | o3
        · exact .inl (by show upd n.H q _ b = none; rw [upd_ne hb]; exact o3)
        · exact .inr ⟨o3,hb⟩
    · rcases set_get hj with ⟨ej,rfl,hlj⟩ | ⟨ej,hj⟩
      · subst ej
        have na:a ≠ q:=fun z=>by subst z; rw [g3] at k2; cases k2
        have nd:dx ≠ q:=fun z=>by subst z; rw [g4] at k2; cases k2
        refine ⟨a,dx,vfs,g1,g2,by rw [upd_ne na]; exact g3,by rw [upd_ne nd]; exact g4,by rw [owSet_ne na]; exact g5,by rw [owSet_ne nd]; exact g6,⟨?_,fun g s' eg=>?_⟩⟩
        · rw [keysFl_put,Dl.putK_mem,g7.keys]
          obtain ⟨g',hg'⟩:=look_mem hl
          cases hm:fs.find? (fun p=>f == p.1) with
          | none =>
            have:=List.find?_eq_none.mp hm
            have:fs.lookup f = none:=List.lookup_eq_none_iff.mpr fun p hp=>by simpa using this p hp
            rw [hl] at this; cases this
          | some p =>
            have h1:=List.mem_of_find?_eq_some hm
            have h2:=List.find?_some hm
            exact List.mem_map.mpr ⟨p,h1,(beq_iff_eq.mp h2).symm⟩
        · rw [lookup_putFl] at eg
          by_cases z:g = f
          · rw [if_pos z] at eg
            cases eg
            subst z
            exact ⟨.ref q,k1,ob,vs,rfl,upd_same,k4.up s1⟩
          · rw [if_neg z] at eg
            obtain ⟨v,h1,h2⟩:=g7.at_ g s' eg
            refine ⟨v,h1,?_⟩
            cases s' with
            | sh d=>exact Den.up s1 h2
            | ow m =>
              obtain ⟨r,ws,y1,y2,y3,y4⟩:=h2
              have:=nq r _ _ y3 fun _=>z
              exact ⟨r,ws,y1,by rw [upd_ne this]; exact y2,by rw [owSet_ne this]; exact y3,y4.up s1⟩
            | dc m =>
              obtain ⟨r,ws,y1,y2,y3,y4⟩:=h2
              have:=nq r _ _ y3 fun _=>z
              exact ⟨r,ws,y1,by rw [upd_ne this]; exact y2,by rw [owSet_ne this]; exact y3,y4.up s1⟩
            | fz q' m=>obtain ⟨ob',ws,y1,y2,y3⟩:=h2; exact ⟨ob',ws,y1,s1 _ _ y2,y3.up s1⟩
      · have hk:=(gh j s hj).keep (ow':=owSet ow q none) (H':=upd H q (.frz ob (.dK vs))) (i':=j) s1 (fun b g z=>by rw [owSet_ne (nq b j g z fun w=>absurd w.symm ej)]; exact z) fun b g u z w=>by rw [upd_ne (nq b j g z fun w=>absurd w.symm ej)]; exact w
        cases s with
        | ow m =>
          obtain ⟨p,ws,y1,y2,y3,y4,y5⟩:=hk
          have hp:p ≠ q:=fun z=>by subst z; rw [owSet_same] at y4; cases y4
          exact ⟨p,ws,y1,y2,by show upd n.H q _ p = none; rw [upd_ne hp]; exact y3,y4,y5⟩
        | _=>exact hk
  · intro δ' σ' G' H' h1 fs' l' R' e' hl' nf
    have hGq:G' q = some (.frz ob (.dK vs)):=R'.eg _ _ (show upd n.G q _ q = _ from upd_same)
    have hHq:H' q = some (.frz ob (.dK vs)):=R'.sub _ _ hGq
    obtain ⟨ow',ok',gh'⟩:=R'.gh
    have no:ow' q = none:=by
      cases z:ow' q with
      | none=>rfl
      | some k=>have:=(ok'.is _ _ z).1; rw [hGq] at this; cases this
    have hn:∀ p,p ≠ q→(frzN n q (.frz ob (.dK vs))).H p = none→n.H p = none:=fun p hp z=>by
      have z':upd n.H q _ p = none:=z
      rw [upd_ne hp] at z'; exact z'
    refine ⟨hHq,hGq,⟨fun b u eb=>?_,fun b u eb=>?_,fun b u eb m=>?_,fun b eb=>?_,fun b u eb e0=>?_,⟨owSet ow' q (some (i,f)),⟨fun b k hk=>?_⟩,fun j s hj=>?_⟩,by rw [List.length_set]; exact R'.len⟩⟩
    · have hb:b ≠ q:=fun z=>by subst z; rw [del_same] at eb; cases eb
      rw [del_ne hb] at eb
      rw [upd_ne hb]; exact R'.sub b u eb
    · have hb:b ≠ q:=fun z=>by subst z; rw [R.eg b u eb] at c1; cases c1
      rw [del_ne hb]
      exact R'.eg b u (by show upd n.G q _ b = _; rw [upd_ne hb]; exact eb)
    · have hb:b ≠ q:=fun z=>by
        subst z
        rcases c3 with c3 | c3
        · rw [c3] at eb; cases eb
        · exact m c3
      rw [upd_ne hb]
      exact R'.eh b u (by show upd n.H q _ b = _; rw [upd_ne hb]; exact eb) fun z=>m z.1
    · by_cases hb:b = q
      · subst hb; rw [upd_same] at eb; cases eb
      · rw [upd_ne hb] at eb; exact hn b hb (R'.al b eb)
    · have hb:b ≠ q:=fun z=>by subst z; rw [del_same] at eb; cases eb
      rw [del_ne hb] at eb
      exact hn b hb (R'.fr b u eb (by show upd n.G q _ b = none; rw [upd_ne hb]; exact e0))
    · by_cases hb:b = q
      · subst hb
        exact ⟨del_same,(by rw [upd_same]; exact fun z=>(by cases z)),c3⟩
      · rw [owSet_ne hb] at hk
        obtain ⟨o1,o2,o3⟩:=ok'.is b k hk
        refine ⟨by rw [del_ne hb]; exact o1,by rw [upd_ne hb]; exact o2,?_⟩
        rcases o3 with o3 | o3
        · exact .inl (hn b hb o3)
        · exact .inr o3.1
    · have nfs:nfS s = true:=(List.all_eq_true.mp nf) s (List.mem_of_getElem? hj)
      rcases set_get hj with ⟨ej,rfl,hlj⟩ | ⟨ej,hj⟩
      · subst ej
        obtain ⟨a,dx,vfs,y1,y2,y3,y4,y5,y6,y7⟩:=gh' i _ e'
        have nq:∀ r k,ow' r = some k→r ≠ q:=fun r k w z=>by subst z; rw [no] at w; cases w
        refine ⟨a,dx,vfs,y1,y2,by rw [upd_ne (nq _ _ y5)]; exact y3,by rw [upd_ne (nq _ _ y6)]; exact y4,by rw [owSet_ne (nq _ _ y5)]; exact y5,by rw [owSet_ne (nq _ _ y6)]; exact y6,⟨?_,fun g s' eg=>?_⟩⟩
        · rw [keysFl_put,Dl.putK_mem,y7.keys]
          cases hm:fs'.find? (fun p=>f == p.1) with
          | none =>
            have:=List.find?_eq_none.mp hm
            have:fs'.lookup f = none:=List.lookup_eq_none_iff.mpr fun p hp=>by simpa using this p hp
            rw [hl'] at this; cases this
          | some p =>
            have h1:=List.mem_of_find?_eq_some hm
            have h2:=List.find?_some hm
            exact List.mem_map.mpr ⟨p,h1,(beq_iff_eq.mp h2).symm⟩
        · have nfg:nfF s' = true:=by
            obtain ⟨g',hg'⟩:=look_mem eg
            exact (List.all_eq_true.mp nfs) _ hg'
          rw [lookup_putFl] at eg
          by_cases z:g = f
          · rw [if_pos z] at eg
            cases eg
            subst z
            obtain ⟨w,z1,ob',ws,rfl,z2,z3⟩:=y7.at_ g _ hl'
            rw [hGq] at z2; cases z2
            exact ⟨.ref q,z1,q,vs,rfl,upd_same,owSet_same,z3.del hGq⟩
          · rw [if_neg z] at eg
            obtain ⟨v,h1,h2⟩:=y7.at_ g s' eg
            exact ⟨v,h1,h2.thaw hGq no nfg⟩
      · exact (gh' j s hj).thaw hn hGq no nfs
end
noncomputable def fzOf (C i:Nat) (f:Str) (δ:Ev):Option (Nat × List (Key × D)):=match δ[i]? with
  | some (.ob _ C' fs)=>if C' = C then (match fs.lookup f with
    | some (.fz q l)=>some (q,l)
    | _=>none) else none
  | _=>none
theorem fzOf_inv {C i q:Nat} {f:Str} {δ:Ev} {l:List (Key × D)} (h:fzOf C i f δ = some (q,l)):∃ h0 fs,δ[i]? = some (.ob h0 C fs)∧fs.lookup f = some (.fz q l):=by
  unfold fzOf at h
  split at h
  · rename_i h0 C' fs e
    split at h
    · rename_i ec
      subst ec
      split at h
      · rename_i q' d' e2; cases h; exact ⟨h0,fs,e,e2⟩
      · cases h
    · cases h
  · cases h
noncomputable def dFz (C i:Nat) (f:Str) (t:TSd):TSd:=fun E δ=>match dctOf C i f δ with
  | some l=>∀ q:Nat,t { nx:=fun δ'=>fzOf C i f δ' = some (q,l)∧noFz (putAt i f (.dc l) δ') = true∧E.nx (putAt i f (.dc l) δ'),rt:=fun _ _=>False } (putAt i f (.fz q l) δ)
  | none=>False
theorem ds_fz {X:Cx} {st:Stmt} {t:TSd} {C:Nat} {f:Str} (i:Nat) (h:DS X st t):DS X st (dFz C i f t) :=
  ps_imp (ps_frz h) fun F σ H hx=>hx.el fun n δ G E R h k=>by
    unfold dFz at h
    split at h
    · rename_i l el
      obtain ⟨h0,fs,e1,e2⟩:=dctOf_inv el
      obtain ⟨q,vs,g1,g2,g3⟩:=R.frz e1 e2
      refine ⟨q,vs,g1,fun ob=>?_⟩
      obtain ⟨R1,back⟩:=g3 ob
      have h1:=h q
      rw [putAt_of e1] at h1
      refine ⟨_,_,_,_,R1,h1,⟨fun δ' σ' G' H' R' zz75=>zz75.elim fun z1 zz=>zz.elim fun z2 z3=>?_,fun _ _ _ _ _ _ _ _ z=>z,fun _ _ _ _ _ z=>z,fun _ _ _ _ _ z=>z⟩⟩
      obtain ⟨h1',fs',y1,y2⟩:=fzOf_inv z1
      rw [putAt_of y1] at z2 z3
      obtain ⟨b1,b2,b3⟩:=back δ' σ' G' H' h1' fs' l R' y1 y2 z2
      exact ⟨b1,k.nx _ σ' _ _ b3 z3⟩
    · exact h.elim
end Dl
namespace Dl
open PySem PySem.Spec PyProof.Rows L2
theorem paired_get {α β:Type} {R:α→β→Prop}:∀ {xs:List α} {ys:List β} {i:Nat} {x:α},Paired R xs ys→xs[i]? = some x→∃ y,ys[i]? = some y∧R x y
  | _,_,_,_,.nil,e=>by simp at e
  | _,_,0,_,.cons h _,e=>by simp at e; subst e; exact ⟨_,rfl,h⟩
  | _,_,i + 1,_,.cons _ t,e=>by
    obtain ⟨y,h1,h2⟩:=paired_get (i:=i) t (by simpa using e)
    exact ⟨y,by simpa using h1,h2⟩
theorem relV_key {P:Program} {w:World} {k:Key} {u:Value} (h:(mixKind P w).is k u = true):RelV (kV k) u:=by
  have h:keyIs k u = true:=h
  rcases keyIs_shape h with ⟨i,t,rfl,rfl⟩ | ⟨x,t,rfl,rfl⟩
  · exact ⟨t,rfl⟩
  · exact ⟨t,rfl⟩
noncomputable def Itd (q:Addr) (ob:Obj) (kvs:List (Key × V)):It :=
  ⟨fun i H=>H q = some (.frz ob (.dK kvs))∧i < kvs.length,
   fun i H v H'=>∃ p kv,v = .ref p∧H p = none∧H' = upd H p (.tup [kV kv.1,kv.2])∧kvs[i]? = some kv,
   fun i H=>H q = some (.frz ob (.dK kvs))∧kvs.length ≤ i⟩
theorem turn_items {P:Program} {w:World} {K:PySem.W.Frag} {elts:List Expr} {kk:Nat} {tp:Pos} {it q:Addr} {ob:Obj} {kvs:List (Key × V)} {vs:List (Key × Value)} {ep:Nat} (rel:KV kvs vs) (da:∀ h:Heap,h.get? q = some ob→h.DictAt (mixKind P w) q vs ep) :
    Turn P w K (.Tuple elts kk tp) (Itd q ob kvs) [it] it (fun i h=>∃ ok ov,IsItemIter h it q i vs.length ep ok ov) where
  mem:=by simp
  obj:=fun i h zz76 c hc=>zz76.elim fun ok zz=>zz.elim fun ov h1=>by
    have e:c = it:=by simpa using hc
    subst e
    exact ⟨_,h1,fun v z=>nomatch z⟩
  keep:=fun i h h' zz77 k=>zz77.elim fun ok zz=>zz.elim fun ov h1=>⟨ok,ov,k it (by simp) _ h1⟩
  item:=by
    intro X hP hw hK hc i pins s σ H E I hf ⟨ok,ov,h1⟩ ⟨hq,hi⟩
    subst hP hw hK
    obtain ⟨kv,hkv⟩ : ∃ kv,kvs[i]? = some kv:=⟨_,List.getElem?_eq_getElem hi⟩
    obtain ⟨⟨k',u⟩,hu,ek,ru⟩:=paired_get rel hkv
    have ek:kv.1 = k':=ek
    subst ek
    refine wpAny_pyNext_items_item h1 (da _ (I.hok q _ hq).1) hu fun key g hk z1 z2 z3 kp=>?_
    refine ⟨_,rfl,wpAny_letOwnedTupleGo_items z1 fun g' z1' sb=>?_⟩
    have lte:it ≠ s.heap.objs.size:=Nat.ne_of_lt (Heap.lt_size h1)
    obtain ⟨I1,fr1⟩:=Inv.yields (fp:=[it]) (tk:=s.toks) (g:=g') (vs:=[kV kv.1,kv.2]) (us:=[key,u]) I hf
      (fun c hc'=>by
        have e:c = it:=by simpa using hc'
        subst e; exact ⟨_,h1⟩)
      (fun c o hc' e=>by
        have hc':c ≠ it:=by simpa using hc'
        exact sb.extBut _ _ hc' (kp c o hc' e))
      ⟨_,sb.extBut _ _ (Ne.symm lte) z2,rfl,_,rfl⟩ (.cons (relV_key hk) (.cons ru .nil)) (by show 2 ≤ sizeLine; decide)
    exact ⟨.ref s.heap.objs.size,_,I1,rfl,⟨_,kv,rfl,I.hok.fresh (Nat.le_refl _),rfl,hkv⟩,⟨_,_,z1'⟩,fr1⟩
  done:=by
    intro X hP hw hK hc i pins s σ H E I hf ⟨ok,ov,h1⟩ ⟨hq,hl⟩
    subst hP hw hK
    have hx:vs[i]? = none:=by rw [List.getElem?_eq_none_iff,← rel.length]; exact hl
    refine wpAny_pyNext_items_end (I.ok.hd hc) h1 (da _ (I.hok q _ hq).1) hx fun g kp=>⟨rfl,?_⟩
    exact Inv.turns (fp:=[it]) (tk:=s.toks) I hf fun c o hc' e=>kp c o (fun z=>hc' (by simp [z])) e
  self:=fun A i s Q E zz78 h=>zz78.elim fun ok zz=>zz.elim fun ov h1=>PySem.W.kcp_self h1 h
section
variable {X:Cx} {elts:List Expr} {kk:Nat} {tp p pos:Pos} {o:Expr} {td:TE} {ap cp:Pos}
noncomputable def iItems (td:TE):TI:=fun σ H R=>td σ H fun x H1=>∃ q ob kvs,x = .ref q∧H1 q = some (.frz ob (.dK kvs))∧R (Itd q ob kvs) H1
theorem pi_items (ho:PE X o td) (hbase:attributeBase o "items" X.env (eval o X.env) = eval o X.env)
    (hfew:((backTo cp (starEach [] X.env)).all (fun x=>!x.1) && (backToKw cp (keywordEach [] X.env)).all (fun x=>x.1.isSome)
      && decide (([]:List Expr).length + ([]:List Keyword).length + (if ([]:List Keyword).isEmpty then 0 else 1) < 30)) = true)
    (hline:(ap.endLine == cp.line) = true):PI X (.Tuple elts kk tp) (.Call (.Attribute o "items" ap) [] [] cp) (iItems td):=by
  intro pins s σ H R I h
  refine wpAny_Call_method hbase hfew hline PySem.F.plainAttrs_dict PySem.F.slot_dict_items PySem.F.type_dict_items (thn (ho pins s σ H _ I h) fun u s1 zz79=>zz79.elim fun x zz=>zz.elim fun H1 zz=>zz.elim fun I1 zz=>zz.elim fun rx zz=>zz.elim fun q zz=>zz.elim fun ob zz=>zz.elim fun kvs zz=>zz.elim fun ex zz=>zz.elim fun e r=>?_)
  subst ex
  obtain rfl : u = Value.ref q:=rx
  obtain ⟨t1,t2,hd⟩:=isD_at I1 (.inl ⟨kvs,.inr ⟨ob,e⟩⟩)
  refine ⟨t1,t2,?_⟩
  obtain ⟨eh,z,y,vs,rel,ob',es,ep,eh',c⟩:=I1.hok q _ e
  have eo:ob' = ob:=by rw [eh] at eh'; exact (Option.some.inj eh').symm
  subst eo
  have da:∀ h:Heap,h.get? q = some ob'→h.DictAt (mixKind X.prog X.w) q vs ep:=fun h w=>⟨ob',es,w,c⟩
  refine Calls.callWith_builtin rfl (PySem.evalArgs_none ?_)
  refine call_meetsIn PySem.F.slot_dict_items t1 PySem.F.entry_dict_items (PySem.F.args_dict_items_1 _) (meets_dict_items (mixKind X.prog X.w) q hd) ⟨⟨vs,(da _ eh).dictOf⟩,?_⟩
  have up1:∀ b o,s1.heap.get? b = some o→(s1.heap.push { cls:=.type "dict_items",data:=.fields #[.ref q] }).get? b = some o:=fun b o w=>Heap.get?_push_of_some _ w
  refine wpAny_pyIter_items (knd:=mixKind X.prog X.w) (d:=q) (kvs:=vs) (ep:=ep) ⟨_,Heap.get?_push_size _ rfl,rfl,rfl⟩ (da _ (up1 _ _ eh)) ?_
  have ls:s1.heap.objs.size ≤ (s1.heap.push { cls:=.type "dict_items",data:=.fields #[.ref q] }).objs.size:=by rw [Heap.size_push]; exact Nat.le_succ _
  have h0:H1 (s1.heap.push { cls:=.type "dict_items",data:=.fields #[.ref q] }).objs.size = none:=I1.hok.fresh ls
  refine ⟨_,[_],_,_,H1,rfl,I1.kept (t':=s1.toks) fun b o w=>Heap.get?_push_of_some _ (up1 b o w),turn_items rel da,⟨_,_,Heap.get?_push_size _ rfl⟩,fun b hb=>?_,r⟩
  have e:b = (s1.heap.push { cls:=.type "dict_items",data:=.fields #[.ref q] }).objs.size:=by simpa using hb
  subst e
  exact I1.fpOk ls h0
end
noncomputable def itemsL (l:List (Key × D)):List D:=l.map fun kv=>.tup [dK kv.1,kv.2]
noncomputable def diItems (C i:Nat) (f:Str):TId:=fun δ Q=>match fzOf C i f δ with
  | some (_,l)=>Q (itemsL l) δ
  | none=>False
theorem jok_items {K:PySem.W.Frag} {G:Hp} {q:Addr} {ob:Obj} {vs:List (Key × V)} {l:List (Key × D)} (h:G q = some (.frz ob (.dK vs))) (hl:DenK K G vs l):JOk K G (Itd q ob vs) (itemsL l):=by
  have len:=hl.length
  have el:(itemsL l).length = l.length:=by simp [itemsL]
  refine ⟨fun i G1 H1 s1 s2 hi=>⟨s2 _ _ (s1 _ _ h),by omega⟩,fun i G1 H1 x H2 s1 s2 hi y=>?_,fun i G1 H1 s1 s2 hi=>⟨s2 _ _ (s1 _ _ h),by omega⟩⟩
  obtain ⟨p,kv,rfl,hp,rfl,hx⟩:=y
  obtain ⟨d,hd,dv⟩:=hl.get hx
  have sg:Same G1 (upd G1 p (.tup [kV kv.1,kv.2])):=same_upd (s2.free hp) _
  exact ⟨_,.tup [dK kv.1,d],Ext.laid s2 hp _,by simp [itemsL,hd],.tup (SqT.of upd_same) (.cons den_dK (.cons (dv.up (s1.trans sg)) .nil))⟩
theorem di_items {X:Cx} {C:Addr} {f:Str} {elts:List Expr} {kk:Nat} {tp ap cp fp:Pos} (i:Nat) {x:Str} {np:Pos} (c:Cls X.K C) (na:NoAttr X.K C f) (hN:autoParam (X.N[i]? = some x) ZA.a3._auto_1) (hv:autoParam (Vis X.env.scope x) ZA.a5._auto_1)
    (hd:autoParam ((x == ("__debug__":Str)) = false) ZA.a2._auto_1) (hcd:autoParam ((x == ("__classdict__":Str)) = false) ZA.a2._auto_1) (hb:autoParam (attributeBase (.Name x np) f X.env (eval (.Name x np) X.env) = eval (.Name x np) X.env) ZA.a3._auto_1)
    (hbase:autoParam (attributeBase (.Attribute (.Name x np) f fp) "items" X.env (eval (.Attribute (.Name x np) f fp) X.env) = eval (.Attribute (.Name x np) f fp) X.env) ZA.a3._auto_1)
    (hfew:autoParam (((backTo cp (starEach [] X.env)).all (fun x=>!x.1) && (backToKw cp (keywordEach [] X.env)).all (fun x=>x.1.isSome)
      && decide (([]:List Expr).length + ([]:List Keyword).length + (if ([]:List Keyword).isEmpty then 0 else 1) < 30)) = true) ZA.a3._auto_1)
    (hline:autoParam ((ap.endLine == cp.line) = true) ZA.a3._auto_1):DI X (.Tuple elts kk tp) (.Call (.Attribute (.Attribute (.Name x np) f fp) "items" ap) [] [] cp) (diItems C i f) :=
  pi_imp (pi_items (pe_fld (pe_var hN hv hd hcd) hb) hbase hfew hline) fun σ H R2 hx=>hx.el fun n δ G Q R h k=>by
    unfold diItems at h
    split at h
    · rename_i q l el
      obtain ⟨h0,fs,e1,e2⟩:=fzOf_inv el
      obtain ⟨ow,ok,gh⟩:=R.gh
      obtain ⟨a,dx,vfs,g1,g2,g3,g4,g5,g6,g7⟩:=gh i _ e1
      obtain ⟨w,k1,ob,vs,rfl,k2,k3⟩:=g7.at_ f _ e2
      exact ⟨.ref a,g1,a,C,dx,vfs,.ref q,rfl,g3,c,na,k1,q,ob,vs,rfl,R.sub _ _ k2,k _ G H _ δ R (Same.refl _) (jok_items k2 k3) h⟩
    · exact h.elim
end Dl
namespace Dl
open PySem PySem.Spec PyProof.Rows L2
noncomputable def klt1:Key→Key→Bool
  | .inl i,.inl j=>decide (i < j)
  | .inr x,.inr y=>decide (x.cps.toList < y.cps.toList)
  | _,_=>false
noncomputable def klt:List Key→List Key→Bool
  | a :: r,b :: s=>if a = b then klt r s else klt1 a b
  | _,_=>false
noncomputable def kk1:Key→Bool
  | .inl _=>false
  | .inr _=>true
noncomputable def shp (l:List Key):List Bool:=l.map kk1
noncomputable def tD (ks:List Key):D:=.tup (ks.map dK)
noncomputable def cSortK:RC:=fun ds Q=>match ds with
  | [.lst l]=>∃ ks sh,l = ks.map tD∧(∀ k ∈ ks,shp k = sh)∧sh ≠ []∧ks.length < 64∧∀ ms:List (List Key),ms.Perm ks→ms.Pairwise (fun a b=>klt b a = false)→Q (.lst (ms.map tD))
  | _=>False
theorem klt1_irr (a:Key):klt1 a a = false:=by
  cases a with
  | inl i=>simp [klt1]
  | inr x=>simp only [klt1,decide_eq_false_iff_not]; exact List.lt_irrefl _
theorem klt1_asy {a b:Key} (h:klt1 a b = true):klt1 b a = false:=by
  cases a <;> cases b <;> simp [klt1] at h ⊢
  · omega
  · exact List.le_of_lt h
theorem klt1_eq {a b:Key} (hk:kk1 a = kk1 b) (h1:klt1 a b = false) (h2:klt1 b a = false):a = b:=by
  cases a with
  | inl i=>cases b with
    | inl j=>simp [klt1] at h1 h2; exact congrArg _ (by omega)
    | inr y=>cases hk
  | inr x=>cases b with
    | inl j=>cases hk
    | inr y =>
      simp only [klt1,decide_eq_false_iff_not] at h1 h2
      have e:x.cps.toList = y.cps.toList:=List.le_antisymm h2 h1
      have:x = y:=by cases x; cases y; simp at e; simp [e]
      rw [this]
theorem klt1_tr {a b c:Key} (h1:klt1 a b = true) (h2:klt1 b c = true):klt1 a c = true:=by
  cases a <;> cases b <;> cases c <;> simp [klt1] at h1 h2 ⊢
  · omega
  · exact List.lt_trans h1 h2
theorem klt_irr:∀ l,klt l l = false
  | []=>rfl
  | a :: r=>by simp [klt,klt_irr r]
theorem klt_asy:∀ a b,klt a b = true→klt b a = false
  | [],_,h=>by cases h
  | _ :: _,[],h=>by cases h
  | x :: r,y :: s,h=>by
    unfold klt at h ⊢
    by_cases e:x = y
    · subst e; simp only [if_true] at h ⊢; exact klt_asy r s h
    · rw [if_neg e] at h; rw [if_neg (Ne.symm e)]; exact klt1_asy h
theorem klt_tr:∀ a b c,shp a = shp b→shp b = shp c→klt b a = false→klt c b = false→klt c a = false
  | [],[],[],_,_,_,_=>rfl
  | [],_ :: _,_,h,_,_,_=>by cases h
  | _ :: _,[],_,h,_,_,_=>by cases h
  | _,[],_ :: _,_,h,_,_=>by cases h
  | _,_ :: _,[],_,h,_,_=>by cases h
  | x :: r,y :: s,z :: t,h1,h2,h3,h4=>by
    simp only [shp,List.map_cons,List.cons.injEq] at h1 h2
    unfold klt at h3 h4 ⊢
    by_cases e1:y = x
    · subst e1
      rw [if_pos rfl] at h3
      by_cases e2:z = y
      · subst e2
        rw [if_pos rfl] at h4 ⊢
        exact klt_tr r s t h1.2 h2.2 h3 h4
      · rw [if_neg e2] at h4 ⊢; exact h4
    · rw [if_neg e1] at h3
      by_cases e2:z = y
      · subst e2
        rw [if_neg e1]; exact h3
      · rw [if_neg e2] at h4
        have g3:klt1 x y = true:=by
          cases q:klt1 x y with
          | true=>rfl
          | false=>exact absurd (klt1_eq h1.1.symm h3 q) e1
        have g4:klt1 y z = true:=by
          cases q:klt1 y z with
          | true=>rfl
          | false=>exact absurd (klt1_eq h2.1.symm h4 q) e2
        have g5:=klt1_tr g3 g4
        have ne:z ≠ x:=fun w=>by subst w; rw [klt1_irr] at g5; cases g5
        rw [if_neg ne]; exact klt1_asy g5
theorem klt_eq:∀ a b,shp a = shp b→klt a b = false→klt b a = false→a = b
  | [],[],_,_,_=>rfl
  | [],_ :: _,h,_,_=>by cases h
  | _ :: _,[],h,_,_=>by cases h
  | x :: r,y :: s,h,h1,h2=>by
    simp only [shp,List.map_cons,List.cons.injEq] at h
    unfold klt at h1 h2
    by_cases e:x = y
    · subst e
      rw [if_pos rfl] at h1 h2
      rw [klt_eq r s h.2 h1 h2]
    · rw [if_neg e] at h1; rw [if_neg (Ne.symm e)] at h2
      exact absurd (klt1_eq h.1 h1 h2) e
end Dl
namespace Dl
open PySem PySem.W PyProof.Rows
noncomputable def kev (lt:Nat→Nat→Bool) {α:Type}:KasT α→α
  | .ret a=>a
  | .ask i j k=>kev lt (k (lt i j))
theorem kev_bind (lt:Nat→Nat→Bool) {α β:Type} (f:α→KasT β):∀ t:KasT α,kev lt (t.bind f) = kev lt (f (kev lt t))
  | .ret _=>rfl
  | .ask i j k=>by
    show kev lt ((k (lt i j)).bind f) = _
    rw [kev_bind lt f (k (lt i j))]; rfl
structure WOrd (lt:Nat→Nat→Bool):Prop where
  irr:∀ a,lt a a = false
  asy:∀ a b,lt a b = true→lt b a = false
  tr:∀ a b c,lt b a = false→lt c b = false→lt c a = false
section
variable {lt:Nat→Nat→Bool}
noncomputable abbrev le' (lt:Nat→Nat→Bool) (a b:Nat):Prop:=lt b a = false
noncomputable def SoT (lt:Nat→Nat→Bool) (p:Array Nat) (k:Nat):Prop:=∀ i j,i ≤ j→j < k→le' lt (p.getD i 0) (p.getD j 0)
noncomputable def NoI (lt:Nat→Nat→Bool) (p:Array Nat) (k:Nat):Prop:=∀ i j,i ≤ j→j < k→le' lt (p.getD j 0) (p.getD i 0)
theorem gd_eq {p q:Array Nat} {i j:Nat} (h:p[i]? = q[j]?):p.getD i 0 = q.getD j 0:=by
  rw [Array.getD_eq_getD_getElem?,Array.getD_eq_getD_getElem?,h]
theorem gd_rev {p:Array Nat} {i j:Nat} (hj:j ≤ p.size) (k:Nat):(kas_rev p i j).getD k 0 = if i ≤ k∧k < j then p.getD (i + j - 1 - k) 0 else p.getD k 0:=by
  have:=getElem?_mirror_all (i:=i) hj k
  unfold kas_rev
  split
  · rename_i h; rw [if_pos h] at this; exact gd_eq this
  · rename_i h; rw [if_neg h] at this; exact gd_eq this
theorem gd_bub {p:Array Nat} {s d:Nat} (hs:s < p.size) (hd:d ≤ s) (k:Nat):(bubble p s d).getD k 0 = if k = s - d then p.getD s 0 else if s - d < k∧k ≤ s then p.getD (k - 1) 0 else p.getD k 0:=by
  have:=getElem?_bubble hs d hd k
  by_cases h:k = s - d
  · rw [if_pos h] at this; rw [if_pos h]; exact gd_eq this
  · rw [if_neg h] at this; rw [if_neg h]
    by_cases h2:s - d < k∧k ≤ s
    · rw [if_pos h2] at this; rw [if_pos h2]; exact gd_eq this
    · rw [if_neg h2] at this; rw [if_neg h2]; exact gd_eq this
theorem rev_sz (p:Array Nat) (i j:Nat):(kas_rev p i j).size = p.size:=mirror_size _ _ _ _
theorem SoT.more (W:WOrd lt) {p:Array Nat} {n:Nat} (h1:1 ≤ n) (h:SoT lt p n) (hn:lt (p.getD n 0) (p.getD (n - 1) 0) = false):SoT lt p (n + 1):=fun i j hij hj=>by
  by_cases e:j = n
  · subst e
    by_cases e2:i = j
    · subst e2; exact W.irr _
    · exact W.tr _ _ _ (h i (j - 1) (by omega) (by omega)) hn
  · exact h i j hij (by omega)
theorem NoI.more (W:WOrd lt) {p:Array Nat} {n:Nat} (h1:1 ≤ n) (h:NoI lt p n) (hn:lt (p.getD (n - 1) 0) (p.getD n 0) = false):NoI lt p (n + 1):=fun i j hij hj=>by
  by_cases e:j = n
  · subst e
    by_cases e2:i = j
    · subst e2; exact W.irr _
    · exact W.tr _ _ _ hn (h i (j - 1) (by omega) (by omega))
  · exact h i j hij (by omega)
theorem NoI.turn (W:WOrd lt) {p:Array Nat} {i n:Nat} (hn:n ≤ p.size) (h:NoI lt p n) (he:∀ k l,i ≤ k→k < n→i ≤ l→l < n→le' lt (p.getD k 0) (p.getD l 0)):NoI lt (kas_rev p i n) n:=fun a b hab hb=>by
  rw [gd_rev hn,gd_rev hn]
  split
  · rename_i h1
    split
    · rename_i h2; exact he _ _ (by omega) (by omega) (by omega) (by omega)
    · rename_i h2; exact h a _ (by omega) (by omega)
  · rename_i h1
    split
    · rename_i h2; omega
    · exact h a b hab hb
theorem asc_ok (W:WOrd lt) {p:Array Nat}:∀ (f n:Nat),1 ≤ n→SoT lt p n →
    n ≤ kev lt (kas_asc p f n)∧kev lt (kas_asc p f n) ≤ n + f∧SoT lt p (kev lt (kas_asc p f n)) ∧
    (kev lt (kas_asc p f n) < n + f→lt (p.getD (kev lt (kas_asc p f n)) 0) (p.getD (kev lt (kas_asc p f n) - 1) 0) = true)
  | 0,n,h1,h=>⟨Nat.le_refl _,Nat.le_refl _,h,fun z=>absurd z (Nat.lt_irrefl _)⟩
  | f + 1,n,h1,h=>by
    cases c:lt (p.getD n 0) (p.getD (n - 1) 0) with
    | true =>
      have e:kev lt (kas_asc p (f + 1) n) = n:=by
        show kev lt (if lt (p.getD n 0) (p.getD (n - 1) 0) = true then KasT.ret n else kas_asc p f (n + 1)) = n
        rw [c,if_pos rfl]; rfl
      rw [e]; exact ⟨Nat.le_refl _,by omega,h,fun _=>c⟩
    | false =>
      have e:kev lt (kas_asc p (f + 1) n) = kev lt (kas_asc p f (n + 1)):=by
        show kev lt (if lt (p.getD n 0) (p.getD (n - 1) 0) = true then KasT.ret n else kas_asc p f (n + 1)) = _
        rw [c,if_neg (by simp)]
      rw [e]
      obtain ⟨a,b,d,g⟩:=asc_ok W f (n + 1) (by omega) (h.more W h1 c)
      exact ⟨by omega,by omega,d,fun z=>g (by omega)⟩
structure Dn (lt:Nat→Nat→Bool) (P:Array Nat) (p:Array Nat) (n q:Nat):Prop where
  sz:p.size = P.size
  pm:p.Perm P
  no:NoI lt p n
  hq:q + 1 ≤ n
  al:∀ k l,n - (q + 1) ≤ k→k < n→n - (q + 1) ≤ l→l < n→le' lt (p.getD k 0) (p.getD l 0)
theorem desc_ok (W:WOrd lt) {P:Array Nat}:∀ (f:Nat) (p:Array Nat) (n q:Nat),1 ≤ n→n + f ≤ P.size→Dn lt P p n q →
    Dn lt P (kev lt (kas_desc f p n q)).1 (kev lt (kas_desc f p n q)).2.1 (kev lt (kas_desc f p n q)).2.2∧n ≤ (kev lt (kas_desc f p n q)).2.1∧(kev lt (kas_desc f p n q)).2.1 ≤ n + f
  | 0,p,n,q,h1,hf,h=>⟨h,Nat.le_refl _,Nat.le_refl _⟩
  | f + 1,p,n,q,h1,hf,h=>by
    have one:∀ p':Array Nat,p'.size = P.size→p'.Perm P→NoI lt p' (n + 1)→Dn lt P p' (n + 1) 0:=fun p' a b c =>
      ⟨a, b, c, by omega, fun k l h1 h2 h3 h4 => by obtain rfl : k = n := by omega
                                                    obtain rfl : l = k:=by omega
                                                    exact W.irr _⟩
    have go:∀ p' q',kev lt (kas_desc (f + 1) p n q) = kev lt (kas_desc f p' (n + 1) q')→Dn lt P p' (n + 1) q' →
        Dn lt P (kev lt (kas_desc (f + 1) p n q)).1 (kev lt (kas_desc (f + 1) p n q)).2.1 (kev lt (kas_desc (f + 1) p n q)).2.2∧n ≤ (kev lt (kas_desc (f + 1) p n q)).2.1∧(kev lt (kas_desc (f + 1) p n q)).2.1 ≤ n + (f + 1):=fun p' q' e d=>by
      rw [e]
      obtain ⟨a,b,c⟩:=desc_ok W f p' (n + 1) q' (by omega) (by omega) d
      exact ⟨a,by omega,by omega⟩
    cases c:lt (p.getD n 0) (p.getD (n - 1) 0) with
    | true =>
      by_cases hq:q > 0
      · refine go (kas_rev p (n - (q + 1)) n) 0 ?_ (one _ ((rev_sz _ _ _).trans h.sz) ((mirror_perm _ _ _ _).trans h.pm) ?_)
        · show kev lt (if lt (p.getD n 0) (p.getD (n - 1) 0) = true then _ else _) = _
          rw [c,if_pos rfl,if_pos hq]
        · have hz:=h.sz
          refine (h.no.turn W (by omega) h.al).more W h1 ?_
          rw [gd_rev (by omega),gd_rev (by omega),if_pos (by omega),if_neg (by omega)]
          exact W.tr _ _ _ (W.asy _ _ c) (h.al _ _ (by omega) (by omega) (by omega) (by omega))
      · refine go p 0 ?_ (one _ h.sz h.pm (h.no.more W h1 (W.asy _ _ c)))
        show kev lt (if lt (p.getD n 0) (p.getD (n - 1) 0) = true then _ else _) = _
        rw [c,if_pos rfl,if_neg hq]
    | false =>
      cases d:lt (p.getD (n - 1) 0) (p.getD n 0) with
      | true =>
        have e:kev lt (kas_desc (f + 1) p n q) = (p,n,q):=by
          show kev lt (if lt (p.getD n 0) (p.getD (n - 1) 0) = true then _ else KasT.ask _ _ _) = _
          rw [c,if_neg (by simp)]
          show kev lt (if lt (p.getD (n - 1) 0) (p.getD n 0) = true then _ else _) = _
          rw [d,if_pos rfl]; rfl
        rw [e]; exact ⟨h,Nat.le_refl _,Nat.le_add_right _ _⟩
      | false =>
        refine go p (q + 1) ?_ ⟨h.sz,h.pm,h.no.more W h1 d,by have:=h.hq; omega,fun k l a1 a2 a3 a4=>?_⟩
        · show kev lt (if lt (p.getD n 0) (p.getD (n - 1) 0) = true then _ else KasT.ask _ _ _) = _
          rw [c,if_neg (by simp)]
          show kev lt (if lt (p.getD (n - 1) 0) (p.getD n 0) = true then _ else _) = _
          rw [d,if_neg (by simp)]
        · have hq:=h.hq
          by_cases ek:k = n
          · subst ek
            by_cases el:l = k
            · subst el; exact W.irr _
            · exact W.tr _ _ _ d (h.al _ _ (by omega) (by omega) (by omega) (by omega))
          · by_cases el:l = n
            · subst el; exact W.tr _ _ _ (h.al _ _ (by omega) (by omega) (by omega) (by omega)) c
            · exact h.al _ _ (by omega) (by omega) (by omega) (by omega)
noncomputable def Cnt (lt:Nat→Nat→Bool) (P:Array Nat) (nrem:Nat) (r:Nat × Array Nat):Prop:=r.2.size = P.size∧r.2.Perm P∧1 ≤ r.1∧r.1 ≤ nrem∧SoT lt r.2 r.1
theorem tail3_ok (W:WOrd lt) {P p:Array Nat} {n nrem:Nat} (h1:1 ≤ n) (hn:n ≤ nrem) (hz:nrem ≤ P.size) (sz:p.size = P.size) (pm:p.Perm P) (no:NoI lt p n):Cnt lt P nrem (kev lt (kas_tail3 n nrem p)):=by
  unfold kas_tail3
  rw [kev_bind]
  have so:SoT lt (kas_rev p 0 n) n:=fun i j hij hj=>by
    rw [gd_rev (by omega),gd_rev (by omega),if_pos (by omega),if_pos (by omega)]
    exact no _ _ (by omega) (by omega)
  obtain ⟨a,b,c,_⟩:=asc_ok W (nrem - n) n h1 so
  exact ⟨(rev_sz _ _ _).trans sz,(mirror_perm _ _ _ _).trans pm,by show 1 ≤ kev lt (kas_asc _ _ _); omega,by show kev lt (kas_asc _ _ _) ≤ nrem; omega,c⟩
theorem descPart_ok (W:WOrd lt) {P p:Array Nat} {n nrem:Nat} (hn:n + 1 ≤ nrem) (hz:nrem ≤ P.size) (sz:p.size = P.size) (pm:p.Perm P) (no:NoI lt p (n + 1)):Cnt lt P nrem (kev lt (kas_descPart n nrem p)):=by
  unfold kas_descPart
  rw [kev_bind]
  obtain ⟨d,a,b⟩:=desc_ok W (nrem - (n + 1)) p (n + 1) 0 (by omega) (by omega) ⟨sz,pm,no,by omega,fun k l h1 h2 h3 h4=>by
    obtain rfl : k = n:=by omega
    obtain rfl : l = k:=by omega
    exact W.irr _⟩
  generalize kev lt (kas_desc (nrem - (n + 1)) p (n + 1) 0) = r at *
  have hs:=d.sz
  split
  · exact tail3_ok W (by omega) (by omega) hz ((rev_sz _ _ _).trans d.sz) ((mirror_perm _ _ _ _).trans d.pm) (d.no.turn W (by omega) d.al)
  · exact tail3_ok W (by omega) (by omega) hz d.sz d.pm d.no
theorem count_ok (W:WOrd lt) {P:Array Nat} (h1:1 ≤ P.size):Cnt lt P P.size (kev lt (kas_count P.size P)):=by
  unfold kas_count
  rw [kev_bind]
  obtain ⟨a,b,c,g⟩:=asc_ok W (p:=P) (P.size - 1) 1 (Nat.le_refl _) (fun i j _ hj=>by
    obtain rfl : j = 0:=by omega
    obtain rfl : i = 0:=by omega
    exact W.irr _)
  generalize kev lt (kas_asc P (P.size - 1) 1) = n at *
  by_cases e:(n == P.size) = true
  · rw [if_pos e]
    exact ⟨rfl,.refl _,a,by show n ≤ _; omega,c⟩
  · rw [if_neg e]
    have ne:n ≠ P.size:=by simpa using e
    have g':=g (by omega)
    by_cases h2:n > 1
    · rw [if_pos h2]
      cases q:lt (P.getD 0 0) (P.getD (n - 1) 0) with
      | true =>
        have:kev lt (KasT.ask (P.getD 0 0) (P.getD (n - 1) 0) fun c=>if c = true then .ret (n,P) else kas_descPart n P.size (kas_rev P 0 n)) = (n,P):=by
          show kev lt (if lt (P.getD 0 0) (P.getD (n - 1) 0) = true then _ else _) = _
          rw [q,if_pos rfl]; rfl
        rw [this]
        exact ⟨rfl,.refl _,a,by show n ≤ _; omega,c⟩
      | false =>
        have:kev lt (KasT.ask (P.getD 0 0) (P.getD (n - 1) 0) fun c=>if c = true then .ret (n,P) else kas_descPart n P.size (kas_rev P 0 n)) = kev lt (kas_descPart n P.size (kas_rev P 0 n)):=by
          show kev lt (if lt (P.getD 0 0) (P.getD (n - 1) 0) = true then _ else _) = _
          rw [q,if_neg (by simp)]
        rw [this]
        have al:∀ k l,0 ≤ k→k < n→0 ≤ l→l < n→le' lt (P.getD k 0) (P.getD l 0):=fun k l _ h2 _ h4 =>
          W.tr _ _ _ (c k (n - 1) (by omega) (by omega)) (W.tr _ _ _ q (c 0 l (by omega) h4))
        refine descPart_ok W (by omega) (Nat.le_refl _) (rev_sz _ _ _) (mirror_perm _ _ _ _) ?_
        refine NoI.more W a (NoI.turn W (by omega) (fun i j hij hj=>al _ _ (by omega) hj (by omega) (by omega)) al) ?_
        rw [gd_rev (by omega),gd_rev (by omega),if_pos (by omega),if_neg (by omega)]
        exact W.tr _ _ _ (W.asy _ _ g') (al _ _ (by omega) (by omega) (by omega) (by omega))
    · rw [if_neg h2]
      obtain rfl : n = 1:=by omega
      refine descPart_ok W (by omega) (Nat.le_refl _) rfl (.refl _) ?_
      exact NoI.more W (Nat.le_refl _) (fun i j hij hj=>by
        obtain rfl : j = 0:=by omega
        obtain rfl : i = 0:=by omega
        exact W.irr _) (W.asy _ _ g')
theorem place_ok (W:WOrd lt) {p:Array Nat} {k:Nat} (h:SoT lt p k):∀ (f l r:Nat),l ≤ r→r ≤ k→r - l ≤ f→(∀ i,i < l→le' lt (p.getD i 0) (p.getD k 0))→(∀ i,r ≤ i→i < k→le' lt (p.getD k 0) (p.getD i 0)) →
    kev lt (kas_place p k f l r) ≤ k∧(∀ i,i < kev lt (kas_place p k f l r)→le' lt (p.getD i 0) (p.getD k 0))∧∀ i,kev lt (kas_place p k f l r) ≤ i→i < k→le' lt (p.getD k 0) (p.getD i 0)
  | 0,l,r,hl,hr,hf,h1,h2=>by
    obtain rfl : l = r:=by omega
    exact ⟨hr,h1,h2⟩
  | f + 1,l,r,hl,hr,hf,h1,h2=>by
    by_cases e:l ≥ r
    · obtain rfl : l = r:=by omega
      have:kev lt (kas_place p k (f + 1) l l) = l:=by
        show kev lt (if l ≥ l then _ else _) = _
        rw [if_pos (Nat.le_refl _)]; rfl
      rw [this]; exact ⟨hr,h1,h2⟩
    · cases c:lt (p.getD k 0) (p.getD ((l + r) / 2) 0) with
      | true =>
        have:kev lt (kas_place p k (f + 1) l r) = kev lt (kas_place p k f l ((l + r) / 2)):=by
          show kev lt (if l ≥ r then _ else KasT.ask _ _ _) = _
          rw [if_neg e]
          show kev lt (if lt (p.getD k 0) (p.getD ((l + r) / 2) 0) = true then _ else _) = _
          rw [c,if_pos rfl]
        rw [this]
        exact place_ok W h f l ((l + r) / 2) (by omega) (by omega) (by omega) h1 fun i a b=>W.tr _ _ _ (W.asy _ _ c) (h _ _ a b)
      | false =>
        have:kev lt (kas_place p k (f + 1) l r) = kev lt (kas_place p k f ((l + r) / 2 + 1) r):=by
          show kev lt (if l ≥ r then _ else KasT.ask _ _ _) = _
          rw [if_neg e]
          show kev lt (if lt (p.getD k 0) (p.getD ((l + r) / 2) 0) = true then _ else _) = _
          rw [c,if_neg (by simp)]
        rw [this]
        exact place_ok W h f ((l + r) / 2 + 1) r (by omega) hr (by omega) (fun i a=>W.tr _ _ _ (h i ((l + r) / 2) (by omega) (by omega)) c) h2
theorem bin_ok (W:WOrd lt) {P:Array Nat}:∀ (f:Nat) (p:Array Nat) (k:Nat),k + f = P.size→p.size = P.size→p.Perm P→SoT lt p k →
    (kev lt (kas_bin f p k)).Perm P∧SoT lt (kev lt (kas_bin f p k)) P.size
  | 0, p, k, hk, sz, pm, h => ⟨pm, by obtain rfl : k = P.size := by omega
                                      exact h⟩
  | f + 1,p,k,hk,sz,pm,h=>by
    have e:kev lt (kas_bin (f + 1) p k) = kev lt (kas_bin f (bubble p k (k - kev lt (kas_place p k k 0 k))) (k + 1)):=by
      show kev lt (KasT.bind _ _) = _
      rw [kev_bind]
    rw [e]
    obtain ⟨a,b,c⟩:=place_ok W h k 0 k (Nat.zero_le _) (Nat.le_refl _) (by omega) (fun i z=>absurd z (Nat.not_lt_zero _)) (fun i z1 z2=>by omega)
    generalize kev lt (kas_place p k k 0 k) = l at *
    refine bin_ok W f _ (k + 1) (by omega) ((bubble_size _ _ _).trans sz) ((bubble_perm _ _ _).trans pm) fun i j hij hj=>?_
    rw [gd_bub (by omega) (by omega),gd_bub (by omega) (by omega)]
    have ekl:k - (k - l) = l:=by omega
    rw [ekl]
    by_cases ei:i = l
    · rw [if_pos ei]
      by_cases ej:j = l
      · rw [if_pos ej]; exact W.irr _
      · rw [if_neg ej,if_pos (by omega)]; exact c _ (by omega) (by omega)
    · rw [if_neg ei]
      by_cases il:l < i∧i ≤ k
      · rw [if_pos il]
        rw [if_neg (show j ≠ l by omega),if_pos (by omega)]; exact h _ _ (by omega) (by omega)
      · rw [if_neg il]
        by_cases ej:j = l
        · rw [if_pos ej]; exact b i (by omega)
        · rw [if_neg ej]
          by_cases jl:l < j∧j ≤ k
          · rw [if_pos jl]; exact h _ _ (by omega) (by omega)
          · rw [if_neg jl]; exact h _ _ hij (by omega)
theorem sort_ok (W:WOrd lt) {n:Nat} (h1:1 ≤ n):(kev lt (kas_sort n)).Perm (List.toArray (List.range n))∧SoT lt (kev lt (kas_sort n)) n:=by
  unfold kas_sort
  rw [kev_bind]
  have hz:(List.toArray (List.range n)).size = n:=by simp
  have c:=count_ok W (P:=List.toArray (List.range n)) (by rw [hz]; exact h1)
  rw [hz] at c
  generalize kev lt (kas_count n (List.toArray (List.range n))) = r at *
  obtain ⟨s1,s2,s3,s4,s5⟩:=c
  rw [hz] at s1
  by_cases e:r.1 < n
  · rw [if_pos e]
    have em:max r.1 1 = r.1:=by omega
    rw [em]
    have:=bin_ok W (P:=List.toArray (List.range n)) (n - r.1) r.2 r.1 (by rw [hz]; omega) (by rw [hz,s1]) s2 s5
    rw [hz] at this
    exact this
  · rw [if_neg e]
    obtain e : r.1 = n:=by omega
    rw [e] at s5
    exact ⟨s2,s5⟩
noncomputable def kok (lt:Nat→Nat→Bool) (n:Nat) {α:Type}:KasT α→Prop
  | .ret _=>True
  | .ask i j k=>i < n∧j < n∧kok lt n (k (lt i j))
theorem kok_bind {n:Nat} {α β:Type} {f:α→KasT β}:∀ {t:KasT α},kok lt n t→kok lt n (f (kev lt t))→kok lt n (t.bind f)
  | .ret _,_,h=>h
  | .ask i j k,⟨a,b,c⟩,h=>⟨a,b,kok_bind (t:=k (lt i j)) c h⟩
structure AL (n:Nat) (p:Array Nat):Prop where
  pos:0 < n
  all:∀ x ∈ p,x < n
theorem AL.at {n:Nat} {p:Array Nat} (h:AL n p) (i:Nat):p.getD i 0 < n:=by
  rw [Array.getD_eq_getD_getElem?]
  cases e:p[i]? with
  | none=>exact h.pos
  | some x=>exact h.all x (Array.mem_of_getElem? e)
theorem AL.of {n:Nat} {p q:Array Nat} (h:AL n p) (e:q.Perm p):AL n q:=⟨h.pos,fun x hx=>h.all x (e.mem_iff.mp hx)⟩
theorem AL.rev {n:Nat} {p:Array Nat} (h:AL n p) (i j:Nat):AL n (kas_rev p i j):=h.of (mirror_perm _ _ _ _)
theorem asc_kok {n:Nat} {p:Array Nat} (h:AL n p):∀ f k,kok lt n (kas_asc p f k)
  | 0,_=>trivial
  | f + 1,k=>by
    refine ⟨h.at _,h.at _,?_⟩
    dsimp only
    split
    · trivial
    · exact asc_kok h f (k + 1)
theorem desc_kok {n:Nat}:∀ (f:Nat) (p:Array Nat) (k q:Nat),AL n p→kok lt n (kas_desc f p k q)∧AL n (kev lt (kas_desc f p k q)).1
  | 0,p,k,q,h=>⟨trivial,h⟩
  | f + 1,p,k,q,h=>by
    have D:∀ t:KasT (Array Nat × Nat × Nat),(if lt (p.getD k 0) (p.getD (k - 1) 0) = true then (if q > 0 then kas_desc f (kas_rev p (k - (q + 1)) k) (k + 1) 0 else kas_desc f p (k + 1) 0)
        else .ask (p.getD (k - 1) 0) (p.getD k 0) fun d=>if d = true then .ret (p,k,q) else kas_desc f p (k + 1) (q + 1)) = t→kok lt n t∧AL n (kev lt t).1→kok lt n (kas_desc (f + 1) p k q)∧AL n (kev lt (kas_desc (f + 1) p k q)).1:=fun t e z=>by
      subst e
      exact ⟨⟨h.at _,h.at _,z.1⟩,z.2⟩
    cases c:lt (p.getD k 0) (p.getD (k - 1) 0) with
    | true =>
      by_cases hq:q > 0
      · exact D _ (by rw [c,if_pos rfl,if_pos hq]) (desc_kok f (kas_rev p (k - (q + 1)) k) (k + 1) 0 (h.rev _ _))
      · exact D _ (by rw [c,if_pos rfl,if_neg hq]) (desc_kok f p (k + 1) 0 h)
    | false =>
      refine D _ (by rw [c,if_neg (by simp)]) ?_
      cases d:lt (p.getD (k - 1) 0) (p.getD k 0) with
      | true =>
        refine ⟨⟨h.at _,h.at _,?_⟩,?_⟩
        · dsimp only; rw [d,if_pos rfl]; trivial
        · show AL n (kev lt (if lt (p.getD (k - 1) 0) (p.getD k 0) = true then KasT.ret (p,k,q) else kas_desc f p (k + 1) (q + 1))).1
          rw [d,if_pos rfl]; exact h
      | false =>
        have r:=desc_kok f p (k + 1) (q + 1) h
        refine ⟨⟨h.at _,h.at _,?_⟩,?_⟩
        · dsimp only; rw [d,if_neg (by simp)]; exact r.1
        · show AL n (kev lt (if lt (p.getD (k - 1) 0) (p.getD k 0) = true then KasT.ret (p,k,q) else kas_desc f p (k + 1) (q + 1))).1
          rw [d,if_neg (by simp)]; exact r.2
theorem tail3_kok {n k r:Nat} {p:Array Nat} (h:AL n p):kok lt n (kas_tail3 k r p):=kok_bind (asc_kok (h.rev _ _) _ _) trivial
theorem descPart_kok {n k r:Nat} {p:Array Nat} (h:AL n p):kok lt n (kas_descPart k r p):=by
  obtain ⟨a,b⟩:=desc_kok (lt:=lt) (r - (k + 1)) p (k + 1) 0 h
  refine kok_bind a ?_
  split
  · exact tail3_kok (b.rev _ _)
  · exact tail3_kok b
theorem count_kok {n r:Nat} {p:Array Nat} (h:AL n p):kok lt n (kas_count r p):=by
  refine kok_bind (asc_kok h _ _) ?_
  split
  · trivial
  · split
    · refine ⟨h.at _,h.at _,?_⟩
      dsimp only
      split
      · trivial
      · exact descPart_kok (h.rev _ _)
    · exact descPart_kok h
theorem place_kok {n k:Nat} {p:Array Nat} (h:AL n p):∀ f l r,kok lt n (kas_place p k f l r)
  | 0,_,_=>trivial
  | f + 1,l,r=>by
    show kok lt n (if l ≥ r then _ else _)
    split
    · trivial
    · refine ⟨h.at _,h.at _,?_⟩
      dsimp only
      split
      · exact place_kok h f _ _
      · exact place_kok h f _ _
theorem bin_kok {n:Nat}:∀ (f:Nat) (p:Array Nat) (k:Nat),AL n p→kok lt n (kas_bin f p k)
  | 0,_,_,_=>trivial
  | f + 1,p,k,h=>kok_bind (place_kok h _ _ _) (bin_kok f _ _ (h.of (bubble_perm _ _ _)))
theorem sort_kok (W:WOrd lt) {n:Nat} (h1:1 ≤ n):kok lt n (kas_sort n):=by
  have hz:(List.toArray (List.range n)).size = n:=by simp
  have al:AL n (List.toArray (List.range n)):=⟨h1,fun x hx=>by simpa using hx⟩
  have c:=count_ok W (P:=List.toArray (List.range n)) (by rw [hz]; exact h1)
  rw [hz] at c
  refine kok_bind (count_kok al) ?_
  split
  · exact bin_kok _ _ _ (al.of c.2.1)
  · trivial
theorem kasWp_of {n:Nat} {α:Type} {cmp:Nat→Nat→(Bool→Shared→Prop)→Shared→Prop} {s:Shared} (hc:∀ i j C,i < n→j < n→C (lt i j) s→cmp i j C s) {Q:α→Shared→Prop}:∀ t:KasT α,kok lt n t→Q (kev lt t) s→t.kasWp cmp Q s
  | .ret _,_,h=>h
  | .ask i j k,⟨a,b,c⟩,h=>hc i j _ a b (kasWp_of hc (k (lt i j)) c h)
end
end Dl
namespace Dl
open PySem PySem.Spec PyProof.Rows L2 PySem.W
theorem obj_there {P:Program} {w:World} {H:Hp} {h:Heap} {a:Addr} {o:HO} (x:ObjOk P w H h a o):∃ ob,h.get? a = some ob:=by
  cases o with
  | lst xs=>have ⟨_,_,_,_,e⟩:=x; exact ⟨_,e⟩
  | tup xs=>have ⟨_,_,_,_,e,_⟩:=x; exact ⟨_,e⟩
  | dK kvs=>have ⟨_,_,_,_,_,_,_,e,_⟩:=x; exact ⟨_,e⟩
  | dT kvs=>have ⟨_,_,_,_,_,_,_,e,_⟩:=x; exact ⟨_,e⟩
  | set S n=>have ⟨_,_,_,_,e,_⟩:=x; exact ⟨_,e⟩
  | ins C dx fs=>have ⟨_,_,_,e,_⟩:=x; exact ⟨_,e⟩
  | own y=>exact x
  | xd fs=>have ⟨_,⟨_,_,_,e,_⟩,_⟩:=x; exact ⟨_,e⟩
  | rng lo hi=>have ⟨_,_,_,e⟩:=x; exact ⟨_,e⟩
  | frz ob u=>exact ⟨_,x.1⟩
  | tbl ps=>exact ⟨_,x⟩
  | met f y=>exact ⟨_,x⟩
  | ext φ=>exact x.2.1
end Dl
namespace Dl
open PySem PySem.Spec PyProof.Rows L2 PySem.W
section
variable {prog:Program} {w:World} {A:Around} {E:Value→Shared→Prop} {s:Shared}
theorem sort_one {a:Addr} {v:Value} {n:Nat} {P:PySem.Fin→Shared→Prop} (ho:s.heap.get? a = some (seqObj "list" [v].toArray n))
    (h:P (.done (.ret .none)) { s with heap:=sortedHeap s.heap a [v] #[v] }):wpAny (model prog w) A (Builtin.«list.sort» ⟨[.ref a],[]⟩) P E s:=by
  rw [list_sort_plain]
  have ha:a < s.heap.objs.size:=Heap.lt_size ho
  refine wpAny_bind (listItems_at ho rfl ?_)
  refine wpAny_bind (listUpdate_at ho rfl ?_)
  obtain ⟨e1,ho1⟩ : ∃ e1,(s.heap.update a (Obj.mapSeq fun _=>#[])).get? a = some (seqObj "list" #[] e1):=⟨_,get?_update_seq ho (fun _=>#[])⟩
  refine wpAny_bind (seqEpoch_at ho1 rfl ?_)
  refine wpAny_bind (wpAny_newTuple ?_)
  refine wpAny_bind (wpAny_newList ?_)
  refine wpAny_holding ?_
  have ho6:(((s.heap.update a (Obj.mapSeq fun _=>#[])).push (seqObj "tuple" [v].toArray 0)).push (seqObj "list" #[] 0)).get? a = some (seqObj "list" #[] e1):=by
    rw [Heap.get?_push_ne _ _ _ (by rw [size_push',Heap.size_update]; exact Nat.ne_of_lt (Nat.lt_succ_of_lt ha)),Heap.get?_push_ne _ _ _ (by rw [Heap.size_update]; exact Nat.ne_of_lt ha)]
    exact ho1
  show wpAny (model prog w) A _ P E { s with heap:=((s.heap.update a (Obj.mapSeq fun _=>#[])).push (seqObj "tuple" [v].toArray 0)).push (seqObj "list" #[] 0) }
  dsimp only
  have h2:[v].toArray.size < 2:=by simp
  have ez:Array.map (fun x=>x.snd) (arrOf (SortSt.mk' general' ([v].toArray.zip [v].toArray) #[] 7 none)) = #[v]:=by
    show Array.map (fun x=>x.snd) ([v].toArray.zip [v].toArray) = #[v]
    simp
  rw [if_pos h2,if_pos h2]
  refine wpAny_bind (wpAny_pure ?_)
  rw [StateT.run_pure]
  refine wpAny_bind (wpAny_pure ?_)
  dsimp only
  refine wpAny_bind (seqEpoch_at ho6 rfl ?_)
  rw [ez]
  refine wpAny_bind (listUpdate_at ho6 rfl ?_ (hsz2:=by show 1 ≤ sizeLine + 1; rw [sizeLine_eq]; omega))
  simp only [bne_self_eq_false,Bool.false_eq_true,if_false]
  exact wpAny_pure h
theorem sorted_one {l:Addr} {v:Value} {Q:Value→Shared→Prop} (hl:s.heap.IsList l [v].toArray) (h:Q (.ref (s.heap.objs.size + 1)) { s with heap:=sortedAll s.heap [v] #[v] }):wpAny (model prog w) A (call (.builtin "sorted") [.ref l]) Q E s:=by
  refine Calls.call_function_entry kind_sorted plain_sorted entry_sorted (args_sorted1 _) ?_
  unfold Builtin.«sorted»
  refine wpAny_bind (m:=checkCount "sorted" 1 1 _) (wpAny_pure ?_)
  refine wpAny_bind (PyProof.Rows.collect_list hl ?_ (by show 1 ≤ sizeLine; decide))
  refine wpAny_bind (wpAny_newList ?_)
  have hsz:((s.heap.push (seqObj "list" #[] 0)).update s.heap.objs.size (Obj.mapSeq (· ++ [v].toArray))).objs.size = s.heap.objs.size + 1:=by
    rw [Heap.size_update,size_push']
  have hoL:(((s.heap.push (seqObj "list" #[] 0)).update s.heap.objs.size (Obj.mapSeq (· ++ [v].toArray))).push (seqObj "list" [v].toArray 0)).get? (s.heap.objs.size + 1) = some (seqObj "list" [v].toArray 0):=by
    rw [← hsz]; exact Heap.get?_push_size _ rfl
  show wpAny _ _ _ _ _ { s with heap:=((s.heap.push (seqObj "list" #[] 0)).update s.heap.objs.size (Obj.mapSeq (· ++ [v].toArray))).push (seqObj "list" [v].toArray 0) }
  rw [hsz]
  refine wpAny_bind (wpAny_holding (wpAny_call_entry slot_list_sort ⟨_,hoL,rfl⟩ entry_list_sort (sort_one hoL ⟨_,rfl,?_⟩) (args_list_sort _)))
  exact wpAny_pure ⟨_,rfl,h⟩
theorem lex_keys {b:Bool} {Q:Bool→Shared→Prop}:∀ (ps qs:List Key) (xs ys:List Value) (i:Nat),Vals (ps.map kV) xs→Vals (qs.map kV) ys→shp ps = shp qs→Q (klt ps qs) s→KatLex prog w A b false Q (xs.zip ys) i s
  | [],[],_,_,_,.nil,.nil,_,h=>kat_nil h
  | [],_ :: _,_,_,_,_,_,e,_=>by cases e
  | _ :: _,[],_,_,_,_,_,e,_=>by cases e
  | p :: r,q :: t,x :: xs,y :: ys,i,.cons rx vx,.cons ry vy,e,h=>by
    simp only [shp,List.map_cons,List.cons.injEq] at e
    cases p with
    | inl m=>cases q with
      | inl n =>
        obtain ⟨t1,rfl⟩:=(show ∃ t,x = Value.int m t from rx)
        obtain ⟨t2,rfl⟩:=(show ∃ t,y = Value.int n t from ry)
        refine kat_cons (wpAny_eqBool_int (kat_go (fun ee=>kat_yes ?_) (fun ee=>kat_no ?_)))
        · have ee:m = n:=eq_of_beq ee
          subst ee
          refine lex_keys r t xs ys (i + 1) vx vy e.2 ?_
          unfold klt at h; rw [if_pos rfl] at h; exact h
        · have ne:m ≠ n:=fun z=>by subst z; simp at ee
          have z:klt (.inl m :: r) (.inl n :: t) = decide (m < n):=by unfold klt; rw [if_neg (fun z=>ne (by injection z))]; rfl
          rw [z] at h
          cases (b && i == 0) with
          | true=>exact oneLt_int h
          | false=>exact kat_one _ _ (PyProof.Rows.lt_int h)
      | inr y=>cases e.1
    | inr m=>cases q with
      | inl n=>cases e.1
      | inr n =>
        obtain ⟨t1,rfl⟩:=(show ∃ t,x = Value.str m t from rx)
        obtain ⟨t2,rfl⟩:=(show ∃ t,y = Value.str n t from ry)
        refine kat_cons (wpAny_eqBool_str (kat_go (fun ee=>kat_yes ?_) (fun ee=>kat_no ?_)))
        · have ee:m = n:=of_decide_eq_true ee
          subst ee
          refine lex_keys r t xs ys (i + 1) vx vy e.2 ?_
          unfold klt at h; rw [if_pos rfl] at h; exact h
        · have ne:m ≠ n:=of_decide_eq_false ee
          have z:klt (.inr m :: r) (.inr n :: t) = decide (m.cps.toList < n.cps.toList):=by unfold klt; rw [if_neg (fun z=>ne (by injection z))]; rfl
          rw [z] at h
          cases (b && i == 0) with
          | true=>exact oneLt_str h
          | false=>exact kat_one _ _ (PyProof.Rows.lt_str h)
end
section
variable {X:Cx} {e:Expr} {es:List Expr} {t:TAd} {p pos:Pos}
noncomputable def rSortK (K:PySem.W.Frag):List V→Hp→VK→Prop:=fun xs H Q=>∃ (p:Addr) (vs:List V) (ks:List (List Key)) (sh:List Bool),xs = [.ref p]∧SqL K H p vs∧vs.length = ks.length∧(∀ k ∈ ks,shp k = sh)∧sh ≠ [] ∧
  (∀ i v,vs[i]? = some v→∃ a,v = .ref a∧SqT K H a ((ks.getD i []).map kV))∧2 ≤ vs.length∧vs.length < 64 ∧
  ∀ ps:List Nat,ps.Perm (List.range vs.length)→(∀ i j,i ≤ j→j < vs.length→klt (ks.getD (ps.getD j 0) []) (ks.getD (ps.getD i 0) []) = false) →
    ∀ l,H l = none→Q (.ref l) (upd H l (.lst (ps.map fun i=>vs.getD i .non)))
theorem katTups_ofK {h:Heap} {T:Bool}:∀ {its:List Value},(∀ v ∈ its,∃ a o xs n f,v = .ref a∧h.get? a = some o∧o.cls = .type "tuple"∧o.data = .seq xs n∧xs[0]? = some f∧(if T then ∃ i t,f = .str i t else ∃ i t,f = .int i t)) →
    ∃ fs:List Value,KatTups h its fs∧fs.length = its.length∧∀ v ∈ fs,if T then ∃ i t,v = .str i t else ∃ i t,v = .int i t
  | [],_=>⟨[],trivial,rfl,fun _ z=>nomatch z⟩
  | v :: r,hh=>by
    obtain ⟨fs,a,b,c⟩:=katTups_ofK (T:=T) (its:=r) fun v hv=>hh v (List.mem_cons_of_mem _ hv)
    obtain ⟨x,o,xs,n,f,e1,e2,e3,e4,e5,e6⟩:=hh v (List.mem_cons_self ..)
    refine ⟨f :: fs,⟨⟨x,o,xs,n,e1,e2,e3,e4,e5⟩,a⟩,by simp [b],fun v hv=>?_⟩
    rcases List.mem_cons.mp hv with rfl | hv
    · exact e6
    · exact c v hv
theorem call_sortK:CallR X (.builtin "sorted") (rSortK X.K):=by
  rintro pins s σ H xs us Q I r ⟨p,vs,ks,sh,rfl,hq,lk,hsh,nsh,ht,h2,h64,q⟩
  obtain ⟨u,rfl,ru⟩:=r.one
  cases ru
  obtain ⟨its,rv,pl,hz⟩:=I.list hq
  have el:=rv.length
  obtain ⟨m,F⟩:=I.fr
  have kmem:∀ i,i < its.length→shp (ks.getD i []) = sh:=fun i hi=>by
    rw [List.getD_eq_getElem?_getD,List.getElem?_eq_getElem (by omega)]
    exact hsh _ (List.getElem_mem _)
  have tup:∀ i,i < its.length→∃ a o n xs,its.getD i .none = .ref a∧a ≠ X.env.locals∧s.heap.get? a = some o∧o.cls = .type "tuple"∧o.data = .seq (List.toArray xs) n∧Vals ((ks.getD i []).map kV) xs:=fun i hi=>by
    obtain ⟨a,ea,hs⟩:=ht i (vs[i]'(by omega)) (List.getElem?_eq_getElem _)
    obtain ⟨u,hu,ru⟩:=rv.get (List.getElem?_eq_getElem (show i < vs.length by omega))
    rw [ea] at ru
    have ru:u = .ref a:=ru
    subst ru
    have hL:a ≠ X.env.locals:=fun z=>by
      rcases hs with (h | ⟨o,h⟩) | ⟨o,_,_,hk,_⟩
      · rw [z,I.free] at h; cases h
      · rw [z,I.free] at h; cases h
      · have h0:=I.ok.mod.kin a o hk
        have h5:=Heap.lt_size h0
        rw [z] at h5
        exact absurd (Nat.lt_of_lt_of_le h5 (Nat.le_trans I.ok.bsz I.ok.above)) (Nat.lt_irrefl _)
    obtain ⟨ts,rt,⟨o,ho,hc,n,hd⟩,_⟩:=I.tuple hs
    exact ⟨a,o,n,ts,by rw [List.getD_eq_getElem?_getD,hu]; rfl,hL,ho,hc,hd,rt⟩
  refine kat_sorted (h₀:=X.base) F news_all pl.isList (by omega) (by omega) fun D e1 h' F' N' low=>?_
  have keep1:∀ (g:Heap) (nw:List (Addr × Obj)),Fr X.base X.env.locals g m→News X.base X.env.locals g nw→(∀ q ∈ allNews X.base s.heap X.env.locals,q ∈ nw)→∀ b o,b ≠ X.env.locals→s.heap.get? b = some o→g.get? b = some o:=fun g nw Fg Ng sub b o hb eb=>by
    cases z:X.base.get? b with
    | some u =>
      have:=I.bk b u z
      rw [eb] at this; cases this
      exact Fg.keep b _ z
    | none=>exact (Ng (b,o) (sub _ (mem_allNews hb z eb))).1
  have keep:=keep1 h' _ F' N' (fun q hq=>List.mem_cons_of_mem _ hq)
  have nD:=N' (D,seqObj "list" #[] e1) (List.mem_cons_self ..)
  have sD:s.heap.get? D = none:=by
    cases z:s.heap.get? D with
    | none=>rfl
    | some o=>exact absurd (low (D,o) (mem_allNews nD.2.1 nD.2.2 z)) (Nat.lt_irrefl _)
  cases sh with
  | nil=>exact absurd rfl nsh
  | cons T sr =>
  obtain ⟨fs,kt,lf,hi⟩:=katTups_ofK (T:=T) (h:=h') (its:=its) fun v hv=>by
    obtain ⟨i,hi,ei⟩:=List.getElem_of_mem hv
    obtain ⟨a,o,n,xs,b1,b2,b3,b4,b5,b6⟩:=tup i hi
    have hk:=kmem i hi
    generalize ks.getD i [] = kl at hk b6
    cases kl with
    | nil=>cases hk
    | cons k0 kr =>
      simp only [shp,List.map_cons,List.cons.injEq] at hk
      cases b6 with
      | @cons _ y _ yr ry vy =>
        refine ⟨a,o,_,n,y,?_,keep a o b2 b3,b4,b5,rfl,?_⟩
        · rw [← b1,List.getD_eq_getElem?_getD,List.getElem?_eq_getElem hi,ei]; rfl
        · rw [← hk.1]
          cases k0 with
          | inl m=>obtain ⟨t1,rfl⟩:=(show ∃ t,y = Value.int m t from ry); exact ⟨m,t1,rfl⟩
          | inr m=>obtain ⟨t1,rfl⟩:=(show ∃ t,y = Value.str m t from ry); exact ⟨m,t1,rfl⟩
  refine kat_kind (T:=if T then .type "str" else .type "int") kt (by omega) (fun v hv=>?_) (by cases T <;> decide) ?_
  · have z:=hi v hv
    cases T with
    | true=>obtain ⟨i,t,rfl⟩:=z; exact .of_pure rfl
    | false=>obtain ⟨i,t,rfl⟩:=z; exact .of_pure rfl
  have lts:∀ i j,i < its.length→j < its.length→True:=fun _ _ _ _=>trivial
  have W:WOrd fun i j=>klt (if i < its.length then ks.getD i [] else ks.getD 0 []) (if j < its.length then ks.getD j [] else ks.getD 0 []):=by
    have sh':∀ i,shp (if i < its.length then ks.getD i [] else ks.getD 0 []) = T :: sr:=fun i=>by
      split
      · exact kmem i (by assumption)
      · exact kmem 0 (by omega)
    exact ⟨fun a=>klt_irr _,fun a b h=>klt_asy _ _ h,fun a b c h1 h2=>klt_tr _ _ _ ((sh' a).trans (sh' b).symm) ((sh' b).trans (sh' c).symm) h1 h2⟩
  refine kasWp_of (lt:=fun i j=>klt (if i < its.length then ks.getD i [] else ks.getD 0 []) (if j < its.length then ks.getD j [] else ks.getD 0 [])) (n:=its.length) (fun i j C hi hj hC=>?_) _ (sort_kok W (by omega)) ?_
  · obtain ⟨a,o,n,xs,b1,b2,b3,b4,b5,b6⟩:=tup i hi
    obtain ⟨a',o',n',xs',c1,c2,c3,c4,c5,c6⟩:=tup j hj
    rw [if_pos hi,if_pos hj] at hC
    show wpAny _ _ (keyLt' _ (its.getD i .none) (its.getD j .none)) _ _ _
    rw [b1,c1]
    refine kat_lt (keep a o b2 b3) b5 (keep a' o' c2 c3) c5 ?_
    have e1:=b6.length
    have e2:=c6.length
    have e3:(ks.getD i []).length = (ks.getD j []).length:=by
      have:=congrArg List.length ((kmem i hi).trans (kmem j hj).symm)
      simpa [shp] using this
    have ef:decide ((List.toArray xs).size < (List.toArray xs').size) = false:=by
      rw [List.length_map] at e1 e2
      simp only [List.size_toArray,decide_eq_false_iff_not]; omega
    rw [ef]
    exact lex_keys _ _ _ _ 0 b6 c6 ((kmem i hi).trans (kmem j hj).symm) hC
  · obtain ⟨pm,so⟩:=sort_ok W (n:=its.length) (by omega)
    generalize kev (fun i j=>klt (if i < its.length then ks.getD i [] else ks.getD 0 []) (if j < its.length then ks.getD j [] else ks.getD 0 [])) (kas_sort its.length) = pa at *
    have pm':pa.toList.Perm (List.range its.length):=by simpa using pm.toList
    have pl':pa.toList.length = its.length:=by rw [pm'.length_eq]; simp
    refine KasFin.intro F' N' (UpdF.head fun q hq=>Nat.ne_of_lt (low q hq)) fun h'' c F'' N''=>?_
    have keep2:=keep1 h'' _ F'' N'' (fun q hq=>List.mem_cons_of_mem _ hq)
    have neD:∀ b o,s.heap.get? b = some o→b ≠ D:=fun b o z w=>by rw [w,sD] at z; cases z
    have hD:H D = none:=by
      cases z:H D with
      | none=>rfl
      | some u =>
        obtain ⟨ob,eo⟩:=obj_there (I.hok D u z)
        rw [sD] at eo; cases eo
    refine ⟨.ref D,upd H D (.lst (pa.toList.map fun i=>vs.getD i .non)),?_,rfl,q pa.toList (by rw [el]; exact pm') (fun i j hij hj=>?_) D hD⟩
    · have mem:∀ b u,H b = some u→b ≠ X.env.locals:=fun b u z w=>by rw [w,I.free] at z; cases z
      refine L2.Inv.step (s:=s) (h':=h'') (H':=upd H D (.lst (pa.toList.map fun i=>vs.getD i .non))) I (g':=s.gens) (d':=s.drawn) (t':=s.toks) (ch:=[]) (fun _ z=>nomatch z) (fun b o hb _ _ eb _=>keep2 b o hb eb) (fun b o hb _ _ eb _=>⟨o.slots,keep2 b o hb eb⟩) (fun b o _ eb hn=>by rw [upd_ne (neD b o eb)]; exact hn)
        (fun b o _ eb=>?_) (fun b xs eb=>by rw [upd_ne (ne_of_none eb hD)]; exact eb) (fun b o u eb=>by rw [upd_ne (ne_of_none eb hD)]; exact eb) (fun b ps eb=>⟨#[],by rw [upd_ne (ne_of_none eb hD),eb]; simp⟩) (fun m' hm=>?_) (fun b u eb=>?_) I.bare
      · by_cases hb:b = X.env.locals
        · subst hb
          obtain ⟨o',_,_,ho',_⟩:=F''.ns
          exact ⟨o',ho'⟩
        · exact ⟨o,keep2 b o hb eb⟩
      · have:m' = m:=funext fun x=>hm.agree F.ns x
        rw [this]; exact F''.ns
      · by_cases hb:b = D
        · subst hb
          rw [upd_same] at eb
          cases eb
          refine ⟨by rw [List.length_map,pl',← el]; exact hz,pa.toList.map fun i=>its.getD i .none,c,?_,?_⟩
          · have go:∀ l:List Nat,(∀ i ∈ l,i < its.length)→Vals (l.map fun i=>vs.getD i .non) (l.map fun i=>its.getD i .none):=by
              intro l
              induction l with
              | nil=>intro _; exact .nil
              | cons x r ih =>
                intro hl
                have hx:=hl x (List.mem_cons_self ..)
                obtain ⟨u,hu,ru⟩:=rv.get (List.getElem?_eq_getElem (show x < vs.length by omega))
                refine .cons ?_ (ih fun i hi=>hl i (List.mem_cons_of_mem _ hi))
                have e1:vs.getD x .non = vs[x]'(by omega):=by rw [List.getD_eq_getElem?_getD,List.getElem?_eq_getElem (by omega)]; rfl
                have e2:its.getD x .none = u:=by rw [List.getD_eq_getElem?_getD,hu]; rfl
                show RelV (vs.getD x .non) (its.getD x .none)
                rw [e1,e2]; exact ru
            exact go _ fun i hi=>by have:=pm'.mem_iff.mp hi; simpa using this
          · exact (N'' _ (List.mem_cons_self ..)).1
        · rw [upd_ne hb] at eb
          refine (I.hok b u eb).stay (fun c v hc q=>keep2 c v ?_ q) (fun c q=>by rw [upd_ne (ne_of_none q hD)]; exact q) fun c xs q=>by rw [upd_ne (ne_of_none q hD)]; exact q
          rcases hc with z | z
          · rw [z]; exact mem b u eb
          · exact mem c _ z
    · have z:=so i j hij (by omega)
      have g:∀ k,pa.getD k 0 = pa.toList.getD k 0:=fun k=>by rw [Array.getD_eq_getD_getElem?,List.getD_eq_getElem?_getD,Array.getElem?_toList]
      have lt:∀ k,k < its.length→pa.toList.getD k 0 < its.length:=fun k hk=>by
        rw [List.getD_eq_getElem?_getD,List.getElem?_eq_getElem (by omega)]
        have:=pm'.mem_iff.mp (List.getElem_mem (l:=pa.toList) (n:=k) (by omega))
        simpa using this
      have z':klt (if pa.getD j 0 < its.length then ks.getD (pa.getD j 0) [] else ks.getD 0 []) (if pa.getD i 0 < its.length then ks.getD (pa.getD i 0) [] else ks.getD 0 []) = false:=z
      rw [g,g,if_pos (lt j (by omega)),if_pos (lt i (by omega))] at z'
      exact z'
noncomputable def rSort1 (K:PySem.W.Frag):List V→Hp→VK→Prop:=fun xs H Q=>∃ (p:Addr) (v:V),xs = [.ref p]∧SqL K H p [v]∧∀ l,H l = none→Q (.ref l) (upd H l (.lst [v]))
theorem call_sort1:CallR X (.builtin "sorted") (rSort1 X.K):=by
  rintro pins s σ H xs us Q I r ⟨p,v,rfl,hq,q⟩
  obtain ⟨u,rfl,ru⟩:=r.one
  cases ru
  obtain ⟨its,rv,pl,hz⟩:=I.list hq
  obtain ⟨u,rfl,ru⟩:=rv.one
  refine sorted_one pl.isList ?_
  obtain ⟨n,he⟩:=sortedAll_at s.heap [u] #[u]
  exact ⟨.ref _,_,I.laid (a:=s.heap.objs.size + 1) (o:=.lst [v]) (t':=s.toks) (fun _ _=>sortedAll_old) (Nat.le_succ _) ⟨by show 1 ≤ sizeLine; decide,[u],n,.cons ru .nil,he⟩,rfl,q _ (I.hok.fresh (Nat.le_succ _))⟩
theorem denl_keys {K:PySem.W.Frag} {G:Hp}:∀ {ws:List V} {ks:List Key},DenL K G ws (ks.map dK)→ws = ks.map kV
  | [],[],.nil=>rfl
  | w :: r,k :: s,.cons h t=>by
    rw [List.map_cons,← denl_keys t]
    cases k with
    | inl i=>rw [show w = .int i from h.int_inv]; rfl
    | inr x=>rw [show w = .str x from h.str_inv]; rfl
theorem cs_sortF {K:PySem.W.Frag} (G H:Hp) (xs:List V) (ds:List D) (Q:D→Prop) (Q2:VK) (s:Same G H) (hd:DenL K G xs ds) (h:cSortK ds Q)
    (k:∀ (r:Addr) (vs:List V) (l:List D),H r = none→DenL K G vs l→Q (.lst l)→Q2 (.ref r) (upd H r (.lst vs))):(rSortK K xs H Q2∨rSort1 K xs H Q2)∨rSortI K xs H Q2:=by
  unfold cSortK at h
  split at h
  · obtain ⟨ks,sh,rfl,hsh,nsh,h64,q⟩:=h
    obtain ⟨v,rfl,d1⟩:=denl1 hd
    obtain ⟨a,vs,rfl,ha,la⟩:=d1.lst_inv
    have ll:=la.length
    rw [List.length_map] at ll
    match ks,la,ll,hsh,h64,q with
    | [],la,ll,hsh,h64,q =>
      cases la
      refine .inr ⟨a,[],rfl,s.seq ha,by decide,fun ms p1 _ r hr=>?_⟩
      rw [p1.eq_nil]
      exact k r [] [] hr .nil (q [] (.refl _) .nil)
    | [k0],la,ll,hsh,h64,q =>
      cases la with | cons x1 la =>
        cases la
        refine .inl (.inr ⟨a,_,rfl,s.seq ha,fun r hr=>?_⟩)
        exact k r _ _ hr (.cons x1 .nil) (q [k0] (.refl _) (List.pairwise_singleton _ _))
    | k0 :: k1 :: kr,la,ll,hsh,h64,q =>
      refine .inl (.inl ⟨a,vs,k0 :: k1 :: kr,sh,rfl,s.seq ha,ll,hsh,nsh,fun i v hv=>?_,by rw [ll]; simp,by omega,fun ps p1 p2 r hr=>?_⟩)
      · obtain ⟨d,hd,hx⟩:=la.getV hv
        rw [List.getElem?_map] at hd
        cases w:(k0 :: k1 :: kr)[i]? with
        | none=>rw [w] at hd; cases hd
        | some kk =>
          rw [w] at hd
          cases hd
          obtain ⟨b,ws,rfl,hb,lb⟩:=Den.tup_inv hx
          refine ⟨b,rfl,?_⟩
          rw [List.getD_eq_getElem?_getD,w]
          rw [denl_keys lb] at hb
          exact Same.tupS s hb
      · generalize hks:k0 :: k1 :: kr = ks at *
        have pm:(ps.map fun i=>ks.getD i []).Perm ks:=by
          have:=p1.map fun i=>ks.getD i []
          refine this.trans ?_
          rw [ll]
          have e:(List.range ks.length).map (fun i=>ks.getD i []) = ks:=by
            apply List.ext_getElem?
            intro i
            rw [List.getElem?_map]
            by_cases z:i < ks.length
            · rw [List.getElem?_range z,List.getElem?_eq_getElem z]
              simp only [Option.map_some,List.getD_eq_getElem?_getD,List.getElem?_eq_getElem z,Option.getD_some]
            · rw [List.getElem?_eq_none (by simpa using z),List.getElem?_eq_none (by omega)]; rfl
          rw [e]
        have so:(ps.map fun i=>ks.getD i []).Pairwise (fun a b=>klt b a = false):=by
          rw [List.pairwise_map,List.pairwise_iff_getElem]
          intro i j hi hj hij
          have pl:=p1.length_eq
          rw [List.length_range] at pl
          have:=p2 i j (by omega) (by omega)
          rw [List.getD_eq_getElem?_getD (l:=ps),List.getElem?_eq_getElem hj,List.getD_eq_getElem?_getD (l:=ps),List.getElem?_eq_getElem hi] at this
          exact this
        have dl:∀ l:List Nat,(∀ i ∈ l,i < vs.length)→DenL K G (l.map fun i=>vs.getD i .non) ((l.map fun i=>ks.getD i []).map tD):=by
          intro l
          induction l with
          | nil=>intro _; exact .nil
          | cons x r ih =>
            intro hl
            have hx:=hl x (List.mem_cons_self ..)
            refine .cons ?_ (ih fun i hi=>hl i (List.mem_cons_of_mem _ hi))
            obtain ⟨d,hd,hy⟩:=la.getV (List.getElem?_eq_getElem hx)
            show Den K G (vs.getD x .non) (tD (ks.getD x []))
            rw [List.getElem?_map,List.getElem?_eq_getElem (show x < ks.length by omega)] at hd
            cases hd
            have e1:vs.getD x .non = vs[x]:=by rw [List.getD_eq_getElem?_getD,List.getElem?_eq_getElem hx]; rfl
            have e2:ks.getD x [] = ks[x]'(by omega):=by rw [List.getD_eq_getElem?_getD,List.getElem?_eq_getElem (by omega)]; rfl
            rw [e1,e2]; exact hy
        exact k r _ _ hr (dl ps fun i hi=>by have:=p1.mem_iff.mp hi; simpa using this) (q _ pm so)
  · exact h.elim
theorem cs_sortK {K:PySem.W.Frag}:CallS K (fun xs H Q=>(rSortK K xs H Q∨rSort1 K xs H Q)∨rSortI K xs H Q) cSortK:=fun G H xs ds Q Q2 s hd h k =>
  cs_sortF G H xs ds Q Q2 s hd h fun r vs l hr dl q=>k _ _ _ _ (Ext.laid s hr _) (.lst (SqL.of upd_same) (dl.up (same_upd (s.free hr) _))) q
theorem de_sortedK (hm:X.mg "sorted" = none) (ha:DA X (e :: es) t) (hg:autoParam (Gl X "sorted") ZA.a3._auto_1) (he:autoParam (starEach (e :: es) X.env = (false,eval e X.env) :: starEach es X.env) ZA.a3._auto_1) (hpl:autoParam ((backTo pos (starEach es X.env)).any (·.1) = false) ZA.a3._auto_1):DE X (.Call (.Name "sorted" p) (e :: es) [] pos) (dCall cSortK t) :=
  de_callB (CallR.or (CallR.or call_sortK call_sort1) call_sortI) cs_sortK hm (by rfl) ha hg (by decide) (by decide) he hpl
end
end Dl
namespace Dl
open PySem PySem.Spec PyProof.Rows L2
noncomputable def isO:Sl→Bool
  | .ob _ _ _=>true
  | .rc _ _=>true
  | _=>false
noncomputable def pinS (a:Nat):Sl→Sl
  | .sh d=>.sh d
  | .ob _ C fs=>.ob (some a) C fs
  | .rc _ fs=>.rc (some a) fs
  | _=>.no
noncomputable def pinO (as:Nat→Nat):Nat→Ev→Ev
  | _,[]=>[]
  | i,s :: r=>pinS (as i) s :: pinO as (i + 1) r
theorem pinO_get (as:Nat→Nat):∀ (δ:Ev) (i k:Nat),(pinO as i δ)[k]? = (δ[k]?).map (pinS (as (i + k)))
  | [],i,k=>by simp [pinO]
  | a :: r,i,0=>by simp [pinO]
  | a :: r,i,k + 1=>by simp only [pinO,List.getElem?_cons_succ]; rw [pinO_get as r (i + 1) k]; congr 2; congr 1; omega
theorem pinO_len (as:Nat→Nat):∀ (δ:Ev) (i:Nat),(pinO as i δ).length = δ.length
  | [],i=>rfl
  | a :: r,i=>by simp [pinO,pinO_len as r]
section
variable {K:PySem.W.Frag} {n:En} {δ:Ev} {σ:L2.St} {G H:Hp} {D₀:Addr} {o:HO}
theorem Rel.innerO (R:Rel K n δ σ G (del H D₀)) (hD:H D₀ = some o) (k:Nat):∃ (as:Nat→Nat) (M:Addr→Prop),Rel K ⟨G,H,M⟩ (pinO as 0 δ ++ List.replicate k .no) (σ ++ List.replicate k none) G H ∧
    ∀ (δ':Ev) (σ':L2.St) (G' H':Hp),Rel K ⟨G,H,M⟩ δ' σ' G' H'→δ'.take δ.length = pinO as 0 δ→H' D₀ = some o∧G' D₀ = none∧Same G G'∧Rel K n δ σ G' (del H' D₀):=by
  obtain ⟨ow,ok,gh⟩:=R.gh
  have gD:G D₀ = none:=R.sub.free del_same
  have owD:∀ p k,ow p = some k→p ≠ D₀∧H p ≠ none:=fun p k hk=>by
    have h2:=(ok.is p k hk).2.1
    have ne:p ≠ D₀:=fun z=>by subst z; exact h2 del_same
    rw [del_ne ne] at h2
    exact ⟨ne,h2⟩
  let io:Nat→Bool:=fun i=>match δ[i]? with
    | some s=>isO s
    | none=>false
  let as:Nat→Nat:=fun i=>match σ[i]? with
    | some (some (.ref a))=>a
    | _=>0
  let M:Addr→Prop:=fun p=>∃ i f,ow p = some (i,f)∧io i = true
  have nMD:¬ M D₀:=fun zz80=>zz80.elim fun i zz=>zz.elim fun f zz=>zz.elim fun h _=>(owD _ _ h).1 rfl
  refine ⟨as,M,⟨fun b u e=>?_,Same.refl _,fun b u e _=>e,fun b e=>e,fun b u e (e0:G b = none)=>(by rw [e0] at e; cases e),⟨fun p=>match ow p with
    | some (i,f)=>if io i = true then some (i,f) else none
    | none=>none,⟨fun p kk hk=>?_⟩,fun i s hs=>?_⟩,?_⟩,fun δ' σ' G' H' R' hk=>?_⟩
  · have z:=R.sub b u e
    have ne:b ≠ D₀:=fun w=>by subst w; rw [gD] at e; cases e
    rw [del_ne ne] at z; exact z
  · cases q:ow p with
    | none=>rw [q] at hk; cases hk
    | some jf =>
      obtain ⟨j,f⟩:=jf
      rw [q] at hk
      simp only at hk
      split at hk
      · rename_i hio
        exact ⟨(ok.is p _ q).1,(owD p _ q).2,.inr ⟨j,f,q,hio⟩⟩
      · cases hk
  · by_cases hi:i < δ.length
    · rw [List.getElem?_append_left (by rw [pinO_len]; exact hi),pinO_get,Nat.zero_add] at hs
      have hi':i < σ.length:=by rw [← R.len]; exact hi
      rw [List.getElem?_append_left hi']
      have qs:δ[i]? = some δ[i]:=List.getElem?_eq_getElem hi
      rw [qs] at hs
      have h0:=gh i _ qs
      generalize δ[i] = s0 at qs hs h0
      have keep:io i = true→(∀ p f,ow p = some (i,f)→(match ow p with | some (i,f)=>if io i = true then some (i,f) else none | none=>none) = some (i,f))∧∀ p f o,ow p = some (i,f)→(del H D₀) p = some o→H p = some o:=fun hio=>⟨fun p f z=>by simp only [z,hio,if_true],fun p f o z e=>by rw [del_ne (owD p _ z).1] at e; exact e⟩
      cases s0 with
      | sh d=>cases hs; exact h0
      | ob h C fs =>
        cases hs
        have hio:io i = true:=by show (match δ[i]? with | some s=>isO s | none=>false) = true; rw [qs]; rfl
        obtain ⟨k1,k2⟩:=keep hio
        obtain ⟨a,dx,vfs,g1,g2,g3,g4,g5,g6,g7⟩:=h0
        refine ⟨a,dx,vfs,g1,fun a0 z=>?_,k2 _ _ _ g5 g3,k2 _ _ _ g6 g4,k1 _ _ g5,k1 _ _ g6,g7.keep (Same.refl _) k1 k2⟩
        cases z
        show a = (match σ[i]? with | some (some (.ref a))=>a | _=>0)
        rw [g1]
      | rc h fs =>
        cases hs
        have hio:io i = true:=by show (match δ[i]? with | some s=>isO s | none=>false) = true; rw [qs]; rfl
        obtain ⟨k1,k2⟩:=keep hio
        obtain ⟨a,vfs,g1,g2,g3,g5,g7⟩:=h0
        refine ⟨a,vfs,g1,fun a0 z=>?_,k2 _ _ _ g5 g3,k1 _ _ g5,g7.keep (Same.refl _) k1 k2⟩
        cases z
        show a = (match σ[i]? with | some (some (.ref a))=>a | _=>0)
        rw [g1]
      | no=>cases hs; trivial
      | ow l=>cases hs; trivial
      | mu a l=>cases hs; trivial
      | pt a=>cases hs; trivial
    · rw [List.getElem?_append_right (by rw [pinO_len]; omega),List.getElem?_replicate] at hs
      split at hs
      · cases hs; trivial
      · cases hs
  · rw [List.length_append,List.length_append,List.length_replicate,List.length_replicate,pinO_len,R.len]
  · have hD':H' D₀ = some o:=R'.eh D₀ o hD nMD
    have gD':G' D₀ = none:=by
      cases q:G' D₀ with
      | none=>rfl
      | some u=>have z:=R'.fr D₀ u q gD; have z':H D₀ = none:=z; rw [hD] at z'; cases z'
    have sG:Same G G':=R'.eg
    refine ⟨hD',gD',sG,?_⟩
    obtain ⟨ow2,ok2,gh2⟩:=R'.gh
    have own2:∀ p kk,ow2 p = some kk→p ≠ D₀:=fun p kk hp z=>by
      subst z
      rcases (ok2.is _ _ hp).2.2 with h | h
      · have h':H p = none:=h; rw [hD] at h'; cases h'
      · exact nMD h
    have nal:∀ p,H p = none→n.H p = none:=fun p hp=>R.al p (by
      by_cases z:p = D₀
      · subst z; exact del_same
      · rw [del_ne z]; exact hp)
    have slot:∀ i s,δ[i]? = some s→δ'[i]? = some (pinS (as i) s):=fun i s hs=>by
      have hi:i < δ.length:=(List.getElem?_eq_some_iff.mp hs).1
      have z:(δ'.take δ.length)[i]? = (pinO as 0 δ)[i]?:=by rw [hk]
      rw [pinO_get,hs,Nat.zero_add,List.getElem?_take,if_pos hi] at z
      exact z
    let ow3:Ow:=fun p=>match ow2 p with
      | some (i,f)=>if io i = true then some (i,f) else none
      | none=>match ow p with
        | some (i,f)=>if io i = true then none else some (i,f)
        | none=>none
    have new3:∀ i,io i = true→∀ p f,ow2 p = some (i,f)→ow3 p = some (i,f):=fun i hio p f z=>by
      show (match ow2 p with
      | some (i,f)=>if io i = true then some (i,f) else none
      | none=>match ow p with
        | some (i,f)=>if io i = true then none else some (i,f)
        | none=>none) = _
      simp only [z,hio,if_true]
    have old3:∀ i,io i = false→∀ p f,ow p = some (i,f)→ow3 p = some (i,f)∧¬ M p:=fun i hio p f z=>by
      have nM:¬ M p:=fun zz81=>zz81.elim fun i' zz=>zz.elim fun f' zz=>zz.elim fun h h'=>by rw [z] at h; cases h; rw [hio] at h'; cases h'
      have q:ow2 p = none:=by
        cases q:ow2 p with
        | none=>rfl
        | some kf =>
          rcases (ok2.is _ _ q).2.2 with h | h
          · exact absurd h (owD p _ z).2
          · exact absurd h nM
      refine ⟨?_,nM⟩
      show (match ow2 p with
      | some (i,f)=>if io i = true then some (i,f) else none
      | none=>match ow p with
        | some (i,f)=>if io i = true then none else some (i,f)
        | none=>none) = _
      simp only [q,z,hio,Bool.false_eq_true,if_false]
    have stay:∀ p u,H p = some u→¬ M p→H' p = some u:=fun p u e h=>R'.eh p u e h
    refine ⟨fun b u e=>?_,R.eg.trans sG,fun b u e m=>?_,fun b e=>?_,fun b u e e0=>?_,⟨ow3,⟨fun p kk hp=>?_⟩,fun i s hs=>?_⟩,R.len⟩
    · rw [del_ne (ne_of_none e gD')]; exact R'.sub b u e
    · have z:=R.eh b u e m
      have ne:b ≠ D₀:=fun w=>by subst w; rw [del_same] at z; cases z
      rw [del_ne ne] at z ⊢
      refine stay b u z fun zz82=>zz82.elim fun i zz=>zz.elim fun f zz=>zz.elim fun h _=>?_
      rcases (ok.is b _ h).2.2 with w | w
      · rw [w] at e; cases e
      · exact m w
    · by_cases z:b = D₀
      · subst z; exact R.al _ del_same
      · rw [del_ne z] at e; exact nal b (R'.al b e)
    · cases q:G b with
      | none=>exact nal b (R'.fr b u e q)
      | some w=>exact R.fr b w q e0
    · cases q:ow2 p with
      | some jf =>
        obtain ⟨j,f⟩:=jf
        obtain ⟨h1,h2,h3⟩:=ok2.is p _ q
        refine ⟨h1,by rw [del_ne (own2 p _ q)]; exact h2,?_⟩
        rcases h3 with h3 | ⟨i,f,h3,_⟩
        · exact .inl (nal p h3)
        · exact (ok.is p _ h3).2.2
      | none =>
        cases q2:ow p with
        | none =>
          have:ow3 p = none:=by
            show (match ow2 p with
            | some (i,f)=>if io i = true then some (i,f) else none
            | none=>match ow p with
              | some (i,f)=>if io i = true then none else some (i,f)
              | none=>none) = _
            simp only [q,q2]
          rw [this] at hp; cases hp
        | some jf =>
          obtain ⟨j,f⟩:=jf
          cases hio:io j with
          | true =>
            have:ow3 p = none:=by
              show (match ow2 p with
              | some (i,f)=>if io i = true then some (i,f) else none
              | none=>match ow p with
                | some (i,f)=>if io i = true then none else some (i,f)
                | none=>none) = _
              simp only [q,q2,hio,if_true]
            rw [this] at hp; cases hp
          | false =>
            obtain ⟨_,nM⟩:=old3 j hio p f q2
            obtain ⟨h1,h2,h3⟩:=ok.is p _ q2
            obtain ⟨n1,n2⟩:=owD p _ q2
            refine ⟨?_,?_,h3⟩
            · cases q3:G' p with
              | none=>rfl
              | some u=>exact absurd (R'.fr p u q3 h1) n2
            · rw [del_ne n1]
              cases q3:H p with
              | none=>exact absurd q3 n2
              | some u=>rw [stay p u q3 nM]; exact fun z=>by cases z
    · have h0:=gh i s hs
      have h1:=slot i s hs
      have keepO:io i = false→(∀ p f,ow p = some (i,f)→ow3 p = some (i,f))∧∀ p f u,ow p = some (i,f)→(del H D₀) p = some u→(del H' D₀) p = some u:=fun hio=>⟨fun p f z=>(old3 i hio p f z).1,fun p f u z e=>by
        rw [del_ne (owD p _ z).1] at e ⊢
        exact stay p u e (old3 i hio p f z).2⟩
      have keepN:io i = true→∀ p f u,ow2 p = some (i,f)→H' p = some u→(del H' D₀) p = some u:=fun hio p f u z e=>by rw [del_ne (own2 p _ z)]; exact e
      have io_of:io i = isO s:=by show (match δ[i]? with | some s=>isO s | none=>false) = _; rw [hs]
      cases s with
      | no=>trivial
      | sh d=>obtain ⟨v,g1,g2⟩:=h0; exact ⟨v,g1,g2.up sG⟩
      | pt a=>exact h0
      | ow l=>obtain ⟨a1,a2⟩:=keepO io_of; exact SlW.keep (s:=.ow l) sG a1 a2 h0
      | mu a l=>obtain ⟨a1,a2⟩:=keepO io_of; exact SlW.keep (s:=.mu a l) sG a1 a2 h0
      | ob h C fs =>
        obtain ⟨a,dx,vfs,g1,g2,_⟩:=h0
        obtain ⟨a',dx',vfs',r1,r2,r3,r4,r5,r6,r7⟩:=gh2 i _ h1
        have ea:a' = a:=by
          rw [r2 _ rfl]
          show (match σ[i]? with | some (some (.ref a))=>a | _=>0) = a
          rw [g1]
        subst ea
        exact ⟨a',dx',vfs',g1,g2,keepN io_of _ _ _ r5 r3,keepN io_of _ _ _ r6 r4,new3 i io_of _ _ r5,new3 i io_of _ _ r6,r7.keep (Same.refl _) (new3 i io_of) (keepN io_of)⟩
      | rc h fs =>
        obtain ⟨a,vfs,g1,g2,_⟩:=h0
        obtain ⟨a',vfs',r1,r2,r3,r5,r7⟩:=gh2 i _ h1
        have ea:a' = a:=by
          rw [r2 _ rfl]
          show (match σ[i]? with | some (some (.ref a))=>a | _=>0) = a
          rw [g1]
        subst ea
        exact ⟨a',vfs',g1,g2,keepN io_of _ _ _ r5 r3,new3 i io_of _ _ r5,r7.keep (Same.refl _) (new3 i io_of) (keepN io_of)⟩
end
end Dl
namespace Dl
open PySem PySem.Spec PyProof.Rows L2
noncomputable def dCompO (k:Nat) (ti:TId) (g:TGd) (tt:TTd) (te:TEd):TEd:=fun δ Q=>ti δ fun items δ1=>∃ F:D→Option D,
  (∀ d ∈ items,∀ as:Nat→Nat,g d (pinO as 0 δ1 ++ List.replicate k .no) fun δ2=>tt δ2 fun b δ3=>if b = true then te δ3 fun y δ4=>δ4.take δ1.length = pinO as 0 δ1∧F d = some y else δ3.take δ1.length = pinO as 0 δ1∧F d = none) ∧
    (items.filterMap F).length ≤ sizeLine∧Q (.lst (items.filterMap F)) δ1
theorem comp_runO {X:Cx} {elt iter target:Expr} {ifs:List Expr} {scope:Scope} {pos:Pos} {N':List Str} (k:Nat) {ti:TId} {g:TGd} {tt:TTd} {te:TEd} (hc:X.calm = true) (hi:DI X target iter ti)
    (hb:∀ (cl:List (Str × Addr)) (C:Addr) (ex:List Addr) (s:Shared) (H:Hp),DG (cxComp X N' scope cl C ex s H) target g∧DTs (cxComp X N' scope cl C ex s H) ifs tt∧DE (cxComp X N' scope cl C ex s H) elt te)
    (hkind:scope.kind = .function) (hnames:∀ y ∈ scope.names,y.2 = .local→scope.names.lookup y.1 = some .local) (hnc:∀ x,(x,NameKind.free) ∈ scope.names→(x,NameKind.cell) ∉ scope.names) (hN:N'.length = X.N.length + k)
    (hcap:∀ (i:Nat) (x:Str),N'[i]? = some x→i < X.N.length→Vis (relabel scope X.env) x→X.N[i]? = some x∧scope.names.lookup x = some .free∧X.env.scope.names.lookup x = some .cell)
    (hfr:∀ x ∈ scope.names,x.2 = NameKind.free→X.env.scope.names.lookup x.1 = some .cell)
    (hs:∀ x,foldedSetIterable iter X.env x = pure x)
    {use:Option (Value→Sem Unit)} {Qf:Value→Shared→Prop} {pins:List (Addr × Obj)} {s:Shared} {σ:L2.St} {H:Hp} {Q2:VK} {p:Pos} (I:Inv X pins σ H s) (hq:lE X.K (dCompO k ti g tt te) σ H Q2)
    (fin:∀ (D₀ C:Addr) (H':Hp) (s6:Shared),Inv X pins σ H' s6→FpOk X pins H' C→(∃ m,s6.heap.Ns C m)→Q2 (.ref D₀) H'→compPost (model X.prog X.w) X.A X.xe use Qf (.ref D₀) C (.ok .next) s6) :
    wpAny (model X.prog X.w) X.A (comprehension (.ListComp elt [⟨target,iter,ifs,0⟩] scope pos) scope X.env p (newList []) false (eval iter X.env) use) Qf X.xe s:=by
  obtain ⟨n,δ,G,Q,R,h,kk⟩:=hq
  obtain ⟨cl,hclos,hcl1,hcl2⟩:=clos_of (env:=X.env) (scope:=scope) (fun x hx hf=>I.ok.has x.1 (.inl (hfr x hx hf)))
  refine wpAny_comprehension_free (use:=use) rfl hs hclos hkind hnames (wpAny_mono (hi pins s σ H _ I ⟨n,δ,G,_,R,h,fun J G' H' l δ' R' s' j' q'=>(show ∃ G' l δ',Rel X.K n δ' σ G' H'∧Same G G'∧JOk X.K G' J l ∧
    (∃ F:D→Option D,(∀ d ∈ l,∀ as:Nat→Nat,g d (pinO as 0 δ' ++ List.replicate k .no) fun δ2=>tt δ2 fun b δ3=>if b = true then te δ3 fun y δ4=>δ4.take δ'.length = pinO as 0 δ'∧F d = some y else δ3.take δ'.length = pinO as 0 δ'∧F d = none)∧(l.filterMap F).length ≤ sizeLine∧Q (.lst (l.filterMap F)) δ') from ⟨G',l,δ',R',s',j',q'⟩)⟩)
    (fun xv s₁ h₁=>wpAny_mono h₁ (fun itv s₂ h₂=>?_) fun _ _ z=>z) fun _ _ z=>z)
  obtain ⟨it,fp,tn,J,H2,rfl,I2,T,st2,f2,G2,items,δ1,R2,sG2,j2,F,hF,hsz,hQ⟩:=h₂
  refine wpAny_newObj_type (wpAny_compEnv ?_)
  rw [cf_app]
  dsimp only
  have hD:H2 s₂.heap.objs.size = none:=I2.fresh
  have I3:Inv X pins σ (upd H2 s₂.heap.objs.size (.lst [])) { s₂ with heap:=s₂.heap.push { cls:=.type "list",dict:=none,data:=.seq ([]:List Value).toArray } }:=I2.lnew (t':=s₂.toks) .nil (Nat.zero_le _)
  have R3:Rel X.K n δ1 σ G2 (upd H2 s₂.heap.objs.size (.lst [])):=R2.other (R2.sub.free hD) (R2.al _ hD) (R2.notOwn hD) _
  have f3:∀ b ∈ fp,FpOk X pins (upd H2 s₂.heap.objs.size (.lst [])) b:=fun b hb=>by
    have lt : b < s₂.heap.objs.size:=by obtain ⟨o,ho,_⟩:=T.obj _ _ st2 b hb; exact Heap.lt_size ho
    refine ⟨?_,(f2 b hb).2⟩
    rw [upd_ne (Nat.ne_of_lt lt)]; exact (f2 b hb).1
  have fo3:∀ b ∈ fp,b < (s₂.heap.push { cls:=.type "list",dict:=none,data:=.seq ([]:List Value).toArray }).objs.size:=fun b hb=>by
    obtain ⟨o,ho,_⟩:=T.obj _ _ st2 b hb
    rw [Heap.size_push]
    exact Nat.lt_succ_of_lt (Heap.lt_size ho)
  have up3:∀ b o,s₂.heap.get? b = some o→(s₂.heap.push { cls:=.type "list",dict:=none,data:=.seq ([]:List Value).toArray }).get? b = some o:=fun b o e=>Heap.get?_push_of_some _ e
  generalize hH3:upd H2 s₂.heap.objs.size (.lst []) = H3 at I3 R3 f3
  have hD3:H3 s₂.heap.objs.size = some (.lst []):=by rw [← hH3]; exact upd_same
  have gD3:G2 s₂.heap.objs.size = none:=R2.sub.free hD
  have nD3:n.H s₂.heap.objs.size = none:=R2.al _ hD
  have own3:Rel X.K n δ1 σ G2 (del H3 s₂.heap.objs.size):=by rw [← hH3,del_upd,del_none hD]; exact R2
  have kp3:Same H2 H3:=by rw [← hH3]; exact same_upd hD _
  generalize s₂.heap.objs.size = D₀ at hD hD3 gD3 nD3 own3 ⊢
  have tn3:∀ h',(∀ b o,(s₂.heap.push { cls:=.type "list",dict:=none,data:=.seq ([]:List Value).toArray }).get? b = some o→h'.get? b = some o)→tn 0 h':=fun h' k'=>T.keep 0 _ _ st2 fun b _ o e=>k' b o (up3 b o e)
  have osz:({ s₂ with heap:=s₂.heap.push { cls:=.type "list",dict:=none,data:=.seq ([]:List Value).toArray } }:Shared).os = s₂.os:=rfl
  generalize hs3:({ s₂ with heap:=s₂.heap.push { cls:=.type "list",dict:=none,data:=.seq ([]:List Value).toArray } }:Shared) = s₃ at I3
  have eh3:s₃.heap = s₂.heap.push { cls:=.type "list",dict:=none,data:=.seq ([]:List Value).toArray }:=by rw [← hs3]
  rw [← eh3] at fo3 tn3 ⊢
  have ow:=ownC_of (h:=s₃.heap) hnc
  have hns₁:(pushCells (s₃.heap.push { cls:=.type "dict",data:=.dict #[] }) scope.names).Ns s₃.heap.objs.size fun _=>none:=(Heap.Ns.new s₃.heap (.type "dict")).keeps (pushCells_keeps _ _)
  have hk3:∀ b o,s₃.heap.get? b = some o→(pushCells (s₃.heap.push { cls:=.type "dict",data:=.dict #[] }) scope.names).get? b = some o:=fun b o e=>pushCells_keeps _ _ b o (Heap.get?_push_of_some _ e)
  generalize cellsFrom (s₃.heap.objs.size + 1) scope.names [] = own at ow ⊢
  generalize hh1:pushCells (s₃.heap.push { cls:=.type "dict",data:=.dict #[] }) scope.names = h₁ at ow hns₁ hk3 ⊢
  have es4:({ s₂ with heap:=h₁ }:Shared) = { s₃ with heap:=h₁,toks:=s₃.toks }:=by rw [← hs3]
  have I4:Inv (cxComp X N' scope (own ++ cl) s₃.heap.objs.size fp s₃ H3) [] (σ ++ List.replicate k none) H3 { s₃ with heap:=h₁,toks:=s₃.toks }:=comp_inv I3 hkind hcl1 hcl2 ow hN hcap f3 fo3 hns₁ hk3
  have reset:∀ {pins':List (Addr × Obj)} {σ':L2.St} {H':Hp} {s':Shared},Inv (cxComp X N' scope (own ++ cl) s₃.heap.objs.size fp s₃ H3) pins' σ' H' s'→Inv (cxComp X N' scope (own ++ cl) s₃.heap.objs.size fp s₃ H3) pins' (σ ++ List.replicate k none) H' s' :=
    fun J'=>comp_reset I3 hcl1 hcl2 ow.free hN hcap J'
  generalize own ++ cl = cl at I4 reset ⊢
  have fpok:∀ {H':Hp},(∀ b ∈ fp,H' b = none)→∀ b ∈ fp,FpOk (cxComp X N' scope cl s₃.heap.objs.size fp s₃ H3) [] H' b:=fun hn b hb =>
    ⟨hn b hb,Nat.ne_of_lt (fo3 b hb),I4.ok.exfs b hb,.inl hb,(I4.ok.exf b hb).2,fun p hp=>absurd (show p ∈ ([]:List (Addr × Obj)) from hp) (by simp)⟩
  obtain ⟨hG,hT,hE⟩:=hb cl s₃.heap.objs.size fp s₃ H3
  have loop:∀ s₄:Shared,s₄ = { s₃ with heap:=h₁,toks:=s₃.toks } →
      codeAny (model X.prog X.w) X.A (.compLoop (.ListComp elt [⟨target,iter,ifs,0⟩] scope pos) 0 (.ref it) (.ref D₀) (compEnvC scope cl s₃.heap.objs.size X.env)) (compPost (model X.prog X.w) X.A X.xe use Qf (.ref D₀) s₃.heap.objs.size) s₄:=by
    rintro s₄ rfl
    refine compLoop_any (fun m s=>∃ (i:Nat) (H:Hp) (G:Hp) (ws:List V),i ≤ items.length∧m = items.length - i∧Inv (cxComp X N' scope cl s₃.heap.objs.size fp s₃ H3) [] (σ ++ List.replicate k none) H s∧tn i s.heap∧(∀ b ∈ fp,H b = none) ∧
      Rel X.K n δ1 σ G (del H D₀)∧Same G2 G∧H D₀ = some (.lst ws)∧G D₀ = none∧DenL X.K G ws ((items.take i).filterMap F)) ?_ items.length
      ⟨0,H3,G2,[],Nat.zero_le _,rfl,I4,tn3 _ hk3,fun b hb=>(f3 b hb).1,own3,Same.refl _,hD3,gD3,.nil⟩
    rintro m s5 ⟨i,H5,G5,ws,hi,rfl,I5,st5,fr5,R5',sG5,hD5,gD5,dl5⟩
    have R5:=R5'.undel hD5
    by_cases hlt:i < items.length
    · refine thn (T.item (cxComp X N' scope cl s₃.heap.objs.size fp s₃ H3) rfl rfl rfl hc i [] s5 _ H5 _ I5 (fpok fr5) st5 (j2.go i G5 H5 sG5 R5.sub hlt)) fun r s6 zz83=>zz83.elim fun u zz=>zz.elim fun hr h6=>?_
      subst hr
      refine thn h6 fun _ s7 zz84=>zz84.elim fun x zz=>zz.elim fun H7 zz=>zz.elim fun I7 zz=>zz.elim fun rx zz=>zz.elim fun y7 zz=>zz.elim fun st7 fr7=>?_
      obtain ⟨G7,d,e7,hd,dx⟩:=j2.yl i G5 H5 x H7 sG5 R5.sub hlt y7
      have gD7:G7 D₀ = none:=by
        cases q:G7 D₀ with
        | none=>rfl
        | some o=>have z:=e7.fr D₀ o q gD5; rw [hD5] at z; cases z
      have R7:=R5'.ext (e7.del gD7)
      obtain ⟨as,M,Rin,back⟩:=R7.innerO (e7.hh _ _ hD5) k
      have I7':=I7.pinned (fpok fr7) (T.obj _ _ st7)
      have keep:∀ {σ':L2.St} {H':Hp} {s':Shared},Inv (cxComp X N' scope cl s₃.heap.objs.size fp s₃ H3) ([] ++ pinsAt fp s7.heap) σ' H' s'→tn (i + 1) s'.heap∧(∀ b ∈ fp,H' b = none)∧Inv (cxComp X N' scope cl s₃.heap.objs.size fp s₃ H3) [] (σ ++ List.replicate k none) H' s':=fun {σ' H' s'} J'=>by
        refine ⟨T.keep _ _ _ st7 fun b hb o e=>(J'.pin (b,o) (List.mem_append_right _ (List.mem_append_right _ (mem_pinsAt hb e)))).1,fun b hb=>?_,reset J'.unpinned⟩
        obtain ⟨o,e,_⟩:=T.obj _ _ st7 b hb
        exact (J'.pin (b,o) (List.mem_append_right _ (List.mem_append_right _ (mem_pinsAt hb e)))).2.1
      refine thn (hG _ s7 _ H7 x u (fun σ8 H8=>H8 = H7∧∃ δ8,Rel X.K ⟨G7,H7,M⟩ δ8 σ8 G7 H7∧tt δ8 fun b δ3=>if b = true then te δ3 fun y δ4=>δ4.take δ1.length = pinO as 0 δ1∧F d = some y else δ3.take δ1.length = pinO as 0 δ1∧F d = none) I7' rx
        ⟨_,_,G7,d,_,Rin,dx,hF d (List.mem_of_getElem? hd) as,fun δ8 σ8 R8 q8=>⟨rfl,δ8,R8,q8⟩⟩) fun _ s8 zz85=>zz85.elim fun σ8 zz=>zz.elim fun H8 zz=>zz.elim fun I8 zz=>zz.elim fun e8 zz=>zz.elim fun δ8 zz=>zz.elim fun R8 q8=>?_
      subst e8
      refine thn (hT _ s8 σ8 _ (fun b H9=>∃ G9 δ9,Rel X.K ⟨G7,H8,M⟩ δ9 σ8 G9 H9∧if b = true then te δ9 fun y δ4=>δ4.take δ1.length = pinO as 0 δ1∧F d = some y else δ9.take δ1.length = pinO as 0 δ1∧F d = none) I8 ⟨_,δ8,G7,_,R8,q8,fun b G9 H9 δ9 R9 _ q9=>⟨G9,δ9,R9,q9⟩⟩) fun ok s9 zz86=>zz86.elim fun H9 zz=>zz.elim fun I9 zz=>zz.elim fun G9 zz=>zz.elim fun δ9 zz=>zz.elim fun R9 q9=>?_
      cases ok with
      | false =>
        rw [if_neg Bool.false_ne_true] at q9 ⊢
        obtain ⟨k1,k2,k3⟩:=keep I9
        obtain ⟨w1,w2,w3,w4⟩:=back δ9 σ8 G9 H9 R9 q9.1
        refine ⟨items.length - (i + 1),by omega,i + 1,H9,G9,ws,hlt,rfl,k3,k1,k2,w4,sG5.trans (e7.gg.trans w3),w1,w2,?_⟩
        rw [fm_take F items i d hd,q9.2]
        simpa using dl5.up (e7.gg.trans w3)
      | true =>
        rw [if_pos rfl] at q9 ⊢
        refine thn (hE _ s9 σ8 H9 (fun v H10=>∃ G10 y,(∃ δ10,Rel X.K ⟨G7,H8,M⟩ δ10 σ8 G10 H10∧δ10.take δ1.length = pinO as 0 δ1)∧Den X.K G10 v y∧F d = some y) I9 ⟨_,δ9,G9,_,R9,q9,fun v G10 H10 y δ10 R10 _ d10 q10=>⟨G10,y,⟨δ10,R10,q10.1⟩,d10,q10.2⟩⟩) fun xv s10 zz87=>zz87.elim fun v zz=>zz.elim fun H10 zz=>zz.elim fun I10 zz=>zz.elim fun rv zz=>zz.elim fun G10 zz=>zz.elim fun y zz=>zz.elim fun zz88 zz=>zz.elim fun dv hy=>zz88.elim fun δ10 zz=>zz.elim fun R10 hk10=>?_
        obtain ⟨hD10,w2,w3,w4⟩:=back δ10 σ8 G10 H10 R10 hk10
        have lenw:ws.length < sizeLine:=by
          have l1:=fm_le F items (i + 1)
          rw [fm_take F items i d hd,hy,List.length_append] at l1
          have l2:=dl5.length
          simp only [Option.toList_some,List.length_singleton] at l1
          omega
        refine thn (mt_append (X:=cxComp X N' scope cl s₃.heap.objs.size fp s₃ H3) _ s10 σ8 H10 (.ref D₀) [v] (.ref D₀) [xv] (fun _ H'=>H' = upd H10 D₀ (.lst (ws ++ [v]))) I10 rfl (.cons rv .nil) ⟨D₀,ws,v,rfl,rfl,hD10,lenw,rfl⟩) fun _ s11 zz89=>zz89.elim fun _ zz=>zz.elim fun H11 zz=>zz.elim fun I11 zz=>zz.elim fun _ e11=>?_
        subst e11
        obtain ⟨k1,k2,k3⟩:=keep I11
        refine ⟨items.length - (i + 1),by omega,i + 1,_,G10,ws ++ [v],hlt,rfl,k3,k1,k2,(by rw [del_upd]; exact w4),sG5.trans (e7.gg.trans w3),upd_same,w2,?_⟩
        rw [fm_take F items i d hd,hy]
        exact (dl5.up (e7.gg.trans w3)).append (.cons dv .nil)
    · have ei:i = items.length:=by omega
      subst ei
      refine thn (T.done (cxComp X N' scope cl s₃.heap.objs.size fp s₃ H3) rfl rfl rfl hc _ [] s5 _ H5 _ I5 (fpok fr5) st5 (j2.st _ G5 H5 sG5 R5.sub (Nat.le_refl _))) fun r s6 zz90=>zz90.elim fun hr I6=>?_
      subst hr
      obtain ⟨m,hm,_⟩:=I6.loc
      have Iin:Inv X pins σ H5 s6:=I3.call' (s':=s6) (ch:=fp) I6.os (show Un (frs X.stack) fp H3 H5 s₃.heap s6.heap from I6.base) I6.hok I6.bare fun b hb=>⟨(f3 b hb).2.2.2.1,(f3 b hb).2.1,(f3 b hb).2.2.2.2.1,(f3 b hb).2.2.2.2.2⟩
      rw [List.take_length] at dl5
      exact fin D₀ s₃.heap.objs.size H5 s6 Iin (I3.fpOk (Nat.le_refl _) I6.free) ⟨m,hm⟩ (kk _ _ _ _ δ1 (R5'.know hD5) (sG2.trans (sG5.trans (same_upd gD5 _))) (.lst (SqL.of upd_same) (dl5.up (same_upd gD5 _))) hQ)
  rw [es4]
  exact codeAny_compStart_list (loop _ rfl) (T.self _ 0 _ _ _ (tn3 _ hk3) (loop _ rfl))
end Dl
namespace Dl
open PySem PySem.Spec PyProof.Rows L2
section
variable {X:Cx} {e:Expr} {es:List Expr} {t:TAd} {p pos:Pos}
noncomputable def rMinL (K:PySem.W.Frag):List V→Hp→VK→Prop:=fun xs H Q=>∃ (p:Addr) (ns:List Int),xs = [.ref p]∧SqL K H p (ns.map V.int)∧ns ≠ []∧∀ m:Int,m ∈ ns→(∀ x ∈ ns,m ≤ x)→Q (.int m) H
theorem call_minL (hc:X.calm = true):CallR X (.builtin "min") (rMinL X.K):=by
  rintro pins s σ H xs us Q I r ⟨p,ns,rfl,hq,hne,q⟩
  obtain ⟨u,rfl,ru⟩:=r.one
  cases ru
  obtain ⟨its,rv,pl,hz⟩:=I.list hq
  have hi:=intsAre_of rv
  obtain ⟨ys,ey⟩:=hi.allInts.items
  have e0:numsOf its.toArray.toList = ns:=hi.numsOf
  have el:=rv.length
  rw [List.length_map] at el
  have l1:(intItems ys).size = ns.length:=by rw [← ey,List.size_toArray,el]
  have l2:ys.size = ns.length:=by simpa [intItems] using l1
  have lp:0 < ns.length:=List.length_pos_iff.mpr hne
  rw [ey,nums_intItems] at e0
  refine min_intList (I.ok.hd hc) (ey ▸ pl.isList) (by omega) fun v h' tk hv hk=>?_
  obtain ⟨t,rfl⟩:=intItems_at hv
  obtain ⟨h1,h2⟩:=argBest_lt (numAt ys) (ys.size - 1)
  refine ⟨.int _,H,I.kept (t':=tk) hk,⟨t,rfl⟩,q _ ?_ fun x hx=>?_⟩
  · rw [← e0,numAt_eq]; exact getD_mem (by rw [List.length_map,Array.length_toList]; omega)
  · rw [← e0] at hx
    obtain ⟨j,hj,rfl⟩:=mem_getD hx
    rw [List.length_map,Array.length_toList] at hj
    rw [← numAt_eq]; exact h2 j (by omega)
theorem cs_minL {K:PySem.W.Frag}:CallS K (rMinL K) cMinL:=fun G H xs ds Q Q2 s hd h k=>by
  unfold cMinL at h
  split at h
  · obtain ⟨l,e0,ns,e,hne,h64,q⟩:=h
    obtain ⟨v,rfl,d1⟩:=denl1 hd
    unfold lstF at e0
    split at e0
    · cases e0
      obtain ⟨a,vs,rfl,ha,la⟩:=d1.lst_inv
      rw [intsF_some e] at la
      have ev:vs = ns.map V.int:=DenL.ints_inv la
      subst ev
      exact ⟨a,ns,rfl,s.seq ha,hne,fun m p1 p2=>k _ G H _ (Ext.refl s) (.int _) (q m p1 p2)⟩
    · cases e0
  · exact h.elim
theorem de_minL (hc:X.calm = true) (hm:X.mg "min" = none) (ha:DA X (e :: es) t) (hg:autoParam (Gl X "min") ZA.a3._auto_1) (he:autoParam (starEach (e :: es) X.env = (false,eval e X.env) :: starEach es X.env) ZA.a3._auto_1) (hpl:autoParam ((backTo pos (starEach es X.env)).any (·.1) = false) ZA.a3._auto_1):DE X (.Call (.Name "min" p) (e :: es) [] pos) (dCall cMinL t) :=
  de_callB (call_minL hc) cs_minL hm (by rfl) ha hg (by decide) (by decide) he hpl
end
end Dl
namespace Dl
open PySem PySem.Spec PyProof.Rows L2
theorem ds_compO {X:Cx} {elt iter target:Expr} {ifs:List Expr} {scope:Scope} {pos:Pos} {N':List Str} (k:Nat) {ti:TId} {g:TGd} {tt:TTd} {te:TEd} (hc:X.calm = true) (hi:DI X target iter ti)
    (hb:∀ (cl:List (Str × Addr)) (C:Addr) (ex:List Addr) (s:Shared) (H:Hp),DG (cxComp X N' scope cl C ex s H) target g∧DTs (cxComp X N' scope cl C ex s H) ifs tt∧DE (cxComp X N' scope cl C ex s H) elt te)
    (hkind:scope.kind = .function) (hnames:∀ y ∈ scope.names,y.2 = .local→scope.names.lookup y.1 = some .local) (hnc:∀ x,(x,NameKind.free) ∈ scope.names→(x,NameKind.cell) ∉ scope.names) (hN:N'.length = X.N.length + k)
    (hcap:∀ (i:Nat) (x:Str),N'[i]? = some x→i < X.N.length→Vis (relabel scope X.env) x→X.N[i]? = some x∧scope.names.lookup x = some .free∧X.env.scope.names.lookup x = some .cell)
    (hfr:∀ x ∈ scope.names,x.2 = NameKind.free→X.env.scope.names.lookup x.1 = some .cell)
    (hs:∀ x,foldedSetIterable iter X.env x = pure x) (i:Nat) {x:Str} {pos' pos2:Pos} (hN2:X.N.Nodup) (hi2:X.N[i]? = some x) (hx:Loc X.env.scope x)
    (hsw:swapsWith (.ListComp elt [⟨target,iter,ifs,0⟩] scope pos) (some (.Name x pos')) pos2.line X.env = pure true) (hf:X.fn x = true∨X.env.scope.names.lookup x = some .local) :
    DS X (.Assign [.Name x pos'] (.ListComp elt [⟨target,iter,ifs,0⟩] scope pos) pos2) (dSet i (dCompO k ti g tt te)):=by
  rintro pins s σ H F I ⟨n,δ,G,E,R,h,kk⟩
  rw [exec_Assign_Name_used _ _ _ _ hsw]
  refine wpAny_bind (wpAny_standAt (wpAny_bind ?_))
  show wpAny _ X.A (do let _ ← comprehension (.ListComp elt [⟨target,iter,ifs,0⟩] scope pos) scope X.env _ (newList []) false (eval iter X.env) (some (assign (.Name x pos') X.env))) _ _ s
  refine wpAny_bind (wpAny_mono (comp_runO k hc hi hb hkind hnames hnc hN hcap hfr hs (use:=some (assign (.Name x pos') X.env)) (Qf:=fun _ s'=>SP X pins F .next s') (Q2:=fun v H'=>F.nx (σ.set i (some v)) H') I
    ⟨n,δ,G,_,R,h,fun v G1 H1 d δ1 R1 s1 d1 h1=>kk.nx _ _ G1 H1 (R1.set i d1) h1⟩ fun D₀ C H' s6 I6 f hm q6=>?_) (fun _ s' hq=>wpAny_pure (wpAny_pure hq)) fun _ _ e=>e)
  obtain ⟨m,hm⟩:=hm
  refine wpAny_assign_Name (store_ok2 (v:=.ref D₀) I6 hN2 hi2 hx rfl (fun s7 I7 zz91=>zz91.elim fun a zz=>zz.elim fun sb ha=>⟨m,hm.sameBut sb ?_,fun h' hs'=>⟨_,H',comp_end I7 f hs',q6⟩⟩) hf)
  rcases ha with rfl | ha
  · exact f.2.1
  · exact Ne.symm (f.2.2.2.2.1 x a ha)
theorem ds_compKO {X:Cx} {elt iter target:Expr} {ifs:List Expr} {scope:Scope} {pos:Pos} (N':List Str) (k i:Nat) {ti:TId} {g:TGd} {tt:TTd} {te:TEd} (hc:X.calm = true) (hi:DI X target iter ti)
    (hb:∀ (cl:List (Str × Addr)) (C:Addr) (ex:List Addr) (s:Shared) (H:Hp),DG (cxComp X N' scope cl C ex s H) target g∧DTs (cxComp X N' scope cl C ex s H) ifs tt∧DE (cxComp X N' scope cl C ex s H) elt te)
    (ok:compOk X.N X.env.scope N' scope k = true)
    (hs:autoParam (∀ x,foldedSetIterable iter X.env x = pure x) ZA.a4._auto_1) {x:Str} {pos' pos2:Pos} (hN2:X.N.Nodup) (hi2:autoParam (X.N[i]? = some x) ZA.a3._auto_1) (hx:autoParam (Loc X.env.scope x) ZA.a6._auto_1)
    (hsw:autoParam (swapsWith (.ListComp elt [⟨target,iter,ifs,0⟩] scope pos) (some (.Name x pos')) pos2.line X.env = pure true) ZA.a3._auto_1) (hf:autoParam (X.fn x = true∨X.env.scope.names.lookup x = some .local) ZA.a1._auto_1) :
    DS X (.Assign [.Name x pos'] (.ListComp elt [⟨target,iter,ifs,0⟩] scope pos) pos2) (dSet i (dCompO k ti g tt te)):=by
  unfold compOk at ok
  simp only [Bool.and_eq_true,List.all_eq_true,Bool.or_eq_true,bne_iff_ne,ne_eq,beq_iff_eq] at ok
  obtain ⟨⟨⟨⟨⟨h1,h2⟩,h30⟩,h4⟩,h5⟩,h6⟩:=ok
  have h3:∀ x,(x,NameKind.free) ∈ scope.names→(x,NameKind.cell) ∉ scope.names:=fun x hx hc=>by
    have z:=(h30 _ hx).resolve_left fun z=>z rfl
    have w:(scope.names.any fun z=>z.1 == x && z.2 == .cell) = true:=List.any_eq_true.mpr ⟨_,hc,by simp⟩
    rw [w] at z; cases z
  refine ds_compO k hc hi hb (by cases q:scope.kind <;> rw [q] at h1 <;> first | rfl | cases h1) (fun y hy hl=>(h2 y hy).resolve_left fun z=>z hl) h3 h4 (fun i x e hi hv=>?_) (fun x hx hf=>(h5 x hx).resolve_left fun z=>z hf) hs i hN2 hi2 hx hsw hf
  have h6':=h6 i (List.mem_range.mpr hi)
  rw [e] at h6'
  dsimp only at h6'
  have hv':∃ kd,scope.names.lookup x = some kd∧(kd = .local∨kd = .cell∨kd = .free):=by
    have kin:(relabel scope X.env).names.lookup x = _:=lookup_relabel
    unfold Vis at hv
    rw [kin] at hv
    cases q:scope.names.lookup x with
    | none=>rw [q] at hv; simp at hv
    | some kd =>
      refine ⟨kd,rfl,?_⟩
      rw [q] at hv
      cases kd <;> simp at hv ⊢
  obtain ⟨kd,hk,hkd⟩:=hv'
  rw [hk] at h6'
  rcases hkd with rfl | rfl | rfl
  · simp at h6'
  · simp at h6'
  · have e1:X.N[i]? = some x:=by simpa using h6'
    exact ⟨e1,hk,(h5 _ (mem_of_look hk)).resolve_left fun z=>z rfl⟩
end Dl
namespace Dl
open PySem L2
theorem upA_a (h a b C fs:_):upA (.ob h a b) (some (.o C fs)) = .ob h C fs:=rfl
theorem outA_a (h d o:_):outA h (.v d) o = .v d:=rfl
theorem outA_b (h c f a C fs:_):outA h (.o c f) (some (.ob (some a) C fs)) = if a = h then .o C fs else .x:=rfl
end Dl
namespace Law
open PySem L2 Dl
theorem okL_ints:∀ ns:List Int,D.okL (ns.map D.int) = true
  | []=>rfl
  | _ :: r=>okL_ints r
theorem depL_ints:∀ ns:List Int,D.depL (ns.map D.int) = 0
  | []=>rfl
  | _ :: r=>by show max 0 (D.depL (r.map D.int)) = 0; rw [depL_ints r]; rfl
theorem atI_map {α:Type} {xs:List α} {i:Int} (f:α→D) (h0:0 ≤ i) (h1:i < xs.length):atI (xs.map f) i = some (f (xs[i.toNat]'(by omega))):=by
  have e:i = ((i.toNat:Nat):Int):=by omega
  have q:atI (xs.map f) ((i.toNat:Nat):Int) = some (f (xs[i.toNat]'(by omega))):=atI_nat (by rw [List.getElem?_map,List.getElem?_eq_getElem (by omega)]; rfl)
  rw [← e] at q
  exact q
noncomputable def cell (ns:List Int) (k:Int):Int:=if ns = [] then 7 * k else ns.getD (k % ns.length).toNat 0 + 6553 * (k / ns.length)
noncomputable def drawn (ns:List Int) (k m:Int):Int :=
  (((cell ns k % 2147483563 * 69069 + 104723 * (k + 1)) % 2147483563 * ((cell ns k % 2147483563 * 69069 + 104723 * (k + 1)) % 2147483563) + (cell ns k % 2147483563 * 69069 + 104723 * (k + 1)) % 2147483563 / 3) % 2147483399 *
    (((cell ns k % 2147483563 * 69069 + 104723 * (k + 1)) % 2147483563 * ((cell ns k % 2147483563 * 69069 + 104723 * (k + 1)) % 2147483563) + (cell ns k % 2147483563 * 69069 + 104723 * (k + 1)) % 2147483563 / 3) % 2147483399) +
    ((cell ns k % 2147483563 * 69069 + 104723 * (k + 1)) % 2147483563 * ((cell ns k % 2147483563 * 69069 + 104723 * (k + 1)) % 2147483563) + (cell ns k % 2147483563 * 69069 + 104723 * (k + 1)) % 2147483563 / 3) % 2147483399 / 7) % 2147483647 / 11 % m
theorem drawn_lo {ns:List Int} {k m:Int} (hm:0 < m):0 ≤ drawn ns k m:=Int.emod_nonneg _ (by omega)
theorem drawn_hi {ns:List Int} {k m:Int} (hm:0 < m):drawn ns k m < m:=Int.emod_lt_of_pos _ hm
noncomputable abbrev scr (ns:List Int):D:=.lst (ns.map D.int)
noncomputable def S_law_cell:SpD:=fun ds Q=>∃ (ns:List Int) (k:Int),ds = [scr ns,.int k]∧ns.length ≤ 63∧0 ≤ k∧Q (.int (cell ns k))
theorem l_law_cell:∀ ds Q,S_law_cell ds Q→ds.length = 2:=by rintro ds Q ⟨ns,k,rfl,_⟩; rfl
noncomputable def S_law_drawn:SpD:=fun ds Q=>∃ (ns:List Int) (k m:Int),ds = [scr ns,.int k,.int m]∧ns.length ≤ 63∧0 ≤ k∧0 < m∧Q (.int (drawn ns k m))
theorem l_law_drawn:∀ ds Q,S_law_drawn ds Q→ds.length = 3:=by rintro ds Q ⟨ns,k,m,rfl,_⟩; rfl
noncomputable def t_law_cell:TSd:=dSeq (dIfS (dB (dOp rEqD ((dVar 0)) ((dLst (dNil))))) (dRet ((dOp (rIC CMul fun i j=>.int (i * j)) (dC (.int 7)) ((dVar 1))))) (dNext)) (dRet ((dOp (rF addF) ((dOp (rF ixF) ((dVar 0)) ((dOp (rIC (fun _ j=>0 < j) fun i j=>.int (i % j)) ((dVar 1)) ((dCall cLenF ((dCons ((dVar 0)) (dNil))))))))) ((dOp (rIC CMul fun i j=>.int (i * j)) (dC (.int 6553)) ((dOp (rIC CDiv fun i j=>.int (i / j)) ((dVar 1)) ((dCall cLenF ((dCons ((dVar 0)) (dNil))))))))))))
theorem r_law_cell:∀ ds Q,S_law_cell ds Q→t_law_cell { nx:=fun _=>Q .non,rt:=fun d _=>Q d } (startD ["_law_script","_law_k"] ds):=by
  rintro ds Q ⟨ns,k,rfl,hl,hk,q⟩
  have he:okEq (scr ns) (.lst []):=⟨okL_ints ns,rfl,by show min _ 1 ≤ 60; omega⟩
  cases ns with
  | nil =>
    simp only [cell,if_true] at q
    simp only [t_law_cell,Dl.dSetD,Dl.xDGet,Dl.dDPut,Dl.dDPop,Dl.dDIn,Dl.dctOf,Dl.dctR,Dl.fzOf,Dl.keyD,Dl.diItems,Dl.dFz,Dl.pinO,Dl.pinS,Dl.dMeth,Dl.dMake,Dl.aNil,Dl.aCons,Dl.atsOf,Dl.inA,Dl.dX,Dl.xVar,Dl.xFld,Dl.dSetF,Dl.fldOf,Dl.putAt,Dl.fewOf,Dl.setO,Dl.upA_a,Dl.startO,Dl.entO,Dl.slA,Dl.outO,Dl.outA_a,Dl.outA_b,List.head?_cons,decide_true,Bool.and_self,and_self,Dl.dSeq,Dl.dNext,Dl.dIfS,Dl.dB,Dl.dOp,Dl.dVar,Dl.dC,Dl.dLst,Dl.dTup,Dl.dNil,Dl.dCons,Dl.dRet,Dl.dCall,Dl.cMax,Dl.cMin,Dl.dDrop,Dl.dSet,Dl.dOwn,Dl.dFrz,Dl.dAnd,Dl.dOr,Dl.dNot,Dl.dIf,Dl.dNever,Dl.rII,Dl.rIC,Dl.rEqD,Dl.rNeD,Dl.rIsN,Dl.rNotN,Dl.gdTup2,Dl.dExt,Dl.cSorted,Dl.cMinL,Dl.dLstRng,Dl.dYes,Dl.dropOw,Dl.gdName,Dl.startD,List.map_cons,List.map_nil,List.length_cons,List.length_nil,List.cons_append,List.nil_append,List.replicate_zero,List.replicate_succ,Nat.reduceAdd,Nat.reduceSub,List.getElem?_cons_zero,List.getElem?_cons_succ,List.set_cons_zero,List.set_cons_succ,Bool.not_true,Bool.not_false,if_true,if_false,reduceCtorEq,Bool.false_eq_true,Dl.rF,Dl.cLenF,Dl.diSeqF,Dl.dTruF,Option.some.injEq,Dl.eqD_int_int,Dl.eqD_str_str,Dl.eqD_tup_tup,Dl.eqD_lst_lst,Dl.eqDL_nil_nil,Dl.eqDL_cons_nil,Dl.eqDL_cons_cons,Dl.isNonD_non,Dl.isNonD_int,Dl.addF_int,Dl.addF_lst,Dl.ixF_tup,Dl.ixF_lst,Dl.seqF_lst,Dl.truF_bl,Dl.truF_lst,exists_eq_left',Dl.atI_0,Dl.atI_1,Dl.atI_2,Dl.atI_3,decide_eq_true_eq,true_and,Bool.true_and,Dl.okEq_int_int,beq_iff_eq,beq_self_eq_true,beq_eq_false_iff_ne,Bool.not_eq_true',ne_eq,ite_not,Dl.sz0,Dl.sz1,Dl.sz2,Dl.sz4]
    exact ⟨he,.inl (by decide),q⟩
  | cons n r =>
    have hp:(0:Int) < ((n :: r).length:Int):=by simp only [List.length_cons]; omega
    have h0:0 ≤ k % ((n :: r).length:Int):=Int.emod_nonneg _ (by omega)
    have h1:k % ((n :: r).length:Int) < ((n :: r).length:Int):=Int.emod_lt_of_pos _ hp
    have e:atI ((n :: r).map D.int) (k % (((n :: r).map D.int).length:Int)) = some (.int ((n :: r).getD (k % ((n :: r).length:Int)).toNat 0)):=by
      rw [List.length_map,atI_map D.int h0 h1]
      rw [List.getD_eq_getElem?_getD,List.getElem?_eq_getElem (by omega)]
      rfl
    simp only [cell,if_neg (List.cons_ne_nil n r)] at q
    have hs:((n :: r).length:Int) ≤ 63:=by omega
    simp only [t_law_cell,List.length_map,Dl.dSetD,Dl.xDGet,Dl.dDPut,Dl.dDPop,Dl.dDIn,Dl.dctOf,Dl.dctR,Dl.fzOf,Dl.keyD,Dl.diItems,Dl.dFz,Dl.pinO,Dl.pinS,Dl.dMeth,Dl.dMake,Dl.aNil,Dl.aCons,Dl.atsOf,Dl.inA,Dl.dX,Dl.xVar,Dl.xFld,Dl.dSetF,Dl.fldOf,Dl.putAt,Dl.fewOf,Dl.setO,Dl.upA_a,Dl.startO,Dl.entO,Dl.slA,Dl.outO,Dl.outA_a,Dl.outA_b,List.head?_cons,decide_true,Bool.and_self,and_self,Dl.dSeq,Dl.dNext,Dl.dIfS,Dl.dB,Dl.dOp,Dl.dVar,Dl.dC,Dl.dLst,Dl.dTup,Dl.dNil,Dl.dCons,Dl.dRet,Dl.dCall,Dl.cMax,Dl.cMin,Dl.dDrop,Dl.dSet,Dl.dOwn,Dl.dFrz,Dl.dAnd,Dl.dOr,Dl.dNot,Dl.dIf,Dl.dNever,Dl.rII,Dl.rIC,Dl.rEqD,Dl.rNeD,Dl.rIsN,Dl.rNotN,Dl.gdTup2,Dl.dExt,Dl.cSorted,Dl.cMinL,Dl.dLstRng,Dl.dYes,Dl.dropOw,Dl.gdName,Dl.startD,List.map_cons,List.map_nil,List.length_cons,List.length_nil,List.cons_append,List.nil_append,List.replicate_zero,List.replicate_succ,Nat.reduceAdd,Nat.reduceSub,List.getElem?_cons_zero,List.getElem?_cons_succ,List.set_cons_zero,List.set_cons_succ,Bool.not_true,Bool.not_false,if_true,if_false,reduceCtorEq,Bool.false_eq_true,Dl.rF,Dl.cLenF,Dl.diSeqF,Dl.dTruF,Option.some.injEq,Dl.eqD_int_int,Dl.eqD_str_str,Dl.eqD_tup_tup,Dl.eqD_lst_lst,Dl.eqDL_nil_nil,Dl.eqDL_cons_nil,Dl.eqDL_cons_cons,Dl.isNonD_non,Dl.isNonD_int,Dl.addF_int,Dl.addF_lst,Dl.ixF_tup,Dl.ixF_lst,Dl.seqF_lst,Dl.truF_bl,Dl.truF_lst,exists_eq_left',Dl.atI_0,Dl.atI_1,Dl.atI_2,Dl.atI_3,decide_eq_true_eq,true_and,Bool.true_and,Dl.okEq_int_int,beq_iff_eq,beq_self_eq_true,beq_eq_false_iff_ne,Bool.not_eq_true',ne_eq,ite_not,Dl.sz0,Dl.sz1,Dl.sz2,Dl.sz4] at e q hs hp ⊢
    exact ⟨he,hp,_,e,⟨hp,by omega⟩,.inl ⟨by decide,by decide⟩,_,rfl,q⟩
noncomputable def t_law_drawn:TSd:=dSeq (dSet 3 ((dOp (rIC (fun _ j=>0 < j) fun i j=>.int (i % j)) ((dOp (rF addF) ((dOp (rIC CMul fun i j=>.int (i * j)) ((dOp (rIC (fun _ j=>0 < j) fun i j=>.int (i % j)) ((dCall S_law_cell ((dCons ((dVar 0)) ((dCons ((dVar 1)) (dNil))))))) (dC (.int 2147483563)))) (dC (.int 69069)))) ((dOp (rIC CMul fun i j=>.int (i * j)) (dC (.int 104723)) ((dOp (rF addF) ((dVar 1)) (dC (.int 1)))))))) (dC (.int 2147483563))))) (dSeq (dSet 3 ((dOp (rIC (fun _ j=>0 < j) fun i j=>.int (i % j)) ((dOp (rF addF) ((dOp (rIC CMul fun i j=>.int (i * j)) ((dVar 3)) ((dVar 3)))) ((dOp (rIC CDiv fun i j=>.int (i / j)) ((dVar 3)) (dC (.int 3)))))) (dC (.int 2147483399))))) (dRet ((dOp (rIC (fun _ j=>0 < j) fun i j=>.int (i % j)) ((dOp (rIC CDiv fun i j=>.int (i / j)) ((dOp (rIC (fun _ j=>0 < j) fun i j=>.int (i % j)) ((dOp (rF addF) ((dOp (rIC CMul fun i j=>.int (i * j)) ((dVar 3)) ((dVar 3)))) ((dOp (rIC CDiv fun i j=>.int (i / j)) ((dVar 3)) (dC (.int 7)))))) (dC (.int 2147483647)))) (dC (.int 11)))) ((dVar 2))))))
theorem mod_in {i m:Int} (h0:0 < m) (h1:m < 2 ^ 64):-(2 ^ 64) < i % m∧i % m < 2 ^ 64:=by
  have a:=Int.emod_nonneg i (show m ≠ 0 by omega)
  have b:=Int.emod_lt_of_pos i h0
  omega
theorem r_law_drawn:∀ ds Q,S_law_drawn ds Q→t_law_drawn { nx:=fun _=>Q .non,rt:=fun d _=>Q d } (startD ["_law_script","_law_k","_law_many","_law_cell_here"] ds):=by
  rintro ds Q ⟨ns,k,m,rfl,hl,hk,hm,q⟩
  simp only [t_law_drawn,Dl.dSetD,Dl.xDGet,Dl.dDPut,Dl.dDPop,Dl.dDIn,Dl.dctOf,Dl.dctR,Dl.fzOf,Dl.keyD,Dl.diItems,Dl.dFz,Dl.pinO,Dl.pinS,Dl.dMeth,Dl.dMake,Dl.aNil,Dl.aCons,Dl.atsOf,Dl.inA,Dl.dX,Dl.xVar,Dl.xFld,Dl.dSetF,Dl.fldOf,Dl.putAt,Dl.fewOf,Dl.setO,Dl.upA_a,Dl.startO,Dl.entO,Dl.slA,Dl.outO,Dl.outA_a,Dl.outA_b,List.head?_cons,decide_true,Bool.and_self,and_self,Dl.dSeq,Dl.dNext,Dl.dIfS,Dl.dB,Dl.dOp,Dl.dVar,Dl.dC,Dl.dLst,Dl.dTup,Dl.dNil,Dl.dCons,Dl.dRet,Dl.dCall,Dl.cMax,Dl.cMin,Dl.dDrop,Dl.dSet,Dl.dOwn,Dl.dFrz,Dl.dAnd,Dl.dOr,Dl.dNot,Dl.dIf,Dl.dNever,Dl.rII,Dl.rIC,Dl.rEqD,Dl.rNeD,Dl.rIsN,Dl.rNotN,Dl.gdTup2,Dl.dExt,Dl.cSorted,Dl.cMinL,Dl.dLstRng,Dl.dYes,Dl.dropOw,Dl.gdName,Dl.startD,List.map_cons,List.map_nil,List.length_cons,List.length_nil,List.cons_append,List.nil_append,List.replicate_zero,List.replicate_succ,Nat.reduceAdd,Nat.reduceSub,List.getElem?_cons_zero,List.getElem?_cons_succ,List.set_cons_zero,List.set_cons_succ,Bool.not_true,Bool.not_false,if_true,if_false,reduceCtorEq,Bool.false_eq_true,Dl.rF,Dl.cLenF,Dl.diSeqF,Dl.dTruF,Option.some.injEq,Dl.eqD_int_int,Dl.eqD_str_str,Dl.eqD_tup_tup,Dl.eqD_lst_lst,Dl.eqDL_nil_nil,Dl.eqDL_cons_nil,Dl.eqDL_cons_cons,Dl.isNonD_non,Dl.isNonD_int,Dl.addF_int,Dl.addF_lst,Dl.ixF_tup,Dl.ixF_lst,Dl.seqF_lst,Dl.truF_bl,Dl.truF_lst,exists_eq_left',Dl.atI_0,Dl.atI_1,Dl.atI_2,Dl.atI_3,decide_eq_true_eq,true_and,Bool.true_and,Dl.okEq_int_int,beq_iff_eq,beq_self_eq_true,beq_eq_false_iff_ne,Bool.not_eq_true',ne_eq,ite_not,Dl.sz0,Dl.sz1,Dl.sz2,Dl.sz4]
  refine ⟨ns,k,rfl,hl,hk,by decide,.inl (mod_in (by decide) (by decide)),.inl ⟨by decide,by decide⟩,by decide,.inl (mod_in (by decide) (by decide)),⟨by decide,by decide⟩,by decide,
    .inl (mod_in (by decide) (by decide)),⟨by decide,by decide⟩,by decide,⟨by decide,by decide⟩,hm,?_⟩
  exact q
noncomputable def S_law:SpD:=fun ds Q=>∃ ns:List Int,ds = [scr ns]∧ns.length ≤ 63∧Q (.bl true)
theorem l_law:∀ ds Q,S_law ds Q→ds.length = 1:=by rintro ds Q ⟨_,rfl,_⟩; rfl
theorem use_drawn {ns:List Int} {k m:Int} {Q:D→Prop} (hl:ns.length ≤ 63) (hk:0 ≤ k) (hm:0 < m) (q:∀ x,0 ≤ x→x < m→Q (.int x)):S_law_drawn [scr ns,.int k,.int m] Q :=
  ⟨ns,k,m,rfl,hl,hk,hm,q _ (drawn_lo hm) (drawn_hi hm)⟩
noncomputable def oi:Option Int→D
  | none=>.non
  | some s=>.int s
theorem oi_none:oi none = .non:=rfl
theorem oi_some {s:Int}:oi (some s) = .int s:=rfl
end Law
namespace Rg
inductive Ck where
  | tm (size left:Int) (o:Option Int)
  | ev (b f:Int) (m:Option Int)
  | al (mi:Int) (days still:List Int)
noncomputable def Rise (l:List Int):Prop:=l.Pairwise (· < ·)
noncomputable def below (m:Option Int) (i:Int):Prop:=∀ k,m = some k→i < k
noncomputable def rg:Ck→Int→Prop
  | .tm _ left o,t=>∃ s,o = some s∧t = s + left
  | .ev b f m,t=>∃ i,0 ≤ i∧t = b + i * f∧below m i
  | .al mi days still,t=>0 ≤ t∧t % 1440 = mi∧t / 1440 % 7 ∈ days∧t ∉ still
noncomputable def Ok:Ck→Prop
  | .tm size left o=>0 ≤ left∧left ≤ 100000000∧∀ s,o = some s→0 ≤ s∧s ≤ 100000000
  | .ev b f m=>0 ≤ b∧b ≤ 100000000∧1 ≤ f∧f ≤ 100000000∧∀ k,m = some k→0 ≤ k∧k ≤ 100000000
  | .al _ _ _=>False
structure RingsOf (c:Ck) (a e:Int) (l:List Int):Prop where
  rise:Rise l
  mem:∀ t,t ∈ l ↔ a < t∧t ≤ e∧rg c t
structure NextOf (c:Ck) (now:Int) (r:Option Int):Prop where
  none:r = .none→∀ t,now < t→¬ rg c t
  some:∀ t,r = .some t→now < t∧rg c t∧∀ t',now < t'→t' < t→¬ rg c t'
noncomputable def Cnt (c:Ck) (t n:Int):Prop:=∀ l,RingsOf c (-1) t l→n = l.length
theorem rise_ext:∀ {l m:List Int},Rise l→Rise m→(∀ t,t ∈ l ↔ t ∈ m)→l = m
  | [],[],_,_,_=>rfl
  | [],y :: m,_,_,h=>absurd ((h y).mpr List.mem_cons_self) (by simp)
  | x :: l,[],_,_,h=>absurd ((h x).mp List.mem_cons_self) (by simp)
  | x :: l,y :: m,hl,hm,h=>by
    have hl':=List.pairwise_cons.mp hl
    have hm':=List.pairwise_cons.mp hm
    have e:x = y:=by
      rcases List.mem_cons.mp ((h x).mp List.mem_cons_self) with z | z
      · exact z
      · rcases List.mem_cons.mp ((h y).mpr List.mem_cons_self) with w | w
        · exact w.symm
        · have:=hl'.1 y w; have:=hm'.1 x z; omega
    subst e
    congr 1
    refine rise_ext hl'.2 hm'.2 fun t=>⟨fun z=>?_,fun z=>?_⟩
    · rcases List.mem_cons.mp ((h t).mp (List.mem_cons_of_mem _ z)) with w | w
      · have:=hl'.1 t z; omega
      · exact w
    · rcases List.mem_cons.mp ((h t).mpr (List.mem_cons_of_mem _ z)) with w | w
      · have:=hm'.1 t z; omega
      · exact w
theorem RingsOf.unique {c:Ck} {a e:Int} {l m:List Int} (h:RingsOf c a e l) (k:RingsOf c a e m):l = m:=rise_ext h.rise k.rise fun t=>by rw [h.mem,k.mem]
theorem RingsOf.append {c:Ck} {a b e:Int} {l m:List Int} (h:RingsOf c a b l) (k:RingsOf c b e m) (h1:a ≤ b) (h2:b ≤ e):RingsOf c a e (l ++ m):=by
  refine ⟨List.pairwise_append.mpr ⟨h.rise,k.rise,fun x hx y hy=>?_⟩,fun t=>?_⟩
  · have:=(h.mem x).mp hx; have:=(k.mem y).mp hy; omega
  · rw [List.mem_append,h.mem,k.mem]
    constructor
    · rintro (⟨x,y,z⟩ | ⟨x,y,z⟩)
      · exact ⟨x,by omega,z⟩
      · exact ⟨by omega,y,z⟩
    · rintro ⟨x,y,z⟩
      by_cases q:t ≤ b
      · exact .inl ⟨x,q,z⟩
      · exact .inr ⟨by omega,y,z⟩
theorem RingsOf.none {c:Ck} {a e:Int} (h:e ≤ a):RingsOf c a e []:=⟨.nil,fun t=>⟨fun z=>absurd z (by simp),fun z=>by omega⟩⟩
theorem NextOf.rings {c:Ck} {a e t:Int} {l:List Int} (h:NextOf c a (.some t)) (hl:RingsOf c t e l) (ht:t ≤ e):RingsOf c a e (t :: l):=by
  obtain ⟨h1,h2,h3⟩:=h.some t rfl
  refine ⟨List.pairwise_cons.mpr ⟨fun y hy=>((hl.mem y).mp hy).1,hl.rise⟩,fun y=>?_⟩
  rw [List.mem_cons,hl.mem]
  constructor
  · rintro (rfl | ⟨x,y,z⟩)
    · exact ⟨h1,ht,h2⟩
    · exact ⟨by omega,y,z⟩
  · rintro ⟨x,y',z⟩
    rcases Int.lt_trichotomy y t with q | q | q
    · exact absurd z (h3 y x q)
    · exact .inl q
    · exact .inr ⟨q,y',z⟩
theorem NextOf.nothing {c:Ck} {a e:Int} {r:Option Int} (h:NextOf c a r) (hr:∀ t,r = .some t→e < t):RingsOf c a e []:=by
  refine ⟨.nil,fun t=>⟨fun z=>absurd z (by simp),fun zz92=>zz92.elim fun x zz=>zz.elim fun y z=>?_⟩⟩
  cases r with
  | none=>exact absurd z (h.none rfl t x)
  | some u=>have:=hr u rfl; exact absurd z ((h.some u rfl).2.2 t x (by omega))
theorem NextOf.unique {c:Ck} {a:Int} {r q:Option Int} (h:NextOf c a r) (k:NextOf c a q):r = q:=by
  cases r with
  | none=>cases q with
    | none=>rfl
    | some u=>have:=k.some u rfl; exact absurd this.2.1 (h.none rfl u this.1)
  | some t=>cases q with
    | none=>have:=h.some t rfl; exact absurd this.2.1 (k.none rfl t this.1)
    | some u =>
      have h1:=h.some t rfl
      have h2:=k.some u rfl
      have:t = u:=by
        rcases Int.lt_trichotomy t u with z | z | z
        · exact absurd h1.2.1 (h2.2.2 t h1.1 z)
        · exact z
        · exact absurd h2.2.1 (h1.2.2 u h2.1 z)
      rw [this]
theorem rise_filter {l:List Int} (h:Rise l) (p:Int→Bool):Rise (l.filter p):=h.sublist List.filter_sublist
theorem tm_next {size left:Int} {o:Option Int} {now:Int}:NextOf (.tm size left o) now (match o with | .none=>.none | .some s=>if s + left ≤ now then .none else .some (s + left)):=by
  cases o with
  | none=>exact ⟨fun _ t _ zz93=>zz93.elim fun s zz=>zz.elim fun e _=>(nomatch e),fun t e=>(nomatch e)⟩
  | some s =>
    by_cases h:s + left ≤ now
    · simp only [if_pos h]
      exact ⟨fun _ t ht zz94=>zz94.elim fun s' zz=>zz.elim fun e z=>by cases e; omega,fun t e=>nomatch e⟩
    · simp only [if_neg h]
      exact ⟨fun e=>(nomatch e),fun t e=>by cases e; exact ⟨by omega,⟨s,rfl,rfl⟩,fun t' h1 h2 zz95=>zz95.elim fun s' zz=>zz.elim fun e z=>by cases e; omega⟩⟩
theorem tm_cnt {size left:Int} {o:Option Int} {t:Int} (h:Ok (.tm size left o)):Cnt (.tm size left o) t (match o with | .none=>0 | .some s=>if s + left ≤ t then 1 else 0):=by
  intro l hl
  cases o with
  | none =>
    have:l = []:=hl.unique ⟨.nil,fun t=>⟨fun z=>absurd z (by simp),fun zz96=>zz96.elim fun _ zz=>zz.elim fun _ zz=>zz.elim fun s zz=>zz.elim fun e _=>nomatch e⟩⟩
    subst this; rfl
  | some s =>
    have h0:=h.2.2 s rfl
    have h1:=h.1
    by_cases q:s + left ≤ t
    · have:l = [s + left]:=hl.unique ⟨List.pairwise_singleton ..,fun u=>⟨fun z=>by rw [List.mem_singleton] at z; subst z; exact ⟨by omega,q,s,rfl,rfl⟩,fun zz97=>zz97.elim fun _ zz=>zz.elim fun _ zz=>zz.elim fun s' zz=>zz.elim fun e z=>by cases e; rw [z]; exact List.mem_singleton.mpr rfl⟩⟩
      subst this; simp only [if_pos q]; rfl
    · have:l = []:=hl.unique ⟨.nil,fun u=>⟨fun z=>absurd z (by simp),fun zz98=>zz98.elim fun _ zz=>zz.elim fun y zz=>zz.elim fun s' zz=>zz.elim fun e z=>by cases e; omega⟩⟩
      subst this; simp only [if_neg q]; rfl
noncomputable def rungE (b f:Int) (m:Option Int) (t:Int):Int:=match m with
  | .none=>max 0 ((t - b) / f + 1)
  | .some k=>min (max 0 ((t - b) / f + 1)) k
theorem div_le {t b f i:Int} (hf:0 < f):b + i * f ≤ t ↔ i ≤ (t - b) / f:=by
  rw [Int.le_ediv_iff_mul_le hf]; omega
theorem rungE_iff {b f:Int} {m:Option Int} {t i:Int} (hf:0 < f) (hi:0 ≤ i):i < rungE b f m t ↔ b + i * f ≤ t∧below m i:=by
  rw [div_le hf]
  unfold rungE below
  cases m with
  | none=>simp; omega
  | some k=>simp; omega
theorem rungE_nn {b f:Int} {m:Option Int} {t:Int} (hm:∀ k,m = some k→0 ≤ k):0 ≤ rungE b f m t:=by
  unfold rungE
  cases m with
  | none=>simp; omega
  | some k=>have:=hm k rfl; simp; omega
noncomputable def listE (b f:Int) (i:Int) (n:Nat):List Int:=(List.range n).map fun j=>b + (i + (j:Nat)) * f
theorem listE_rise {b f i:Int} {n:Nat} (hf:0 < f):Rise (listE b f i n):=by
  unfold listE Rise
  rw [List.pairwise_map]
  refine List.pairwise_lt_range.imp fun {x y} h=>?_
  have:(i + (x:Nat)) * f < (i + (y:Nat)) * f:=Int.mul_lt_mul_of_pos_right (by omega) hf
  omega
theorem listE_mem {b f i:Int} {n:Nat} {t:Int}:t ∈ listE b f i n ↔ ∃ j,i ≤ j∧j < i + n∧t = b + j * f:=by
  unfold listE
  rw [List.mem_map]
  constructor
  · rintro ⟨j,hj,rfl⟩
    rw [List.mem_range] at hj
    exact ⟨i + (j:Nat),by omega,by omega,rfl⟩
  · rintro ⟨j,h1,h2,rfl⟩
    exact ⟨(j - i).toNat,by rw [List.mem_range]; omega,by rw [show i + ((j - i).toNat:Int) = j by omega]⟩
theorem ev_rings {b f:Int} {m:Option Int} {a e:Int} (h:Ok (.ev b f m)):RingsOf (.ev b f m) a e (listE b f (rungE b f m a) (rungE b f m e - rungE b f m a).toNat):=by
  obtain ⟨h1,h2,h3,h4,h5⟩:=h
  have hf:0 < f:=by omega
  have na:=rungE_nn (b:=b) (f:=f) (t:=a) fun k e=>(h5 k e).1
  refine ⟨listE_rise hf,fun t=>?_⟩
  rw [listE_mem]
  constructor
  · rintro ⟨j,j1,j2,rfl⟩
    have k1:=rungE_iff (b:=b) (m:=m) (t:=e) hf (show 0 ≤ j by omega)
    have k2:=rungE_iff (b:=b) (m:=m) (t:=a) hf (show 0 ≤ j by omega)
    have k3:=k1.mp (by omega)
    refine ⟨?_,k3.1,j,by omega,rfl,k3.2⟩
    by_cases q:b + j * f ≤ a
    · have:=k2.mpr ⟨q,k3.2⟩; omega
    · omega
  · rintro ⟨t1,t2,j,hj,rfl,hb⟩
    have k1:=(rungE_iff (b:=b) (m:=m) (t:=e) hf hj).mpr ⟨t2,hb⟩
    have k2:¬ j < rungE b f m a:=fun z=>by have:=(rungE_iff (b:=b) (m:=m) (t:=a) hf hj).mp z; omega
    exact ⟨j,by omega,by omega,rfl⟩
theorem ev_cnt {b f:Int} {m:Option Int} {t:Int} (h:Ok (.ev b f m)):Cnt (.ev b f m) t (rungE b f m t):=by
  intro l hl
  have e:=hl.unique (ev_rings h)
  have h0:rungE b f m (-1) = 0:=by
    have nn:=rungE_nn (b:=b) (f:=f) (t:=-1) fun k e=>(h.2.2.2.2 k e).1
    by_cases q:0 < rungE b f m (-1)
    · have:=(rungE_iff (b:=b) (m:=m) (t:=-1) (show 0 < f by have:=h.2.2.1; omega) (Int.le_refl 0)).mp q
      have:=h.1
      omega
    · omega
  have nn:=rungE_nn (b:=b) (f:=f) (t:=t) fun k e=>(h.2.2.2.2 k e).1
  rw [e,h0]
  simp only [listE,List.length_map,List.length_range]
  omega
theorem ev_next {b f:Int} {m:Option Int} {now:Int} (h:Ok (.ev b f m)) :
    NextOf (.ev b f m) now (if m = .some (rungE b f m now) then .none else .some (b + rungE b f m now * f)):=by
  obtain ⟨h1,h2,h3,h4,h5⟩:=h
  have hf:0 < f:=by omega
  have nn:=rungE_nn (b:=b) (f:=f) (t:=now) fun k e=>(h5 k e).1
  have all:∀ j,0 ≤ j→below m j→now < b + j * f→rungE b f m now ≤ j:=fun j j0 jb jn=>by
    by_cases q:j < rungE b f m now
    · have:=(rungE_iff (b:=b) (m:=m) (t:=now) hf j0).mp q; omega
    · omega
  by_cases q:m = .some (rungE b f m now)
  · rw [if_pos q]
    refine ⟨fun _ t ht zz99=>zz99.elim fun j zz=>zz.elim fun j0 zz=>zz.elim fun e jb=>?_,fun t e=>nomatch e⟩
    have:=all j j0 jb (by omega)
    have:=jb _ q
    omega
  · rw [if_neg q]
    have bl:below m (rungE b f m now):=fun k e=>by
      have:rungE b f m now ≤ k:=by subst e; unfold rungE; simp; omega
      have:rungE b f m now ≠ k:=fun z=>q (e.trans (by rw [z]))
      omega
    refine ⟨fun e=>(nomatch e),fun t e=>?_⟩
    cases e
    refine ⟨?_,⟨_,nn,rfl,bl⟩,fun t' t1 t2 zz100=>zz100.elim fun j zz=>zz.elim fun j0 zz=>zz.elim fun e jb=>?_⟩
    · by_cases z:b + rungE b f m now * f ≤ now
      · have:=(rungE_iff (b:=b) (m:=m) (t:=now) hf nn).mpr ⟨z,bl⟩; omega
      · omega
    · have h1:=all j j0 jb (by omega)
      have:rungE b f m now * f ≤ j * f:=Int.mul_le_mul_of_nonneg_right h1 (by omega)
      omega
end Rg
namespace Law
open PySem L2 Dl Rg
noncomputable abbrev iL (l:List Int):List D:=l.map D.int
noncomputable def ckD:Ck→D
  | .tm size left o=>.tup [.str "timer",.int size,.int left,oi o]
  | .ev b f m=>.tup [.str "every",.int b,.int f,oi m]
  | .al mi days still=>.tup [.str "alarm",.int mi,.tup (iL days),.tup (iL still)]
theorem q_et:(("every":Str) == ("timer":Str)) = false:=by decide +kernel
theorem q_ea:(("every":Str) == ("alarm":Str)) = false:=by decide +kernel
theorem okS {x y:Str} (h1:PyData.strOk x = true) (h2:PyData.strOk y = true):okEq (.str x) (.str y):=⟨h1,h2,Nat.zero_le _⟩
theorem ok_t:PyData.strOk "timer" = true:=by decide +kernel
theorem ok_e:PyData.strOk "every" = true:=by decide +kernel
theorem ok_a:PyData.strOk "alarm" = true:=by decide +kernel
theorem rise_len:∀ {l:List Int} {a b:Int},Rise l→(∀ x ∈ l,a ≤ x∧x < b)→l.length ≤ (b - a).toNat
  | [],_,_,_,_=>Nat.zero_le _
  | x :: l,a,b,h,hx=>by
    have h':=List.pairwise_cons.mp h
    have:=hx x List.mem_cons_self
    have:=rise_len (l:=l) (a:=x + 1) (b:=b) h'.2 fun y hy=>⟨by have:=h'.1 y hy; omega,(hx y (List.mem_cons_of_mem _ hy)).2⟩
    rw [List.length_cons]
    omega
noncomputable def mapD (g:Int→D):D→Option D
  | .int x=>some (g x)
  | _=>none
theorem mapD_ints {g:Int→D}:∀ {l:List Int},(iL l).filterMap (mapD g) = l.map g
  | []=>rfl
  | x :: l=>by
    show (D.int x :: iL l).filterMap (mapD g) = _
    rw [List.filterMap_cons_some (show mapD g (.int x) = some (g x) from rfl),mapD_ints]; rfl
noncomputable def S_next_of_timer:SpD:=fun ds Q=>∃ size left o t,ds = [ckD (.tm size left o),.int t]∧∀ r,NextOf (.tm size left o) t r→Q (oi r)
noncomputable def S_rung_of_every:SpD:=fun ds Q=>∃ b f m t,ds = [ckD (.ev b f m),.int t]∧Ok (.ev b f m)∧Q (.int (rungE b f m t))
noncomputable def S_next_of_every:SpD:=fun ds Q=>∃ b f m t,ds = [ckD (.ev b f m),.int t]∧Ok (.ev b f m)∧Q (oi (if m = some (rungE b f m t) then none else some (b + rungE b f m t * f)))
noncomputable def S_next_ring:SpD:=fun ds Q=>∃ c t,ds = [ckD c,.int t]∧Ok c∧t ≤ 1000000000∧∀ r,NextOf c t r→Q (oi r)
noncomputable def S_rung_by:SpD:=fun ds Q=>∃ c t,ds = [ckD c,.int t]∧Ok c∧∀ n,Cnt c t n→Q (.int n)
theorem l_next_of_timer:∀ ds Q,S_next_of_timer ds Q→ds.length = 2:=by rintro ds Q ⟨_,_,_,_,rfl,_⟩; rfl
theorem l_rung_of_every:∀ ds Q,S_rung_of_every ds Q→ds.length = 2:=by rintro ds Q ⟨_,_,_,_,rfl,_⟩; rfl
theorem l_next_of_every:∀ ds Q,S_next_of_every ds Q→ds.length = 2:=by rintro ds Q ⟨_,_,_,_,rfl,_⟩; rfl
theorem l_next_ring:∀ ds Q,S_next_ring ds Q→ds.length = 2:=by rintro ds Q ⟨_,_,rfl,_⟩; rfl
theorem l_rung_by:∀ ds Q,S_rung_by ds Q→ds.length = 2:=by rintro ds Q ⟨_,_,rfl,_⟩; rfl
noncomputable def t_next_of_timer:TSd:=dSeq (dIfS (dOr (dB (dOp rIsN ((dOp (rF ixF) ((dVar 0)) (dC (.int 3)))) (dC .non))) (dB (dOp (rII fun i j=>.bl (decide (i ≤ j))) ((dOp (rF addF) ((dOp (rF ixF) ((dVar 0)) (dC (.int 3)))) ((dOp (rF ixF) ((dVar 0)) (dC (.int 2)))))) ((dVar 1))))) (dRet (dC .non)) (dNext)) (dRet ((dOp (rF addF) ((dOp (rF ixF) ((dVar 0)) (dC (.int 3)))) ((dOp (rF ixF) ((dVar 0)) (dC (.int 2)))))))
theorem r_next_of_timer:∀ ds Q,S_next_of_timer ds Q→t_next_of_timer { nx:=fun _=>Q .non,rt:=fun d _=>Q d } (startD ["clock","now"] ds):=by
  rintro ds Q ⟨size,left,o,t,rfl,q⟩
  have q:=q _ tm_next
  cases o with
  | none=>simp only [t_next_of_timer,ckD,oi_none,oi_some,Dl.dSetD,Dl.xDGet,Dl.dDPut,Dl.dDPop,Dl.dDIn,Dl.dctOf,Dl.dctR,Dl.fzOf,Dl.keyD,Dl.diItems,Dl.dFz,Dl.pinO,Dl.pinS,Dl.dMeth,Dl.dMake,Dl.aNil,Dl.aCons,Dl.atsOf,Dl.inA,Dl.dX,Dl.xVar,Dl.xFld,Dl.dSetF,Dl.fldOf,Dl.putAt,Dl.fewOf,Dl.setO,Dl.upA_a,Dl.startO,Dl.entO,Dl.slA,Dl.outO,Dl.outA_a,Dl.outA_b,List.head?_cons,decide_true,Bool.and_self,and_self,Dl.dSeq,Dl.dNext,Dl.dIfS,Dl.dB,Dl.dOp,Dl.dVar,Dl.dC,Dl.dLst,Dl.dTup,Dl.dNil,Dl.dCons,Dl.dRet,Dl.dCall,Dl.cMax,Dl.cMin,Dl.dDrop,Dl.dSet,Dl.dOwn,Dl.dFrz,Dl.dAnd,Dl.dOr,Dl.dNot,Dl.dIf,Dl.dNever,Dl.rII,Dl.rIC,Dl.rEqD,Dl.rNeD,Dl.rIsN,Dl.rNotN,Dl.gdTup2,Dl.dExt,Dl.cSorted,Dl.cMinL,Dl.dLstRng,Dl.dYes,Dl.dropOw,Dl.gdName,Dl.startD,List.map_cons,List.map_nil,List.length_cons,List.length_nil,List.cons_append,List.nil_append,List.replicate_zero,List.replicate_succ,Nat.reduceAdd,Nat.reduceSub,List.getElem?_cons_zero,List.getElem?_cons_succ,List.set_cons_zero,List.set_cons_succ,Bool.not_true,Bool.not_false,if_true,if_false,reduceCtorEq,Bool.false_eq_true,Dl.rF,Dl.cLenF,Dl.diSeqF,Dl.dTruF,Option.some.injEq,Dl.eqD_int_int,Dl.eqD_str_str,Dl.eqD_tup_tup,Dl.eqD_lst_lst,Dl.eqDL_nil_nil,Dl.eqDL_cons_nil,Dl.eqDL_cons_cons,Dl.isNonD_non,Dl.isNonD_int,Dl.addF_int,Dl.addF_lst,Dl.ixF_tup,Dl.ixF_lst,Dl.seqF_lst,Dl.truF_bl,Dl.truF_lst,exists_eq_left',Dl.atI_0,Dl.atI_1,Dl.atI_2,Dl.atI_3,decide_eq_true_eq,true_and,Bool.true_and,Dl.okEq_int_int,beq_iff_eq,beq_self_eq_true,beq_eq_false_iff_ne,Bool.not_eq_true',ne_eq,ite_not,Dl.sz0,Dl.sz1,Dl.sz2,Dl.sz4]; exact q
  | some s =>
    simp only [t_next_of_timer,ckD,oi_none,oi_some,Dl.dSetD,Dl.xDGet,Dl.dDPut,Dl.dDPop,Dl.dDIn,Dl.dctOf,Dl.dctR,Dl.fzOf,Dl.keyD,Dl.diItems,Dl.dFz,Dl.pinO,Dl.pinS,Dl.dMeth,Dl.dMake,Dl.aNil,Dl.aCons,Dl.atsOf,Dl.inA,Dl.dX,Dl.xVar,Dl.xFld,Dl.dSetF,Dl.fldOf,Dl.putAt,Dl.fewOf,Dl.setO,Dl.upA_a,Dl.startO,Dl.entO,Dl.slA,Dl.outO,Dl.outA_a,Dl.outA_b,List.head?_cons,decide_true,Bool.and_self,and_self,Dl.dSeq,Dl.dNext,Dl.dIfS,Dl.dB,Dl.dOp,Dl.dVar,Dl.dC,Dl.dLst,Dl.dTup,Dl.dNil,Dl.dCons,Dl.dRet,Dl.dCall,Dl.cMax,Dl.cMin,Dl.dDrop,Dl.dSet,Dl.dOwn,Dl.dFrz,Dl.dAnd,Dl.dOr,Dl.dNot,Dl.dIf,Dl.dNever,Dl.rII,Dl.rIC,Dl.rEqD,Dl.rNeD,Dl.rIsN,Dl.rNotN,Dl.gdTup2,Dl.dExt,Dl.cSorted,Dl.cMinL,Dl.dLstRng,Dl.dYes,Dl.dropOw,Dl.gdName,Dl.startD,List.map_cons,List.map_nil,List.length_cons,List.length_nil,List.cons_append,List.nil_append,List.replicate_zero,List.replicate_succ,Nat.reduceAdd,Nat.reduceSub,List.getElem?_cons_zero,List.getElem?_cons_succ,List.set_cons_zero,List.set_cons_succ,Bool.not_true,Bool.not_false,if_true,if_false,reduceCtorEq,Bool.false_eq_true,Dl.rF,Dl.cLenF,Dl.diSeqF,Dl.dTruF,Option.some.injEq,Dl.eqD_int_int,Dl.eqD_str_str,Dl.eqD_tup_tup,Dl.eqD_lst_lst,Dl.eqDL_nil_nil,Dl.eqDL_cons_nil,Dl.eqDL_cons_cons,Dl.isNonD_non,Dl.isNonD_int,Dl.addF_int,Dl.addF_lst,Dl.ixF_tup,Dl.ixF_lst,Dl.seqF_lst,Dl.truF_bl,Dl.truF_lst,exists_eq_left',Dl.atI_0,Dl.atI_1,Dl.atI_2,Dl.atI_3,decide_eq_true_eq,true_and,Bool.true_and,Dl.okEq_int_int,beq_iff_eq,beq_self_eq_true,beq_eq_false_iff_ne,Bool.not_eq_true',ne_eq,ite_not,Dl.sz0,Dl.sz1,Dl.sz2,Dl.sz4]
    refine ite2 (fun h=>?_) (fun h=>?_)
    · simp only [if_pos h] at q; exact q
    · simp only [if_neg h] at q; exact q
noncomputable def t_rung_of_every:TSd:=dSeq (dSet 2 ((dCall cMax ((dCons (dC (.int 0)) ((dCons ((dOp (rF addF) ((dOp (rIC CDiv fun i j=>.int (i / j)) ((dOp (rII fun i j=>.int (i - j)) ((dVar 1)) ((dOp (rF ixF) ((dVar 0)) (dC (.int 1)))))) ((dOp (rF ixF) ((dVar 0)) (dC (.int 2)))))) (dC (.int 1)))) (dNil)))))))) (dRet ((dIf (dB (dOp rIsN ((dOp (rF ixF) ((dVar 0)) (dC (.int 3)))) (dC .non))) ((dVar 2)) ((dCall cMin ((dCons ((dVar 2)) ((dCons ((dOp (rF ixF) ((dVar 0)) (dC (.int 3)))) (dNil))))))))))
theorem r_rung_of_every:∀ ds Q,S_rung_of_every ds Q→t_rung_of_every { nx:=fun _=>Q .non,rt:=fun d _=>Q d } (startD ["clock","moment","rung"] ds):=by
  rintro ds Q ⟨b,f,m,t,rfl,ok,q⟩
  obtain ⟨h1,h2,h3,h4,h5⟩:=ok
  cases m with
  | none=>simp only [t_rung_of_every,ckD,oi_none,oi_some,Dl.dSetD,Dl.xDGet,Dl.dDPut,Dl.dDPop,Dl.dDIn,Dl.dctOf,Dl.dctR,Dl.fzOf,Dl.keyD,Dl.diItems,Dl.dFz,Dl.pinO,Dl.pinS,Dl.dMeth,Dl.dMake,Dl.aNil,Dl.aCons,Dl.atsOf,Dl.inA,Dl.dX,Dl.xVar,Dl.xFld,Dl.dSetF,Dl.fldOf,Dl.putAt,Dl.fewOf,Dl.setO,Dl.upA_a,Dl.startO,Dl.entO,Dl.slA,Dl.outO,Dl.outA_a,Dl.outA_b,List.head?_cons,decide_true,Bool.and_self,and_self,Dl.dSeq,Dl.dNext,Dl.dIfS,Dl.dB,Dl.dOp,Dl.dVar,Dl.dC,Dl.dLst,Dl.dTup,Dl.dNil,Dl.dCons,Dl.dRet,Dl.dCall,Dl.cMax,Dl.cMin,Dl.dDrop,Dl.dSet,Dl.dOwn,Dl.dFrz,Dl.dAnd,Dl.dOr,Dl.dNot,Dl.dIf,Dl.dNever,Dl.rII,Dl.rIC,Dl.rEqD,Dl.rNeD,Dl.rIsN,Dl.rNotN,Dl.gdTup2,Dl.dExt,Dl.cSorted,Dl.cMinL,Dl.dLstRng,Dl.dYes,Dl.dropOw,Dl.gdName,Dl.startD,List.map_cons,List.map_nil,List.length_cons,List.length_nil,List.cons_append,List.nil_append,List.replicate_zero,List.replicate_succ,Nat.reduceAdd,Nat.reduceSub,List.getElem?_cons_zero,List.getElem?_cons_succ,List.set_cons_zero,List.set_cons_succ,Bool.not_true,Bool.not_false,if_true,if_false,reduceCtorEq,Bool.false_eq_true,Dl.rF,Dl.cLenF,Dl.diSeqF,Dl.dTruF,Option.some.injEq,Dl.eqD_int_int,Dl.eqD_str_str,Dl.eqD_tup_tup,Dl.eqD_lst_lst,Dl.eqDL_nil_nil,Dl.eqDL_cons_nil,Dl.eqDL_cons_cons,Dl.isNonD_non,Dl.isNonD_int,Dl.addF_int,Dl.addF_lst,Dl.ixF_tup,Dl.ixF_lst,Dl.seqF_lst,Dl.truF_bl,Dl.truF_lst,exists_eq_left',Dl.atI_0,Dl.atI_1,Dl.atI_2,Dl.atI_3,decide_eq_true_eq,true_and,Bool.true_and,Dl.okEq_int_int,beq_iff_eq,beq_self_eq_true,beq_eq_false_iff_ne,Bool.not_eq_true',ne_eq,ite_not,Dl.sz0,Dl.sz1,Dl.sz2,Dl.sz4]; exact ⟨⟨by omega,by omega⟩,q⟩
  | some k=>simp only [t_rung_of_every,ckD,oi_none,oi_some,Dl.dSetD,Dl.xDGet,Dl.dDPut,Dl.dDPop,Dl.dDIn,Dl.dctOf,Dl.dctR,Dl.fzOf,Dl.keyD,Dl.diItems,Dl.dFz,Dl.pinO,Dl.pinS,Dl.dMeth,Dl.dMake,Dl.aNil,Dl.aCons,Dl.atsOf,Dl.inA,Dl.dX,Dl.xVar,Dl.xFld,Dl.dSetF,Dl.fldOf,Dl.putAt,Dl.fewOf,Dl.setO,Dl.upA_a,Dl.startO,Dl.entO,Dl.slA,Dl.outO,Dl.outA_a,Dl.outA_b,List.head?_cons,decide_true,Bool.and_self,and_self,Dl.dSeq,Dl.dNext,Dl.dIfS,Dl.dB,Dl.dOp,Dl.dVar,Dl.dC,Dl.dLst,Dl.dTup,Dl.dNil,Dl.dCons,Dl.dRet,Dl.dCall,Dl.cMax,Dl.cMin,Dl.dDrop,Dl.dSet,Dl.dOwn,Dl.dFrz,Dl.dAnd,Dl.dOr,Dl.dNot,Dl.dIf,Dl.dNever,Dl.rII,Dl.rIC,Dl.rEqD,Dl.rNeD,Dl.rIsN,Dl.rNotN,Dl.gdTup2,Dl.dExt,Dl.cSorted,Dl.cMinL,Dl.dLstRng,Dl.dYes,Dl.dropOw,Dl.gdName,Dl.startD,List.map_cons,List.map_nil,List.length_cons,List.length_nil,List.cons_append,List.nil_append,List.replicate_zero,List.replicate_succ,Nat.reduceAdd,Nat.reduceSub,List.getElem?_cons_zero,List.getElem?_cons_succ,List.set_cons_zero,List.set_cons_succ,Bool.not_true,Bool.not_false,if_true,if_false,reduceCtorEq,Bool.false_eq_true,Dl.rF,Dl.cLenF,Dl.diSeqF,Dl.dTruF,Option.some.injEq,Dl.eqD_int_int,Dl.eqD_str_str,Dl.eqD_tup_tup,Dl.eqD_lst_lst,Dl.eqDL_nil_nil,Dl.eqDL_cons_nil,Dl.eqDL_cons_cons,Dl.isNonD_non,Dl.isNonD_int,Dl.addF_int,Dl.addF_lst,Dl.ixF_tup,Dl.ixF_lst,Dl.seqF_lst,Dl.truF_bl,Dl.truF_lst,exists_eq_left',Dl.atI_0,Dl.atI_1,Dl.atI_2,Dl.atI_3,decide_eq_true_eq,true_and,Bool.true_and,Dl.okEq_int_int,beq_iff_eq,beq_self_eq_true,beq_eq_false_iff_ne,Bool.not_eq_true',ne_eq,ite_not,Dl.sz0,Dl.sz1,Dl.sz2,Dl.sz4]; exact ⟨⟨by omega,by omega⟩,q⟩
noncomputable def t_next_of_every:TSd:=dSeq (dSet 2 ((dCall S_rung_of_every ((dCons ((dVar 0)) ((dCons ((dVar 1)) (dNil)))))))) (dSeq (dIfS (dAnd (dB (dOp rNotN ((dOp (rF ixF) ((dVar 0)) (dC (.int 3)))) (dC .non))) (dB (dOp rEqD ((dVar 2)) ((dOp (rF ixF) ((dVar 0)) (dC (.int 3))))))) (dRet (dC .non)) (dNext)) (dRet ((dOp (rF addF) ((dOp (rF ixF) ((dVar 0)) (dC (.int 1)))) ((dOp (rIC CMul fun i j=>.int (i * j)) ((dVar 2)) ((dOp (rF ixF) ((dVar 0)) (dC (.int 2))))))))))
theorem r_next_of_every:∀ ds Q,S_next_of_every ds Q→t_next_of_every { nx:=fun _=>Q .non,rt:=fun d _=>Q d } (startD ["clock","now","rung"] ds):=by
  rintro ds Q ⟨b,f,m,t,rfl,ok,q⟩
  have mf:∀ i:Int,CMul i f:=fun i=>.inr ⟨by have:=ok.2.2.1; omega,by have:=ok.2.2.2.1; omega⟩
  cases m with
  | none =>
    simp only [t_next_of_every,ckD,oi_none,oi_some,Dl.dSetD,Dl.xDGet,Dl.dDPut,Dl.dDPop,Dl.dDIn,Dl.dctOf,Dl.dctR,Dl.fzOf,Dl.keyD,Dl.diItems,Dl.dFz,Dl.pinO,Dl.pinS,Dl.dMeth,Dl.dMake,Dl.aNil,Dl.aCons,Dl.atsOf,Dl.inA,Dl.dX,Dl.xVar,Dl.xFld,Dl.dSetF,Dl.fldOf,Dl.putAt,Dl.fewOf,Dl.setO,Dl.upA_a,Dl.startO,Dl.entO,Dl.slA,Dl.outO,Dl.outA_a,Dl.outA_b,List.head?_cons,decide_true,Bool.and_self,and_self,Dl.dSeq,Dl.dNext,Dl.dIfS,Dl.dB,Dl.dOp,Dl.dVar,Dl.dC,Dl.dLst,Dl.dTup,Dl.dNil,Dl.dCons,Dl.dRet,Dl.dCall,Dl.cMax,Dl.cMin,Dl.dDrop,Dl.dSet,Dl.dOwn,Dl.dFrz,Dl.dAnd,Dl.dOr,Dl.dNot,Dl.dIf,Dl.dNever,Dl.rII,Dl.rIC,Dl.rEqD,Dl.rNeD,Dl.rIsN,Dl.rNotN,Dl.gdTup2,Dl.dExt,Dl.cSorted,Dl.cMinL,Dl.dLstRng,Dl.dYes,Dl.dropOw,Dl.gdName,Dl.startD,List.map_cons,List.map_nil,List.length_cons,List.length_nil,List.cons_append,List.nil_append,List.replicate_zero,List.replicate_succ,Nat.reduceAdd,Nat.reduceSub,List.getElem?_cons_zero,List.getElem?_cons_succ,List.set_cons_zero,List.set_cons_succ,Bool.not_true,Bool.not_false,if_true,if_false,reduceCtorEq,Bool.false_eq_true,Dl.rF,Dl.cLenF,Dl.diSeqF,Dl.dTruF,Option.some.injEq,Dl.eqD_int_int,Dl.eqD_str_str,Dl.eqD_tup_tup,Dl.eqD_lst_lst,Dl.eqDL_nil_nil,Dl.eqDL_cons_nil,Dl.eqDL_cons_cons,Dl.isNonD_non,Dl.isNonD_int,Dl.addF_int,Dl.addF_lst,Dl.ixF_tup,Dl.ixF_lst,Dl.seqF_lst,Dl.truF_bl,Dl.truF_lst,exists_eq_left',Dl.atI_0,Dl.atI_1,Dl.atI_2,Dl.atI_3,decide_eq_true_eq,true_and,Bool.true_and,Dl.okEq_int_int,beq_iff_eq,beq_self_eq_true,beq_eq_false_iff_ne,Bool.not_eq_true',ne_eq,ite_not,Dl.sz0,Dl.sz1,Dl.sz2,Dl.sz4]
    refine ⟨b,f,none,t,rfl,ok,?_⟩
    simp only [oi_none,oi_some,Dl.dSetD,Dl.xDGet,Dl.dDPut,Dl.dDPop,Dl.dDIn,Dl.dctOf,Dl.dctR,Dl.fzOf,Dl.keyD,Dl.diItems,Dl.dFz,Dl.pinO,Dl.pinS,Dl.dMeth,Dl.dMake,Dl.aNil,Dl.aCons,Dl.atsOf,Dl.inA,Dl.dX,Dl.xVar,Dl.xFld,Dl.dSetF,Dl.fldOf,Dl.putAt,Dl.fewOf,Dl.setO,Dl.upA_a,Dl.startO,Dl.entO,Dl.slA,Dl.outO,Dl.outA_a,Dl.outA_b,List.head?_cons,decide_true,Bool.and_self,and_self,Dl.dSeq,Dl.dNext,Dl.dIfS,Dl.dB,Dl.dOp,Dl.dVar,Dl.dC,Dl.dLst,Dl.dTup,Dl.dNil,Dl.dCons,Dl.dRet,Dl.dCall,Dl.cMax,Dl.cMin,Dl.dDrop,Dl.dSet,Dl.dOwn,Dl.dFrz,Dl.dAnd,Dl.dOr,Dl.dNot,Dl.dIf,Dl.dNever,Dl.rII,Dl.rIC,Dl.rEqD,Dl.rNeD,Dl.rIsN,Dl.rNotN,Dl.gdTup2,Dl.dExt,Dl.cSorted,Dl.cMinL,Dl.dLstRng,Dl.dYes,Dl.dropOw,Dl.gdName,Dl.startD,List.map_cons,List.map_nil,List.length_cons,List.length_nil,List.cons_append,List.nil_append,List.replicate_zero,List.replicate_succ,Nat.reduceAdd,Nat.reduceSub,List.getElem?_cons_zero,List.getElem?_cons_succ,List.set_cons_zero,List.set_cons_succ,Bool.not_true,Bool.not_false,if_true,if_false,reduceCtorEq,Bool.false_eq_true,Dl.rF,Dl.cLenF,Dl.diSeqF,Dl.dTruF,Option.some.injEq,Dl.eqD_int_int,Dl.eqD_str_str,Dl.eqD_tup_tup,Dl.eqD_lst_lst,Dl.eqDL_nil_nil,Dl.eqDL_cons_nil,Dl.eqDL_cons_cons,Dl.isNonD_non,Dl.isNonD_int,Dl.addF_int,Dl.addF_lst,Dl.ixF_tup,Dl.ixF_lst,Dl.seqF_lst,Dl.truF_bl,Dl.truF_lst,exists_eq_left',Dl.atI_0,Dl.atI_1,Dl.atI_2,Dl.atI_3,decide_eq_true_eq,true_and,Bool.true_and,Dl.okEq_int_int,beq_iff_eq,beq_self_eq_true,beq_eq_false_iff_ne,Bool.not_eq_true',ne_eq,ite_not,Dl.sz0,Dl.sz1,Dl.sz2,Dl.sz4]
    exact ⟨mf _,q⟩
  | some k =>
    simp only [t_next_of_every,ckD,oi_none,oi_some,Dl.dSetD,Dl.xDGet,Dl.dDPut,Dl.dDPop,Dl.dDIn,Dl.dctOf,Dl.dctR,Dl.fzOf,Dl.keyD,Dl.diItems,Dl.dFz,Dl.pinO,Dl.pinS,Dl.dMeth,Dl.dMake,Dl.aNil,Dl.aCons,Dl.atsOf,Dl.inA,Dl.dX,Dl.xVar,Dl.xFld,Dl.dSetF,Dl.fldOf,Dl.putAt,Dl.fewOf,Dl.setO,Dl.upA_a,Dl.startO,Dl.entO,Dl.slA,Dl.outO,Dl.outA_a,Dl.outA_b,List.head?_cons,decide_true,Bool.and_self,and_self,Dl.dSeq,Dl.dNext,Dl.dIfS,Dl.dB,Dl.dOp,Dl.dVar,Dl.dC,Dl.dLst,Dl.dTup,Dl.dNil,Dl.dCons,Dl.dRet,Dl.dCall,Dl.cMax,Dl.cMin,Dl.dDrop,Dl.dSet,Dl.dOwn,Dl.dFrz,Dl.dAnd,Dl.dOr,Dl.dNot,Dl.dIf,Dl.dNever,Dl.rII,Dl.rIC,Dl.rEqD,Dl.rNeD,Dl.rIsN,Dl.rNotN,Dl.gdTup2,Dl.dExt,Dl.cSorted,Dl.cMinL,Dl.dLstRng,Dl.dYes,Dl.dropOw,Dl.gdName,Dl.startD,List.map_cons,List.map_nil,List.length_cons,List.length_nil,List.cons_append,List.nil_append,List.replicate_zero,List.replicate_succ,Nat.reduceAdd,Nat.reduceSub,List.getElem?_cons_zero,List.getElem?_cons_succ,List.set_cons_zero,List.set_cons_succ,Bool.not_true,Bool.not_false,if_true,if_false,reduceCtorEq,Bool.false_eq_true,Dl.rF,Dl.cLenF,Dl.diSeqF,Dl.dTruF,Option.some.injEq,Dl.eqD_int_int,Dl.eqD_str_str,Dl.eqD_tup_tup,Dl.eqD_lst_lst,Dl.eqDL_nil_nil,Dl.eqDL_cons_nil,Dl.eqDL_cons_cons,Dl.isNonD_non,Dl.isNonD_int,Dl.addF_int,Dl.addF_lst,Dl.ixF_tup,Dl.ixF_lst,Dl.seqF_lst,Dl.truF_bl,Dl.truF_lst,exists_eq_left',Dl.atI_0,Dl.atI_1,Dl.atI_2,Dl.atI_3,decide_eq_true_eq,true_and,Bool.true_and,Dl.okEq_int_int,beq_iff_eq,beq_self_eq_true,beq_eq_false_iff_ne,Bool.not_eq_true',ne_eq,ite_not,Dl.sz0,Dl.sz1,Dl.sz2,Dl.sz4]
    refine ⟨b,f,some k,t,rfl,ok,?_⟩
    simp only [oi_none,oi_some,Dl.dSetD,Dl.xDGet,Dl.dDPut,Dl.dDPop,Dl.dDIn,Dl.dctOf,Dl.dctR,Dl.fzOf,Dl.keyD,Dl.diItems,Dl.dFz,Dl.pinO,Dl.pinS,Dl.dMeth,Dl.dMake,Dl.aNil,Dl.aCons,Dl.atsOf,Dl.inA,Dl.dX,Dl.xVar,Dl.xFld,Dl.dSetF,Dl.fldOf,Dl.putAt,Dl.fewOf,Dl.setO,Dl.upA_a,Dl.startO,Dl.entO,Dl.slA,Dl.outO,Dl.outA_a,Dl.outA_b,List.head?_cons,decide_true,Bool.and_self,and_self,Dl.dSeq,Dl.dNext,Dl.dIfS,Dl.dB,Dl.dOp,Dl.dVar,Dl.dC,Dl.dLst,Dl.dTup,Dl.dNil,Dl.dCons,Dl.dRet,Dl.dCall,Dl.cMax,Dl.cMin,Dl.dDrop,Dl.dSet,Dl.dOwn,Dl.dFrz,Dl.dAnd,Dl.dOr,Dl.dNot,Dl.dIf,Dl.dNever,Dl.rII,Dl.rIC,Dl.rEqD,Dl.rNeD,Dl.rIsN,Dl.rNotN,Dl.gdTup2,Dl.dExt,Dl.cSorted,Dl.cMinL,Dl.dLstRng,Dl.dYes,Dl.dropOw,Dl.gdName,Dl.startD,List.map_cons,List.map_nil,List.length_cons,List.length_nil,List.cons_append,List.nil_append,List.replicate_zero,List.replicate_succ,Nat.reduceAdd,Nat.reduceSub,List.getElem?_cons_zero,List.getElem?_cons_succ,List.set_cons_zero,List.set_cons_succ,Bool.not_true,Bool.not_false,if_true,if_false,reduceCtorEq,Bool.false_eq_true,Dl.rF,Dl.cLenF,Dl.diSeqF,Dl.dTruF,Option.some.injEq,Dl.eqD_int_int,Dl.eqD_str_str,Dl.eqD_tup_tup,Dl.eqD_lst_lst,Dl.eqDL_nil_nil,Dl.eqDL_cons_nil,Dl.eqDL_cons_cons,Dl.isNonD_non,Dl.isNonD_int,Dl.addF_int,Dl.addF_lst,Dl.ixF_tup,Dl.ixF_lst,Dl.seqF_lst,Dl.truF_bl,Dl.truF_lst,exists_eq_left',Dl.atI_0,Dl.atI_1,Dl.atI_2,Dl.atI_3,decide_eq_true_eq,true_and,Bool.true_and,Dl.okEq_int_int,beq_iff_eq,beq_self_eq_true,beq_eq_false_iff_ne,Bool.not_eq_true',ne_eq,ite_not,Dl.sz0,Dl.sz1,Dl.sz2,Dl.sz4]
    refine ite2 (fun h=>?_) (fun h=>?_)
    · rw [if_pos (congrArg some h.symm)] at q; exact q
    · rw [if_neg fun z=>h (Option.some.inj z).symm] at q; exact ⟨mf _,q⟩
noncomputable def t_next_ring:TSd:=dSeq (dIfS (dB (dOp rEqD ((dOp (rF ixF) ((dVar 0)) (dC (.int 0)))) (dC (.str "timer")))) (dRet ((dCall S_next_of_timer ((dCons ((dVar 0)) ((dCons ((dVar 1)) (dNil)))))))) (dNext)) (dSeq (dIfS (dB (dOp rEqD ((dOp (rF ixF) ((dVar 0)) (dC (.int 0)))) (dC (.str "every")))) (dRet ((dCall S_next_of_every ((dCons ((dVar 0)) ((dCons ((dVar 1)) (dNil)))))))) (dNext)) (dNever))
theorem r_next_ring:∀ ds Q,S_next_ring ds Q→t_next_ring { nx:=fun _=>Q .non,rt:=fun d _=>Q d } (startD ["clock","now"] ds):=by
  rintro ds Q ⟨c,t,rfl,ok,ht,q⟩
  cases c with
  | tm size left o =>
    simp only [t_next_ring,ckD,Dl.dSetD,Dl.xDGet,Dl.dDPut,Dl.dDPop,Dl.dDIn,Dl.dctOf,Dl.dctR,Dl.fzOf,Dl.keyD,Dl.diItems,Dl.dFz,Dl.pinO,Dl.pinS,Dl.dMeth,Dl.dMake,Dl.aNil,Dl.aCons,Dl.atsOf,Dl.inA,Dl.dX,Dl.xVar,Dl.xFld,Dl.dSetF,Dl.fldOf,Dl.putAt,Dl.fewOf,Dl.setO,Dl.upA_a,Dl.startO,Dl.entO,Dl.slA,Dl.outO,Dl.outA_a,Dl.outA_b,List.head?_cons,decide_true,Bool.and_self,and_self,Dl.dSeq,Dl.dNext,Dl.dIfS,Dl.dB,Dl.dOp,Dl.dVar,Dl.dC,Dl.dLst,Dl.dTup,Dl.dNil,Dl.dCons,Dl.dRet,Dl.dCall,Dl.cMax,Dl.cMin,Dl.dDrop,Dl.dSet,Dl.dOwn,Dl.dFrz,Dl.dAnd,Dl.dOr,Dl.dNot,Dl.dIf,Dl.dNever,Dl.rII,Dl.rIC,Dl.rEqD,Dl.rNeD,Dl.rIsN,Dl.rNotN,Dl.gdTup2,Dl.dExt,Dl.cSorted,Dl.cMinL,Dl.dLstRng,Dl.dYes,Dl.dropOw,Dl.gdName,Dl.startD,List.map_cons,List.map_nil,List.length_cons,List.length_nil,List.cons_append,List.nil_append,List.replicate_zero,List.replicate_succ,Nat.reduceAdd,Nat.reduceSub,List.getElem?_cons_zero,List.getElem?_cons_succ,List.set_cons_zero,List.set_cons_succ,Bool.not_true,Bool.not_false,if_true,if_false,reduceCtorEq,Bool.false_eq_true,Dl.rF,Dl.cLenF,Dl.diSeqF,Dl.dTruF,Option.some.injEq,Dl.eqD_int_int,Dl.eqD_str_str,Dl.eqD_tup_tup,Dl.eqD_lst_lst,Dl.eqDL_nil_nil,Dl.eqDL_cons_nil,Dl.eqDL_cons_cons,Dl.isNonD_non,Dl.isNonD_int,Dl.addF_int,Dl.addF_lst,Dl.ixF_tup,Dl.ixF_lst,Dl.seqF_lst,Dl.truF_bl,Dl.truF_lst,exists_eq_left',Dl.atI_0,Dl.atI_1,Dl.atI_2,Dl.atI_3,decide_eq_true_eq,true_and,Bool.true_and,Dl.okEq_int_int,beq_iff_eq,beq_self_eq_true,beq_eq_false_iff_ne,Bool.not_eq_true',ne_eq,ite_not,Dl.sz0,Dl.sz1,Dl.sz2,Dl.sz4]
    exact ⟨okS ok_t ok_t,size,left,o,t,rfl,q⟩
  | ev b f m =>
    simp only [t_next_ring,ckD,q_et,Dl.dSetD,Dl.xDGet,Dl.dDPut,Dl.dDPop,Dl.dDIn,Dl.dctOf,Dl.dctR,Dl.fzOf,Dl.keyD,Dl.diItems,Dl.dFz,Dl.pinO,Dl.pinS,Dl.dMeth,Dl.dMake,Dl.aNil,Dl.aCons,Dl.atsOf,Dl.inA,Dl.dX,Dl.xVar,Dl.xFld,Dl.dSetF,Dl.fldOf,Dl.putAt,Dl.fewOf,Dl.setO,Dl.upA_a,Dl.startO,Dl.entO,Dl.slA,Dl.outO,Dl.outA_a,Dl.outA_b,List.head?_cons,decide_true,Bool.and_self,and_self,Dl.dSeq,Dl.dNext,Dl.dIfS,Dl.dB,Dl.dOp,Dl.dVar,Dl.dC,Dl.dLst,Dl.dTup,Dl.dNil,Dl.dCons,Dl.dRet,Dl.dCall,Dl.cMax,Dl.cMin,Dl.dDrop,Dl.dSet,Dl.dOwn,Dl.dFrz,Dl.dAnd,Dl.dOr,Dl.dNot,Dl.dIf,Dl.dNever,Dl.rII,Dl.rIC,Dl.rEqD,Dl.rNeD,Dl.rIsN,Dl.rNotN,Dl.gdTup2,Dl.dExt,Dl.cSorted,Dl.cMinL,Dl.dLstRng,Dl.dYes,Dl.dropOw,Dl.gdName,Dl.startD,List.map_cons,List.map_nil,List.length_cons,List.length_nil,List.cons_append,List.nil_append,List.replicate_zero,List.replicate_succ,Nat.reduceAdd,Nat.reduceSub,List.getElem?_cons_zero,List.getElem?_cons_succ,List.set_cons_zero,List.set_cons_succ,Bool.not_true,Bool.not_false,if_true,if_false,reduceCtorEq,Bool.false_eq_true,Dl.rF,Dl.cLenF,Dl.diSeqF,Dl.dTruF,Option.some.injEq,Dl.eqD_int_int,Dl.eqD_str_str,Dl.eqD_tup_tup,Dl.eqD_lst_lst,Dl.eqDL_nil_nil,Dl.eqDL_cons_nil,Dl.eqDL_cons_cons,Dl.isNonD_non,Dl.isNonD_int,Dl.addF_int,Dl.addF_lst,Dl.ixF_tup,Dl.ixF_lst,Dl.seqF_lst,Dl.truF_bl,Dl.truF_lst,exists_eq_left',Dl.atI_0,Dl.atI_1,Dl.atI_2,Dl.atI_3,decide_eq_true_eq,true_and,Bool.true_and,Dl.okEq_int_int,beq_iff_eq,beq_self_eq_true,beq_eq_false_iff_ne,Bool.not_eq_true',ne_eq,ite_not,Dl.sz0,Dl.sz1,Dl.sz2,Dl.sz4]
    exact ⟨okS ok_e ok_t,okS ok_e ok_e,b,f,m,t,rfl,ok,q _ (ev_next ok)⟩
  | al mi days still=>exact ok.elim
noncomputable def t_rung_by:TSd:=dSeq (dIfS (dB (dOp rEqD ((dOp (rF ixF) ((dVar 0)) (dC (.int 0)))) (dC (.str "timer")))) (dRet ((dIf (dAnd (dB (dOp rNotN ((dOp (rF ixF) ((dVar 0)) (dC (.int 3)))) (dC .non))) (dB (dOp (rII fun i j=>.bl (decide (i ≤ j))) ((dOp (rF addF) ((dOp (rF ixF) ((dVar 0)) (dC (.int 3)))) ((dOp (rF ixF) ((dVar 0)) (dC (.int 2)))))) ((dVar 1))))) (dC (.int 1)) (dC (.int 0))))) (dNext)) (dSeq (dIfS (dB (dOp rEqD ((dOp (rF ixF) ((dVar 0)) (dC (.int 0)))) (dC (.str "every")))) (dRet ((dCall S_rung_of_every ((dCons ((dVar 0)) ((dCons ((dVar 1)) (dNil)))))))) (dNext)) (dNever))
theorem r_rung_by:∀ ds Q,S_rung_by ds Q→t_rung_by { nx:=fun _=>Q .non,rt:=fun d _=>Q d } (startD ["clock","moment"] ds):=by
  rintro ds Q ⟨c,t,rfl,ok,q⟩
  cases c with
  | tm size left o =>
    have q:=q _ (tm_cnt ok)
    cases o with
    | none =>
      simp only [t_rung_by,ckD,oi_none,oi_some,Dl.dSetD,Dl.xDGet,Dl.dDPut,Dl.dDPop,Dl.dDIn,Dl.dctOf,Dl.dctR,Dl.fzOf,Dl.keyD,Dl.diItems,Dl.dFz,Dl.pinO,Dl.pinS,Dl.dMeth,Dl.dMake,Dl.aNil,Dl.aCons,Dl.atsOf,Dl.inA,Dl.dX,Dl.xVar,Dl.xFld,Dl.dSetF,Dl.fldOf,Dl.putAt,Dl.fewOf,Dl.setO,Dl.upA_a,Dl.startO,Dl.entO,Dl.slA,Dl.outO,Dl.outA_a,Dl.outA_b,List.head?_cons,decide_true,Bool.and_self,and_self,Dl.dSeq,Dl.dNext,Dl.dIfS,Dl.dB,Dl.dOp,Dl.dVar,Dl.dC,Dl.dLst,Dl.dTup,Dl.dNil,Dl.dCons,Dl.dRet,Dl.dCall,Dl.cMax,Dl.cMin,Dl.dDrop,Dl.dSet,Dl.dOwn,Dl.dFrz,Dl.dAnd,Dl.dOr,Dl.dNot,Dl.dIf,Dl.dNever,Dl.rII,Dl.rIC,Dl.rEqD,Dl.rNeD,Dl.rIsN,Dl.rNotN,Dl.gdTup2,Dl.dExt,Dl.cSorted,Dl.cMinL,Dl.dLstRng,Dl.dYes,Dl.dropOw,Dl.gdName,Dl.startD,List.map_cons,List.map_nil,List.length_cons,List.length_nil,List.cons_append,List.nil_append,List.replicate_zero,List.replicate_succ,Nat.reduceAdd,Nat.reduceSub,List.getElem?_cons_zero,List.getElem?_cons_succ,List.set_cons_zero,List.set_cons_succ,Bool.not_true,Bool.not_false,if_true,if_false,reduceCtorEq,Bool.false_eq_true,Dl.rF,Dl.cLenF,Dl.diSeqF,Dl.dTruF,Option.some.injEq,Dl.eqD_int_int,Dl.eqD_str_str,Dl.eqD_tup_tup,Dl.eqD_lst_lst,Dl.eqDL_nil_nil,Dl.eqDL_cons_nil,Dl.eqDL_cons_cons,Dl.isNonD_non,Dl.isNonD_int,Dl.addF_int,Dl.addF_lst,Dl.ixF_tup,Dl.ixF_lst,Dl.seqF_lst,Dl.truF_bl,Dl.truF_lst,exists_eq_left',Dl.atI_0,Dl.atI_1,Dl.atI_2,Dl.atI_3,decide_eq_true_eq,true_and,Bool.true_and,Dl.okEq_int_int,beq_iff_eq,beq_self_eq_true,beq_eq_false_iff_ne,Bool.not_eq_true',ne_eq,ite_not,Dl.sz0,Dl.sz1,Dl.sz2,Dl.sz4]
      exact ⟨okS ok_t ok_t,q⟩
    | some s =>
      simp only [t_rung_by,ckD,oi_none,oi_some,Dl.dSetD,Dl.xDGet,Dl.dDPut,Dl.dDPop,Dl.dDIn,Dl.dctOf,Dl.dctR,Dl.fzOf,Dl.keyD,Dl.diItems,Dl.dFz,Dl.pinO,Dl.pinS,Dl.dMeth,Dl.dMake,Dl.aNil,Dl.aCons,Dl.atsOf,Dl.inA,Dl.dX,Dl.xVar,Dl.xFld,Dl.dSetF,Dl.fldOf,Dl.putAt,Dl.fewOf,Dl.setO,Dl.upA_a,Dl.startO,Dl.entO,Dl.slA,Dl.outO,Dl.outA_a,Dl.outA_b,List.head?_cons,decide_true,Bool.and_self,and_self,Dl.dSeq,Dl.dNext,Dl.dIfS,Dl.dB,Dl.dOp,Dl.dVar,Dl.dC,Dl.dLst,Dl.dTup,Dl.dNil,Dl.dCons,Dl.dRet,Dl.dCall,Dl.cMax,Dl.cMin,Dl.dDrop,Dl.dSet,Dl.dOwn,Dl.dFrz,Dl.dAnd,Dl.dOr,Dl.dNot,Dl.dIf,Dl.dNever,Dl.rII,Dl.rIC,Dl.rEqD,Dl.rNeD,Dl.rIsN,Dl.rNotN,Dl.gdTup2,Dl.dExt,Dl.cSorted,Dl.cMinL,Dl.dLstRng,Dl.dYes,Dl.dropOw,Dl.gdName,Dl.startD,List.map_cons,List.map_nil,List.length_cons,List.length_nil,List.cons_append,List.nil_append,List.replicate_zero,List.replicate_succ,Nat.reduceAdd,Nat.reduceSub,List.getElem?_cons_zero,List.getElem?_cons_succ,List.set_cons_zero,List.set_cons_succ,Bool.not_true,Bool.not_false,if_true,if_false,reduceCtorEq,Bool.false_eq_true,Dl.rF,Dl.cLenF,Dl.diSeqF,Dl.dTruF,Option.some.injEq,Dl.eqD_int_int,Dl.eqD_str_str,Dl.eqD_tup_tup,Dl.eqD_lst_lst,Dl.eqDL_nil_nil,Dl.eqDL_cons_nil,Dl.eqDL_cons_cons,Dl.isNonD_non,Dl.isNonD_int,Dl.addF_int,Dl.addF_lst,Dl.ixF_tup,Dl.ixF_lst,Dl.seqF_lst,Dl.truF_bl,Dl.truF_lst,exists_eq_left',Dl.atI_0,Dl.atI_1,Dl.atI_2,Dl.atI_3,decide_eq_true_eq,true_and,Bool.true_and,Dl.okEq_int_int,beq_iff_eq,beq_self_eq_true,beq_eq_false_iff_ne,Bool.not_eq_true',ne_eq,ite_not,Dl.sz0,Dl.sz1,Dl.sz2,Dl.sz4]
      refine ⟨okS ok_t ok_t,?_⟩
      refine ite2 (fun h=>?_) (fun h=>?_)
      · simp only [if_pos h] at q; exact q
      · simp only [if_neg h] at q; exact q
  | ev b f m =>
    simp only [t_rung_by,ckD,q_et,Dl.dSetD,Dl.xDGet,Dl.dDPut,Dl.dDPop,Dl.dDIn,Dl.dctOf,Dl.dctR,Dl.fzOf,Dl.keyD,Dl.diItems,Dl.dFz,Dl.pinO,Dl.pinS,Dl.dMeth,Dl.dMake,Dl.aNil,Dl.aCons,Dl.atsOf,Dl.inA,Dl.dX,Dl.xVar,Dl.xFld,Dl.dSetF,Dl.fldOf,Dl.putAt,Dl.fewOf,Dl.setO,Dl.upA_a,Dl.startO,Dl.entO,Dl.slA,Dl.outO,Dl.outA_a,Dl.outA_b,List.head?_cons,decide_true,Bool.and_self,and_self,Dl.dSeq,Dl.dNext,Dl.dIfS,Dl.dB,Dl.dOp,Dl.dVar,Dl.dC,Dl.dLst,Dl.dTup,Dl.dNil,Dl.dCons,Dl.dRet,Dl.dCall,Dl.cMax,Dl.cMin,Dl.dDrop,Dl.dSet,Dl.dOwn,Dl.dFrz,Dl.dAnd,Dl.dOr,Dl.dNot,Dl.dIf,Dl.dNever,Dl.rII,Dl.rIC,Dl.rEqD,Dl.rNeD,Dl.rIsN,Dl.rNotN,Dl.gdTup2,Dl.dExt,Dl.cSorted,Dl.cMinL,Dl.dLstRng,Dl.dYes,Dl.dropOw,Dl.gdName,Dl.startD,List.map_cons,List.map_nil,List.length_cons,List.length_nil,List.cons_append,List.nil_append,List.replicate_zero,List.replicate_succ,Nat.reduceAdd,Nat.reduceSub,List.getElem?_cons_zero,List.getElem?_cons_succ,List.set_cons_zero,List.set_cons_succ,Bool.not_true,Bool.not_false,if_true,if_false,reduceCtorEq,Bool.false_eq_true,Dl.rF,Dl.cLenF,Dl.diSeqF,Dl.dTruF,Option.some.injEq,Dl.eqD_int_int,Dl.eqD_str_str,Dl.eqD_tup_tup,Dl.eqD_lst_lst,Dl.eqDL_nil_nil,Dl.eqDL_cons_nil,Dl.eqDL_cons_cons,Dl.isNonD_non,Dl.isNonD_int,Dl.addF_int,Dl.addF_lst,Dl.ixF_tup,Dl.ixF_lst,Dl.seqF_lst,Dl.truF_bl,Dl.truF_lst,exists_eq_left',Dl.atI_0,Dl.atI_1,Dl.atI_2,Dl.atI_3,decide_eq_true_eq,true_and,Bool.true_and,Dl.okEq_int_int,beq_iff_eq,beq_self_eq_true,beq_eq_false_iff_ne,Bool.not_eq_true',ne_eq,ite_not,Dl.sz0,Dl.sz1,Dl.sz2,Dl.sz4]
    exact ⟨okS ok_e ok_t,okS ok_e ok_e,b,f,m,t,rfl,ok,q _ (ev_cnt ok)⟩
  | al mi days still=>exact ok.elim
end Law
namespace Law
open PySem L2 Dl Rg
theorem rings_exist (c:Ck) (a e:Int):∃ l,RingsOf c a e l:=by
  classical
  refine ⟨((List.range (e - a).toNat).map fun i=>a + 1 + ((i:Nat):Int)).filter fun t=>decide (rg c t),rise_filter ?_ _,fun t=>?_⟩
  · unfold Rise
    rw [List.pairwise_map]
    exact List.pairwise_lt_range.imp fun {x y} h=>by omega
  · rw [List.mem_filter,List.mem_map,decide_eq_true_eq]
    constructor
    · rintro ⟨⟨i,hi,rfl⟩,h⟩
      rw [List.mem_range] at hi
      exact ⟨by omega,by omega,h⟩
    · rintro ⟨x,y,z⟩
      exact ⟨⟨(t - a - 1).toNat,by rw [List.mem_range]; omega,by omega⟩,z⟩
theorem rings_len {c:Ck} {a e:Int} {l:List Int} (h:RingsOf c a e l):l.length ≤ (e - a).toNat:=by
  have:=rise_len h.rise (a:=a + 1) (b:=e + 1) fun x hx=>by have:=(h.mem x).mp hx; omega
  omega
noncomputable def S_last_ring:SpD:=fun ds Q=>∃ b f m t,ds = [ckD (.ev b f m),.int t]∧Ok (.ev b f m)∧0 < rungE b f m t∧Q (.int (b + (rungE b f m t - 1) * f))
noncomputable def S_rings:SpD:=fun ds Q=>∃ c a e,ds = [ckD c,.int a,.int e]∧Ok c∧a ≤ 10000000∧e ≤ 10000000∧∀ l,RingsOf c a e l→Q (.lst (iL l))
theorem l_last_ring:∀ ds Q,S_last_ring ds Q→ds.length = 2:=by rintro ds Q ⟨_,_,_,_,rfl,_⟩; rfl
theorem l_rings:∀ ds Q,S_rings ds Q→ds.length = 3:=by rintro ds Q ⟨_,_,_,rfl,_⟩; rfl
noncomputable def t_last_ring:TSd:=dSeq (dIfS (dB (dOp rEqD ((dOp (rF ixF) ((dVar 0)) (dC (.int 0)))) (dC (.str "alarm")))) (dNever) (dNext)) (dSeq (dSet 2 ((dCall S_rung_by ((dCons ((dVar 0)) ((dCons ((dVar 1)) (dNil)))))))) (dSeq (dIfS (dB (dOp rEqD ((dVar 2)) (dC (.int 0)))) (dRet (dC .non)) (dNext)) (dSeq (dIfS (dB (dOp rEqD ((dOp (rF ixF) ((dVar 0)) (dC (.int 0)))) (dC (.str "timer")))) (dRet ((dOp (rF addF) ((dOp (rF ixF) ((dVar 0)) (dC (.int 3)))) ((dOp (rF ixF) ((dVar 0)) (dC (.int 2))))))) (dNext)) (dRet ((dOp (rF addF) ((dOp (rF ixF) ((dVar 0)) (dC (.int 1)))) ((dOp (rIC CMul fun i j=>.int (i * j)) ((dOp (rII fun i j=>.int (i - j)) ((dVar 2)) (dC (.int 1)))) ((dOp (rF ixF) ((dVar 0)) (dC (.int 2))))))))))))
theorem r_last_ring:∀ ds Q,S_last_ring ds Q→t_last_ring { nx:=fun _=>Q .non,rt:=fun d _=>Q d } (startD ["clock","now","rung"] ds):=by
  rintro ds Q ⟨b,f,m,t,rfl,ok,hr,q⟩
  simp only [t_last_ring,ckD,q_ea,q_et,Dl.dSetD,Dl.xDGet,Dl.dDPut,Dl.dDPop,Dl.dDIn,Dl.dctOf,Dl.dctR,Dl.fzOf,Dl.keyD,Dl.diItems,Dl.dFz,Dl.pinO,Dl.pinS,Dl.dMeth,Dl.dMake,Dl.aNil,Dl.aCons,Dl.atsOf,Dl.inA,Dl.dX,Dl.xVar,Dl.xFld,Dl.dSetF,Dl.fldOf,Dl.putAt,Dl.fewOf,Dl.setO,Dl.upA_a,Dl.startO,Dl.entO,Dl.slA,Dl.outO,Dl.outA_a,Dl.outA_b,List.head?_cons,decide_true,Bool.and_self,and_self,Dl.dSeq,Dl.dNext,Dl.dIfS,Dl.dB,Dl.dOp,Dl.dVar,Dl.dC,Dl.dLst,Dl.dTup,Dl.dNil,Dl.dCons,Dl.dRet,Dl.dCall,Dl.cMax,Dl.cMin,Dl.dDrop,Dl.dSet,Dl.dOwn,Dl.dFrz,Dl.dAnd,Dl.dOr,Dl.dNot,Dl.dIf,Dl.dNever,Dl.rII,Dl.rIC,Dl.rEqD,Dl.rNeD,Dl.rIsN,Dl.rNotN,Dl.gdTup2,Dl.dExt,Dl.cSorted,Dl.cMinL,Dl.dLstRng,Dl.dYes,Dl.dropOw,Dl.gdName,Dl.startD,List.map_cons,List.map_nil,List.length_cons,List.length_nil,List.cons_append,List.nil_append,List.replicate_zero,List.replicate_succ,Nat.reduceAdd,Nat.reduceSub,List.getElem?_cons_zero,List.getElem?_cons_succ,List.set_cons_zero,List.set_cons_succ,Bool.not_true,Bool.not_false,if_true,if_false,reduceCtorEq,Bool.false_eq_true,Dl.rF,Dl.cLenF,Dl.diSeqF,Dl.dTruF,Option.some.injEq,Dl.eqD_int_int,Dl.eqD_str_str,Dl.eqD_tup_tup,Dl.eqD_lst_lst,Dl.eqDL_nil_nil,Dl.eqDL_cons_nil,Dl.eqDL_cons_cons,Dl.isNonD_non,Dl.isNonD_int,Dl.addF_int,Dl.addF_lst,Dl.ixF_tup,Dl.ixF_lst,Dl.seqF_lst,Dl.truF_bl,Dl.truF_lst,exists_eq_left',Dl.atI_0,Dl.atI_1,Dl.atI_2,Dl.atI_3,decide_eq_true_eq,true_and,Bool.true_and,Dl.okEq_int_int,beq_iff_eq,beq_self_eq_true,beq_eq_false_iff_ne,Bool.not_eq_true',ne_eq,ite_not,Dl.sz0,Dl.sz1,Dl.sz2,Dl.sz4]
  refine ⟨okS ok_e ok_a,.ev b f m,t,rfl,ok,fun n hn=>?_⟩
  obtain ⟨l0,r0⟩:=rings_exist (.ev b f m) (-1) t
  have en:n = rungE b f m t:=(hn l0 r0).trans (ev_cnt ok l0 r0).symm
  subst en
  simp only [Dl.dSeq,Dl.dSetD,Dl.xDGet,Dl.dDPut,Dl.dDPop,Dl.dDIn,Dl.dctOf,Dl.dctR,Dl.fzOf,Dl.keyD,Dl.diItems,Dl.dFz,Dl.pinO,Dl.pinS,Dl.dMeth,Dl.dMake,Dl.aNil,Dl.aCons,Dl.atsOf,Dl.inA,Dl.dX,Dl.xVar,Dl.xFld,Dl.dSetF,Dl.fldOf,Dl.putAt,Dl.fewOf,Dl.setO,Dl.upA_a,Dl.startO,Dl.entO,Dl.slA,Dl.outO,Dl.outA_a,Dl.outA_b,List.head?_cons,decide_true,Bool.and_self,and_self,Dl.dSeq,Dl.dNext,Dl.dIfS,Dl.dB,Dl.dOp,Dl.dVar,Dl.dC,Dl.dLst,Dl.dTup,Dl.dNil,Dl.dCons,Dl.dRet,Dl.dCall,Dl.cMax,Dl.cMin,Dl.dDrop,Dl.dSet,Dl.dOwn,Dl.dFrz,Dl.dAnd,Dl.dOr,Dl.dNot,Dl.dIf,Dl.dNever,Dl.rII,Dl.rIC,Dl.rEqD,Dl.rNeD,Dl.rIsN,Dl.rNotN,Dl.gdTup2,Dl.dExt,Dl.cSorted,Dl.cMinL,Dl.dLstRng,Dl.dYes,Dl.dropOw,Dl.gdName,Dl.startD,List.map_cons,List.map_nil,List.length_cons,List.length_nil,List.cons_append,List.nil_append,List.replicate_zero,List.replicate_succ,Nat.reduceAdd,Nat.reduceSub,List.getElem?_cons_zero,List.getElem?_cons_succ,List.set_cons_zero,List.set_cons_succ,Bool.not_true,Bool.not_false,if_true,if_false,reduceCtorEq,Bool.false_eq_true,Dl.rF,Dl.cLenF,Dl.diSeqF,Dl.dTruF,Option.some.injEq,Dl.eqD_int_int,Dl.eqD_str_str,Dl.eqD_tup_tup,Dl.eqD_lst_lst,Dl.eqDL_nil_nil,Dl.eqDL_cons_nil,Dl.eqDL_cons_cons,Dl.isNonD_non,Dl.isNonD_int,Dl.addF_int,Dl.addF_lst,Dl.ixF_tup,Dl.ixF_lst,Dl.seqF_lst,Dl.truF_bl,Dl.truF_lst,exists_eq_left',Dl.atI_0,Dl.atI_1,Dl.atI_2,Dl.atI_3,decide_eq_true_eq,true_and,Bool.true_and,Dl.okEq_int_int,beq_iff_eq,beq_self_eq_true,beq_eq_false_iff_ne,Bool.not_eq_true',ne_eq,ite_not,Dl.sz0,Dl.sz1,Dl.sz2,Dl.sz4]
  rw [if_neg (by omega)]
  exact ⟨okS ok_e ok_t,.inr ⟨by have:=ok.2.2.1; omega,by have:=ok.2.2.2.1; omega⟩,q⟩
noncomputable def t_rings:TSd:=dSeq (dSet 3 ((dCall S_next_ring ((dCons ((dVar 0)) ((dCons ((dVar 1)) (dNil)))))))) (dSeq (dIfS (dOr (dB (dOp rIsN ((dVar 3)) (dC .non))) (dB (dOp (rII fun i j=>.bl (decide (j < i))) ((dVar 3)) ((dVar 2))))) (dRet ((dLst (dNil)))) (dNext)) (dSeq (dIfS (dB (dOp rEqD ((dOp (rF ixF) ((dVar 0)) (dC (.int 0)))) (dC (.str "timer")))) (dRet ((dLst ((dCons ((dVar 3)) (dNil)))))) (dNext)) (dSeq (dIfS (dB (dOp rEqD ((dOp (rF ixF) ((dVar 0)) (dC (.int 0)))) (dC (.str "every")))) (dRet ((dLstRng ((dCons ((dVar 3)) ((dCons ((dOp (rF addF) ((dCall S_last_ring ((dCons ((dVar 0)) ((dCons ((dVar 2)) (dNil))))))) (dC (.int 1)))) ((dCons ((dOp (rF ixF) ((dVar 0)) (dC (.int 2)))) (dNil)))))))))) (dNext)) (dNever))))
theorem step_list {b f i:Int} {n:Nat}:stepL (b + i * f) f n = listE b f i n:=by
  unfold stepL listE
  refine List.map_congr_left fun j _=>?_
  rw [Int.add_mul]; omega
theorem r_rings:∀ ds Q,S_rings ds Q→t_rings { nx:=fun _=>Q .non,rt:=fun d _=>Q d } (startD ["clock","start","end","first"] ds):=by
  rintro ds Q ⟨c,a,e,rfl,ok,ha,he,q⟩
  simp only [t_rings,Dl.dSetD,Dl.xDGet,Dl.dDPut,Dl.dDPop,Dl.dDIn,Dl.dctOf,Dl.dctR,Dl.fzOf,Dl.keyD,Dl.diItems,Dl.dFz,Dl.pinO,Dl.pinS,Dl.dMeth,Dl.dMake,Dl.aNil,Dl.aCons,Dl.atsOf,Dl.inA,Dl.dX,Dl.xVar,Dl.xFld,Dl.dSetF,Dl.fldOf,Dl.putAt,Dl.fewOf,Dl.setO,Dl.upA_a,Dl.startO,Dl.entO,Dl.slA,Dl.outO,Dl.outA_a,Dl.outA_b,List.head?_cons,decide_true,Bool.and_self,and_self,Dl.dSeq,Dl.dNext,Dl.dIfS,Dl.dB,Dl.dOp,Dl.dVar,Dl.dC,Dl.dLst,Dl.dTup,Dl.dNil,Dl.dCons,Dl.dRet,Dl.dCall,Dl.cMax,Dl.cMin,Dl.dDrop,Dl.dSet,Dl.dOwn,Dl.dFrz,Dl.dAnd,Dl.dOr,Dl.dNot,Dl.dIf,Dl.dNever,Dl.rII,Dl.rIC,Dl.rEqD,Dl.rNeD,Dl.rIsN,Dl.rNotN,Dl.gdTup2,Dl.dExt,Dl.cSorted,Dl.cMinL,Dl.dLstRng,Dl.dYes,Dl.dropOw,Dl.gdName,Dl.startD,List.map_cons,List.map_nil,List.length_cons,List.length_nil,List.cons_append,List.nil_append,List.replicate_zero,List.replicate_succ,Nat.reduceAdd,Nat.reduceSub,List.getElem?_cons_zero,List.getElem?_cons_succ,List.set_cons_zero,List.set_cons_succ,Bool.not_true,Bool.not_false,if_true,if_false,reduceCtorEq,Bool.false_eq_true,Dl.rF,Dl.cLenF,Dl.diSeqF,Dl.dTruF,Option.some.injEq,Dl.eqD_int_int,Dl.eqD_str_str,Dl.eqD_tup_tup,Dl.eqD_lst_lst,Dl.eqDL_nil_nil,Dl.eqDL_cons_nil,Dl.eqDL_cons_cons,Dl.isNonD_non,Dl.isNonD_int,Dl.addF_int,Dl.addF_lst,Dl.ixF_tup,Dl.ixF_lst,Dl.seqF_lst,Dl.truF_bl,Dl.truF_lst,exists_eq_left',Dl.atI_0,Dl.atI_1,Dl.atI_2,Dl.atI_3,decide_eq_true_eq,true_and,Bool.true_and,Dl.okEq_int_int,beq_iff_eq,beq_self_eq_true,beq_eq_false_iff_ne,Bool.not_eq_true',ne_eq,ite_not,Dl.sz0,Dl.sz1,Dl.sz2,Dl.sz4]
  refine ⟨c,a,rfl,ok,by omega,fun r nx=>?_⟩
  cases r with
  | none =>
    simp only [oi_none,oi_some,Dl.dSetD,Dl.xDGet,Dl.dDPut,Dl.dDPop,Dl.dDIn,Dl.dctOf,Dl.dctR,Dl.fzOf,Dl.keyD,Dl.diItems,Dl.dFz,Dl.pinO,Dl.pinS,Dl.dMeth,Dl.dMake,Dl.aNil,Dl.aCons,Dl.atsOf,Dl.inA,Dl.dX,Dl.xVar,Dl.xFld,Dl.dSetF,Dl.fldOf,Dl.putAt,Dl.fewOf,Dl.setO,Dl.upA_a,Dl.startO,Dl.entO,Dl.slA,Dl.outO,Dl.outA_a,Dl.outA_b,List.head?_cons,decide_true,Bool.and_self,and_self,Dl.dSeq,Dl.dNext,Dl.dIfS,Dl.dB,Dl.dOp,Dl.dVar,Dl.dC,Dl.dLst,Dl.dTup,Dl.dNil,Dl.dCons,Dl.dRet,Dl.dCall,Dl.cMax,Dl.cMin,Dl.dDrop,Dl.dSet,Dl.dOwn,Dl.dFrz,Dl.dAnd,Dl.dOr,Dl.dNot,Dl.dIf,Dl.dNever,Dl.rII,Dl.rIC,Dl.rEqD,Dl.rNeD,Dl.rIsN,Dl.rNotN,Dl.gdTup2,Dl.dExt,Dl.cSorted,Dl.cMinL,Dl.dLstRng,Dl.dYes,Dl.dropOw,Dl.gdName,Dl.startD,List.map_cons,List.map_nil,List.length_cons,List.length_nil,List.cons_append,List.nil_append,List.replicate_zero,List.replicate_succ,Nat.reduceAdd,Nat.reduceSub,List.getElem?_cons_zero,List.getElem?_cons_succ,List.set_cons_zero,List.set_cons_succ,Bool.not_true,Bool.not_false,if_true,if_false,reduceCtorEq,Bool.false_eq_true,Dl.rF,Dl.cLenF,Dl.diSeqF,Dl.dTruF,Option.some.injEq,Dl.eqD_int_int,Dl.eqD_str_str,Dl.eqD_tup_tup,Dl.eqD_lst_lst,Dl.eqDL_nil_nil,Dl.eqDL_cons_nil,Dl.eqDL_cons_cons,Dl.isNonD_non,Dl.isNonD_int,Dl.addF_int,Dl.addF_lst,Dl.ixF_tup,Dl.ixF_lst,Dl.seqF_lst,Dl.truF_bl,Dl.truF_lst,exists_eq_left',Dl.atI_0,Dl.atI_1,Dl.atI_2,Dl.atI_3,decide_eq_true_eq,true_and,Bool.true_and,Dl.okEq_int_int,beq_iff_eq,beq_self_eq_true,beq_eq_false_iff_ne,Bool.not_eq_true',ne_eq,ite_not,Dl.sz0,Dl.sz1,Dl.sz2,Dl.sz4]
    exact q [] (nx.nothing fun t e=>nomatch e)
  | some u =>
    obtain ⟨u1,u2,u3⟩:=nx.some u rfl
    simp only [oi_none,oi_some,Dl.dSetD,Dl.xDGet,Dl.dDPut,Dl.dDPop,Dl.dDIn,Dl.dctOf,Dl.dctR,Dl.fzOf,Dl.keyD,Dl.diItems,Dl.dFz,Dl.pinO,Dl.pinS,Dl.dMeth,Dl.dMake,Dl.aNil,Dl.aCons,Dl.atsOf,Dl.inA,Dl.dX,Dl.xVar,Dl.xFld,Dl.dSetF,Dl.fldOf,Dl.putAt,Dl.fewOf,Dl.setO,Dl.upA_a,Dl.startO,Dl.entO,Dl.slA,Dl.outO,Dl.outA_a,Dl.outA_b,List.head?_cons,decide_true,Bool.and_self,and_self,Dl.dSeq,Dl.dNext,Dl.dIfS,Dl.dB,Dl.dOp,Dl.dVar,Dl.dC,Dl.dLst,Dl.dTup,Dl.dNil,Dl.dCons,Dl.dRet,Dl.dCall,Dl.cMax,Dl.cMin,Dl.dDrop,Dl.dSet,Dl.dOwn,Dl.dFrz,Dl.dAnd,Dl.dOr,Dl.dNot,Dl.dIf,Dl.dNever,Dl.rII,Dl.rIC,Dl.rEqD,Dl.rNeD,Dl.rIsN,Dl.rNotN,Dl.gdTup2,Dl.dExt,Dl.cSorted,Dl.cMinL,Dl.dLstRng,Dl.dYes,Dl.dropOw,Dl.gdName,Dl.startD,List.map_cons,List.map_nil,List.length_cons,List.length_nil,List.cons_append,List.nil_append,List.replicate_zero,List.replicate_succ,Nat.reduceAdd,Nat.reduceSub,List.getElem?_cons_zero,List.getElem?_cons_succ,List.set_cons_zero,List.set_cons_succ,Bool.not_true,Bool.not_false,if_true,if_false,reduceCtorEq,Bool.false_eq_true,Dl.rF,Dl.cLenF,Dl.diSeqF,Dl.dTruF,Option.some.injEq,Dl.eqD_int_int,Dl.eqD_str_str,Dl.eqD_tup_tup,Dl.eqD_lst_lst,Dl.eqDL_nil_nil,Dl.eqDL_cons_nil,Dl.eqDL_cons_cons,Dl.isNonD_non,Dl.isNonD_int,Dl.addF_int,Dl.addF_lst,Dl.ixF_tup,Dl.ixF_lst,Dl.seqF_lst,Dl.truF_bl,Dl.truF_lst,exists_eq_left',Dl.atI_0,Dl.atI_1,Dl.atI_2,Dl.atI_3,decide_eq_true_eq,true_and,Bool.true_and,Dl.okEq_int_int,beq_iff_eq,beq_self_eq_true,beq_eq_false_iff_ne,Bool.not_eq_true',ne_eq,ite_not,Dl.sz0,Dl.sz1,Dl.sz2,Dl.sz4]
    refine ite2 (fun h=>q [] (nx.nothing fun t z=>by cases z; exact h)) (fun h=>?_)
    cases c with
    | tm size left o =>
      simp only [ckD,Dl.dSetD,Dl.xDGet,Dl.dDPut,Dl.dDPop,Dl.dDIn,Dl.dctOf,Dl.dctR,Dl.fzOf,Dl.keyD,Dl.diItems,Dl.dFz,Dl.pinO,Dl.pinS,Dl.dMeth,Dl.dMake,Dl.aNil,Dl.aCons,Dl.atsOf,Dl.inA,Dl.dX,Dl.xVar,Dl.xFld,Dl.dSetF,Dl.fldOf,Dl.putAt,Dl.fewOf,Dl.setO,Dl.upA_a,Dl.startO,Dl.entO,Dl.slA,Dl.outO,Dl.outA_a,Dl.outA_b,List.head?_cons,decide_true,Bool.and_self,and_self,Dl.dSeq,Dl.dNext,Dl.dIfS,Dl.dB,Dl.dOp,Dl.dVar,Dl.dC,Dl.dLst,Dl.dTup,Dl.dNil,Dl.dCons,Dl.dRet,Dl.dCall,Dl.cMax,Dl.cMin,Dl.dDrop,Dl.dSet,Dl.dOwn,Dl.dFrz,Dl.dAnd,Dl.dOr,Dl.dNot,Dl.dIf,Dl.dNever,Dl.rII,Dl.rIC,Dl.rEqD,Dl.rNeD,Dl.rIsN,Dl.rNotN,Dl.gdTup2,Dl.dExt,Dl.cSorted,Dl.cMinL,Dl.dLstRng,Dl.dYes,Dl.dropOw,Dl.gdName,Dl.startD,List.map_cons,List.map_nil,List.length_cons,List.length_nil,List.cons_append,List.nil_append,List.replicate_zero,List.replicate_succ,Nat.reduceAdd,Nat.reduceSub,List.getElem?_cons_zero,List.getElem?_cons_succ,List.set_cons_zero,List.set_cons_succ,Bool.not_true,Bool.not_false,if_true,if_false,reduceCtorEq,Bool.false_eq_true,Dl.rF,Dl.cLenF,Dl.diSeqF,Dl.dTruF,Option.some.injEq,Dl.eqD_int_int,Dl.eqD_str_str,Dl.eqD_tup_tup,Dl.eqD_lst_lst,Dl.eqDL_nil_nil,Dl.eqDL_cons_nil,Dl.eqDL_cons_cons,Dl.isNonD_non,Dl.isNonD_int,Dl.addF_int,Dl.addF_lst,Dl.ixF_tup,Dl.ixF_lst,Dl.seqF_lst,Dl.truF_bl,Dl.truF_lst,exists_eq_left',Dl.atI_0,Dl.atI_1,Dl.atI_2,Dl.atI_3,decide_eq_true_eq,true_and,Bool.true_and,Dl.okEq_int_int,beq_iff_eq,beq_self_eq_true,beq_eq_false_iff_ne,Bool.not_eq_true',ne_eq,ite_not,Dl.sz0,Dl.sz1,Dl.sz2,Dl.sz4]
      refine ⟨okS ok_t ok_t,q [u] (nx.rings ⟨.nil,fun t=>⟨fun z=>absurd z (by simp),fun zz101=>zz101.elim fun t1 zz=>zz.elim fun t2 t3=>?_⟩⟩ (by omega))⟩
      obtain ⟨s,e1,e2⟩:=u2
      obtain ⟨s',e3,e4⟩:=t3
      rw [e1] at e3; cases e3
      omega
    | ev b f m =>
      have nx2:=nx.unique (ev_next ok)
      obtain ⟨o1,o2,o3,o4,o5⟩:=id ok
      have hf:0 < f:=by omega
      have hne:¬ m = some (rungE b f m a):=fun z=>by rw [if_pos z] at nx2; cases nx2
      rw [if_neg hne] at nx2
      cases nx2
      have na:=rungE_nn (b:=b) (f:=f) (m:=m) (t:=a) fun k e=>(o5 k e).1
      obtain ⟨i,i0,ie,ib⟩:=u2
      have hlt:rungE b f m a < rungE b f m e:=by
        have h2:i < rungE b f m e:=(rungE_iff hf i0).mpr ⟨by omega,ib⟩
        have h3:rungE b f m a ≤ i:=by
          by_cases z:i < rungE b f m a
          · have:=(rungE_iff (t:=a) hf i0).mp z; omega
          · omega
        omega
      have hle:=(rungE_iff (b:=b) (m:=m) (t:=e) hf (show 0 ≤ rungE b f m e - 1 by omega)).mp (by omega)
      have hmul:rungE b f m a * f ≤ (rungE b f m e - 1) * f:=Int.mul_le_mul_of_nonneg_right (by omega) (by omega)
      have hpos:0 ≤ rungE b f m a * f:=Int.mul_nonneg na (by omega)
      simp only [ckD,q_et,Dl.dSetD,Dl.xDGet,Dl.dDPut,Dl.dDPop,Dl.dDIn,Dl.dctOf,Dl.dctR,Dl.fzOf,Dl.keyD,Dl.diItems,Dl.dFz,Dl.pinO,Dl.pinS,Dl.dMeth,Dl.dMake,Dl.aNil,Dl.aCons,Dl.atsOf,Dl.inA,Dl.dX,Dl.xVar,Dl.xFld,Dl.dSetF,Dl.fldOf,Dl.putAt,Dl.fewOf,Dl.setO,Dl.upA_a,Dl.startO,Dl.entO,Dl.slA,Dl.outO,Dl.outA_a,Dl.outA_b,List.head?_cons,decide_true,Bool.and_self,and_self,Dl.dSeq,Dl.dNext,Dl.dIfS,Dl.dB,Dl.dOp,Dl.dVar,Dl.dC,Dl.dLst,Dl.dTup,Dl.dNil,Dl.dCons,Dl.dRet,Dl.dCall,Dl.cMax,Dl.cMin,Dl.dDrop,Dl.dSet,Dl.dOwn,Dl.dFrz,Dl.dAnd,Dl.dOr,Dl.dNot,Dl.dIf,Dl.dNever,Dl.rII,Dl.rIC,Dl.rEqD,Dl.rNeD,Dl.rIsN,Dl.rNotN,Dl.gdTup2,Dl.dExt,Dl.cSorted,Dl.cMinL,Dl.dLstRng,Dl.dYes,Dl.dropOw,Dl.gdName,Dl.startD,List.map_cons,List.map_nil,List.length_cons,List.length_nil,List.cons_append,List.nil_append,List.replicate_zero,List.replicate_succ,Nat.reduceAdd,Nat.reduceSub,List.getElem?_cons_zero,List.getElem?_cons_succ,List.set_cons_zero,List.set_cons_succ,Bool.not_true,Bool.not_false,if_true,if_false,reduceCtorEq,Bool.false_eq_true,Dl.rF,Dl.cLenF,Dl.diSeqF,Dl.dTruF,Option.some.injEq,Dl.eqD_int_int,Dl.eqD_str_str,Dl.eqD_tup_tup,Dl.eqD_lst_lst,Dl.eqDL_nil_nil,Dl.eqDL_cons_nil,Dl.eqDL_cons_cons,Dl.isNonD_non,Dl.isNonD_int,Dl.addF_int,Dl.addF_lst,Dl.ixF_tup,Dl.ixF_lst,Dl.seqF_lst,Dl.truF_bl,Dl.truF_lst,exists_eq_left',Dl.atI_0,Dl.atI_1,Dl.atI_2,Dl.atI_3,decide_eq_true_eq,true_and,Bool.true_and,Dl.okEq_int_int,beq_iff_eq,beq_self_eq_true,beq_eq_false_iff_ne,Bool.not_eq_true',ne_eq,ite_not,Dl.sz0,Dl.sz1,Dl.sz2,Dl.sz4]
      refine ⟨okS ok_e ok_t,okS ok_e ok_e,b,f,m,e,rfl,ok,by omega,?_⟩
      simp only [Dl.dSeq,Dl.dSetD,Dl.xDGet,Dl.dDPut,Dl.dDPop,Dl.dDIn,Dl.dctOf,Dl.dctR,Dl.fzOf,Dl.keyD,Dl.diItems,Dl.dFz,Dl.pinO,Dl.pinS,Dl.dMeth,Dl.dMake,Dl.aNil,Dl.aCons,Dl.atsOf,Dl.inA,Dl.dX,Dl.xVar,Dl.xFld,Dl.dSetF,Dl.fldOf,Dl.putAt,Dl.fewOf,Dl.setO,Dl.upA_a,Dl.startO,Dl.entO,Dl.slA,Dl.outO,Dl.outA_a,Dl.outA_b,List.head?_cons,decide_true,Bool.and_self,and_self,Dl.dSeq,Dl.dNext,Dl.dIfS,Dl.dB,Dl.dOp,Dl.dVar,Dl.dC,Dl.dLst,Dl.dTup,Dl.dNil,Dl.dCons,Dl.dRet,Dl.dCall,Dl.cMax,Dl.cMin,Dl.dDrop,Dl.dSet,Dl.dOwn,Dl.dFrz,Dl.dAnd,Dl.dOr,Dl.dNot,Dl.dIf,Dl.dNever,Dl.rII,Dl.rIC,Dl.rEqD,Dl.rNeD,Dl.rIsN,Dl.rNotN,Dl.gdTup2,Dl.dExt,Dl.cSorted,Dl.cMinL,Dl.dLstRng,Dl.dYes,Dl.dropOw,Dl.gdName,Dl.startD,List.map_cons,List.map_nil,List.length_cons,List.length_nil,List.cons_append,List.nil_append,List.replicate_zero,List.replicate_succ,Nat.reduceAdd,Nat.reduceSub,List.getElem?_cons_zero,List.getElem?_cons_succ,List.set_cons_zero,List.set_cons_succ,Bool.not_true,Bool.not_false,if_true,if_false,reduceCtorEq,Bool.false_eq_true,Dl.rF,Dl.cLenF,Dl.diSeqF,Dl.dTruF,Option.some.injEq,Dl.eqD_int_int,Dl.eqD_str_str,Dl.eqD_tup_tup,Dl.eqD_lst_lst,Dl.eqDL_nil_nil,Dl.eqDL_cons_nil,Dl.eqDL_cons_cons,Dl.isNonD_non,Dl.isNonD_int,Dl.addF_int,Dl.addF_lst,Dl.ixF_tup,Dl.ixF_lst,Dl.seqF_lst,Dl.truF_bl,Dl.truF_lst,exists_eq_left',Dl.atI_0,Dl.atI_1,Dl.atI_2,Dl.atI_3,decide_eq_true_eq,true_and,Bool.true_and,Dl.okEq_int_int,beq_iff_eq,beq_self_eq_true,beq_eq_false_iff_ne,Bool.not_eq_true',ne_eq,ite_not,Dl.sz0,Dl.sz1,Dl.sz2,Dl.sz4]
      have cnt:rngN (b + rungE b f m a * f) (b + (rungE b f m e - 1) * f + 1) f = (rungE b f m e - rungE b f m a).toNat:=by
        unfold rngN
        rw [if_pos (by omega)]
        have:b + (rungE b f m e - 1) * f + 1 - (b + rungE b f m a * f) - 1 = (rungE b f m e - 1 - rungE b f m a) * f:=by rw [Int.sub_mul (rungE b f m e - 1)]; omega
        rw [this,Int.mul_ediv_cancel _ (by omega)]
        congr 1; omega
      have small:(rungE b f m e - rungE b f m a).toNat ≤ 2 ^ 24:=by
        have h4:(rungE b f m e - 1) * 1 ≤ (rungE b f m e - 1) * f:=Int.mul_le_mul_of_nonneg_left o3 (by omega)
        have:rungE b f m e - 1 ≤ 10000000:=by omega
        have:(2:Nat) ^ 24 = 16777216:=by decide
        omega
      refine ⟨hf,by omega,by omega,by omega,by omega,by omega,by rw [cnt]; exact small,?_⟩
      rw [cnt,step_list]
      exact q _ (ev_rings ok)
    | al mi days still=>exact ok.elim
end Law
namespace Law
open PySem L2 Dl
theorem dComp_by (items:List D) (δ1:Ev) (F:D→Option D) {k:Nat} {ti:TId} {g:TGd} {tt:TTd} {te:TEd} {δ:Ev} {Q:D→Ev→Prop} (h0:∀ Q:List D→Ev→Prop,Q items δ1→ti δ Q)
    (hF:∀ d ∈ items,g d (dropOw δ1 ++ List.replicate k .no) fun δ2=>tt δ2 fun b δ3=>if b = true then te δ3 fun y _=>F d = some y else F d = none)
    (hl:(items.filterMap F).length ≤ sizeLine) (q:Q (.lst (items.filterMap F)) δ1):dComp k ti g tt te δ Q:=h0 _ ⟨F,hF,hl,q⟩
theorem dComp_at (items:List D) (F:D→Option D) {k:Nat} {ti:TId} {g:TGd} {tt:TTd} {te:TEd} {δ:Ev} {Q:D→Ev→Prop} (h0:∀ Q:List D→Ev→Prop,Q items δ→ti δ Q)
    (hF:∀ d ∈ items,g d (dropOw δ ++ List.replicate k .no) fun δ2=>tt δ2 fun b δ3=>if b = true then te δ3 fun y _=>F d = some y else F d = none)
    (hl:(items.filterMap F).length ≤ sizeLine) (q:Q (.lst (items.filterMap F)) δ):dComp k ti g tt te δ Q:=h0 _ ⟨F,hF,hl,q⟩
theorem eqDL_ints:∀ {l m:List Int},eqDL (l.map D.int) (m.map D.int) = decide (l = m)
  | [],[]=>rfl
  | [],_ :: _=>rfl
  | _ :: _,[]=>rfl
  | x :: l,y :: m=>by
    show (x == y && eqDL (l.map D.int) (m.map D.int)) = _
    rw [eqDL_ints]
    by_cases h:x = y
    · subst h; simp
    · have:(x == y) = false:=by simpa using h
      simp [this,h]
theorem ok_lstI {l m:List Int}:okEq (.lst (l.map D.int)) (.lst (m.map D.int)):=⟨okL_ints l,okL_ints m,by show min (D.depL _ + 1) (D.depL _ + 1) ≤ 60; rw [depL_ints,depL_ints]; decide⟩
end Law
namespace Law
open PySem L2 Dl
noncomputable abbrev tm (size left:Int) (o:Option Int):D:=.tup [.str "timer",.int size,.int left,oi o]
noncomputable def okAt (o:Option Int) (now:Int):Prop:=∀ s,o = some s→s ≤ now
noncomputable def leftAt (left:Int) (o:Option Int) (now:Int):Int:=match o with
  | none=>left
  | some s=>max 0 (left - (now - s))
theorem okAt_none {t:Int}:okAt none t:=fun s e=>nomatch e
theorem okAt_some {s t:Int} (h:s ≤ t):okAt (some s) t:=fun s' e=>by cases e; exact h
noncomputable def S_timer:SpD:=fun ds Q=>∃ size,ds = [.int size]∧Q (tm size size none)
noncomputable def S_refuse_early:SpD:=fun ds Q=>∃ o now,ds = [oi o,.int now]∧okAt o now∧Q .non
noncomputable def S_left_at:SpD:=fun ds Q=>∃ size left o now,ds = [tm size left o,.int now]∧okAt o now∧Q (.int (leftAt left o now))
noncomputable def S_begun:SpD:=fun ds Q=>∃ size left o now,ds = [tm size left o,.int now]∧okAt o now∧Q (tm size left (some (o.getD now)))
noncomputable def S_stopped:SpD:=fun ds Q=>∃ size left o now,ds = [tm size left o,.int now]∧okAt o now∧Q (tm size (leftAt left o now) none)
noncomputable def S_now_if_running:SpD:=fun ds Q=>∃ size left o now,ds = [tm size left o,.int now]∧Q (oi (o.map fun _=>now))
noncomputable def S_anew:SpD:=fun ds Q=>∃ size left o now,ds = [tm size left o,.int now]∧okAt o now∧Q (tm size size (o.map fun _=>now))
noncomputable def S_longer:SpD:=fun ds Q=>∃ size left o more now,ds = [tm size left o,.int more,.int now]∧okAt o now∧Q (tm size (max 0 (leftAt left o now + more)) (o.map fun _=>now))
theorem l_timer:∀ ds Q,S_timer ds Q→ds.length = 1:=by rintro ds Q ⟨_,rfl,_⟩; rfl
theorem l_refuse_early:∀ ds Q,S_refuse_early ds Q→ds.length = 2:=by rintro ds Q ⟨_,_,rfl,_⟩; rfl
theorem l_left_at:∀ ds Q,S_left_at ds Q→ds.length = 2:=by rintro ds Q ⟨_,_,_,_,rfl,_⟩; rfl
theorem l_begun:∀ ds Q,S_begun ds Q→ds.length = 2:=by rintro ds Q ⟨_,_,_,_,rfl,_⟩; rfl
theorem l_stopped:∀ ds Q,S_stopped ds Q→ds.length = 2:=by rintro ds Q ⟨_,_,_,_,rfl,_⟩; rfl
theorem l_now_if_running:∀ ds Q,S_now_if_running ds Q→ds.length = 2:=by rintro ds Q ⟨_,_,_,_,rfl,_⟩; rfl
theorem l_anew:∀ ds Q,S_anew ds Q→ds.length = 2:=by rintro ds Q ⟨_,_,_,_,rfl,_⟩; rfl
theorem l_longer:∀ ds Q,S_longer ds Q→ds.length = 3:=by rintro ds Q ⟨_,_,_,_,_,rfl,_⟩; rfl
noncomputable def t_timer:TSd:=dRet ((dTup ((dCons (dC (.str "timer")) ((dCons ((dVar 0)) ((dCons ((dVar 0)) ((dCons (dC .non) (dNil)))))))))))
theorem r_timer:∀ ds Q,S_timer ds Q→t_timer { nx:=fun _=>Q .non,rt:=fun d _=>Q d } (startD ["size"] ds):=by
  rintro ds Q ⟨size,rfl,q⟩
  simp only [t_timer,Dl.dSetD,Dl.xDGet,Dl.dDPut,Dl.dDPop,Dl.dDIn,Dl.dctOf,Dl.dctR,Dl.fzOf,Dl.keyD,Dl.diItems,Dl.dFz,Dl.pinO,Dl.pinS,Dl.dMeth,Dl.dMake,Dl.aNil,Dl.aCons,Dl.atsOf,Dl.inA,Dl.dX,Dl.xVar,Dl.xFld,Dl.dSetF,Dl.fldOf,Dl.putAt,Dl.fewOf,Dl.setO,Dl.upA_a,Dl.startO,Dl.entO,Dl.slA,Dl.outO,Dl.outA_a,Dl.outA_b,List.head?_cons,decide_true,Bool.and_self,and_self,Dl.dSeq,Dl.dNext,Dl.dIfS,Dl.dB,Dl.dOp,Dl.dVar,Dl.dC,Dl.dLst,Dl.dTup,Dl.dNil,Dl.dCons,Dl.dRet,Dl.dCall,Dl.cMax,Dl.cMin,Dl.dDrop,Dl.dSet,Dl.dOwn,Dl.dFrz,Dl.dAnd,Dl.dOr,Dl.dNot,Dl.dIf,Dl.dNever,Dl.rII,Dl.rIC,Dl.rEqD,Dl.rNeD,Dl.rIsN,Dl.rNotN,Dl.gdTup2,Dl.dExt,Dl.cSorted,Dl.cMinL,Dl.dLstRng,Dl.dYes,Dl.dropOw,Dl.gdName,Dl.startD,List.map_cons,List.map_nil,List.length_cons,List.length_nil,List.cons_append,List.nil_append,List.replicate_zero,List.replicate_succ,Nat.reduceAdd,Nat.reduceSub,List.getElem?_cons_zero,List.getElem?_cons_succ,List.set_cons_zero,List.set_cons_succ,Bool.not_true,Bool.not_false,if_true,if_false,reduceCtorEq,Bool.false_eq_true,Dl.rF,Dl.cLenF,Dl.diSeqF,Dl.dTruF,Option.some.injEq,Dl.eqD_int_int,Dl.eqD_str_str,Dl.eqD_tup_tup,Dl.eqD_lst_lst,Dl.eqDL_nil_nil,Dl.eqDL_cons_nil,Dl.eqDL_cons_cons,Dl.isNonD_non,Dl.isNonD_int,Dl.addF_int,Dl.addF_lst,Dl.ixF_tup,Dl.ixF_lst,Dl.seqF_lst,Dl.truF_bl,Dl.truF_lst,exists_eq_left',Dl.atI_0,Dl.atI_1,Dl.atI_2,Dl.atI_3,decide_eq_true_eq,true_and,Bool.true_and,Dl.okEq_int_int,beq_iff_eq,beq_self_eq_true,beq_eq_false_iff_ne,Bool.not_eq_true',ne_eq,ite_not,Dl.sz0,Dl.sz1,Dl.sz2,Dl.sz4]
  exact q
noncomputable def t_refuse_early:TSd:=dIfS (dAnd (dB (dOp rNotN ((dVar 0)) (dC .non))) (dB (dOp (rII fun i j=>.bl (decide (i < j))) ((dVar 1)) ((dVar 0))))) (dNever) (dNext)
theorem r_refuse_early:∀ ds Q,S_refuse_early ds Q→t_refuse_early { nx:=fun _=>Q .non,rt:=fun d _=>Q d } (startD ["earlier","now"] ds):=by
  rintro ds Q ⟨o,now,rfl,h,q⟩
  cases o with
  | none=>simp only [t_refuse_early,oi_none,oi_some,Dl.dSetD,Dl.xDGet,Dl.dDPut,Dl.dDPop,Dl.dDIn,Dl.dctOf,Dl.dctR,Dl.fzOf,Dl.keyD,Dl.diItems,Dl.dFz,Dl.pinO,Dl.pinS,Dl.dMeth,Dl.dMake,Dl.aNil,Dl.aCons,Dl.atsOf,Dl.inA,Dl.dX,Dl.xVar,Dl.xFld,Dl.dSetF,Dl.fldOf,Dl.putAt,Dl.fewOf,Dl.setO,Dl.upA_a,Dl.startO,Dl.entO,Dl.slA,Dl.outO,Dl.outA_a,Dl.outA_b,List.head?_cons,decide_true,Bool.and_self,and_self,Dl.dSeq,Dl.dNext,Dl.dIfS,Dl.dB,Dl.dOp,Dl.dVar,Dl.dC,Dl.dLst,Dl.dTup,Dl.dNil,Dl.dCons,Dl.dRet,Dl.dCall,Dl.cMax,Dl.cMin,Dl.dDrop,Dl.dSet,Dl.dOwn,Dl.dFrz,Dl.dAnd,Dl.dOr,Dl.dNot,Dl.dIf,Dl.dNever,Dl.rII,Dl.rIC,Dl.rEqD,Dl.rNeD,Dl.rIsN,Dl.rNotN,Dl.gdTup2,Dl.dExt,Dl.cSorted,Dl.cMinL,Dl.dLstRng,Dl.dYes,Dl.dropOw,Dl.gdName,Dl.startD,List.map_cons,List.map_nil,List.length_cons,List.length_nil,List.cons_append,List.nil_append,List.replicate_zero,List.replicate_succ,Nat.reduceAdd,Nat.reduceSub,List.getElem?_cons_zero,List.getElem?_cons_succ,List.set_cons_zero,List.set_cons_succ,Bool.not_true,Bool.not_false,if_true,if_false,reduceCtorEq,Bool.false_eq_true,Dl.rF,Dl.cLenF,Dl.diSeqF,Dl.dTruF,Option.some.injEq,Dl.eqD_int_int,Dl.eqD_str_str,Dl.eqD_tup_tup,Dl.eqD_lst_lst,Dl.eqDL_nil_nil,Dl.eqDL_cons_nil,Dl.eqDL_cons_cons,Dl.isNonD_non,Dl.isNonD_int,Dl.addF_int,Dl.addF_lst,Dl.ixF_tup,Dl.ixF_lst,Dl.seqF_lst,Dl.truF_bl,Dl.truF_lst,exists_eq_left',Dl.atI_0,Dl.atI_1,Dl.atI_2,Dl.atI_3,decide_eq_true_eq,true_and,Bool.true_and,Dl.okEq_int_int,beq_iff_eq,beq_self_eq_true,beq_eq_false_iff_ne,Bool.not_eq_true',ne_eq,ite_not,Dl.sz0,Dl.sz1,Dl.sz2,Dl.sz4]; exact q
  | some s =>
    have:=h s rfl
    simp only [t_refuse_early,oi_none,oi_some,Dl.dSetD,Dl.xDGet,Dl.dDPut,Dl.dDPop,Dl.dDIn,Dl.dctOf,Dl.dctR,Dl.fzOf,Dl.keyD,Dl.diItems,Dl.dFz,Dl.pinO,Dl.pinS,Dl.dMeth,Dl.dMake,Dl.aNil,Dl.aCons,Dl.atsOf,Dl.inA,Dl.dX,Dl.xVar,Dl.xFld,Dl.dSetF,Dl.fldOf,Dl.putAt,Dl.fewOf,Dl.setO,Dl.upA_a,Dl.startO,Dl.entO,Dl.slA,Dl.outO,Dl.outA_a,Dl.outA_b,List.head?_cons,decide_true,Bool.and_self,and_self,Dl.dSeq,Dl.dNext,Dl.dIfS,Dl.dB,Dl.dOp,Dl.dVar,Dl.dC,Dl.dLst,Dl.dTup,Dl.dNil,Dl.dCons,Dl.dRet,Dl.dCall,Dl.cMax,Dl.cMin,Dl.dDrop,Dl.dSet,Dl.dOwn,Dl.dFrz,Dl.dAnd,Dl.dOr,Dl.dNot,Dl.dIf,Dl.dNever,Dl.rII,Dl.rIC,Dl.rEqD,Dl.rNeD,Dl.rIsN,Dl.rNotN,Dl.gdTup2,Dl.dExt,Dl.cSorted,Dl.cMinL,Dl.dLstRng,Dl.dYes,Dl.dropOw,Dl.gdName,Dl.startD,List.map_cons,List.map_nil,List.length_cons,List.length_nil,List.cons_append,List.nil_append,List.replicate_zero,List.replicate_succ,Nat.reduceAdd,Nat.reduceSub,List.getElem?_cons_zero,List.getElem?_cons_succ,List.set_cons_zero,List.set_cons_succ,Bool.not_true,Bool.not_false,if_true,if_false,reduceCtorEq,Bool.false_eq_true,Dl.rF,Dl.cLenF,Dl.diSeqF,Dl.dTruF,Option.some.injEq,Dl.eqD_int_int,Dl.eqD_str_str,Dl.eqD_tup_tup,Dl.eqD_lst_lst,Dl.eqDL_nil_nil,Dl.eqDL_cons_nil,Dl.eqDL_cons_cons,Dl.isNonD_non,Dl.isNonD_int,Dl.addF_int,Dl.addF_lst,Dl.ixF_tup,Dl.ixF_lst,Dl.seqF_lst,Dl.truF_bl,Dl.truF_lst,exists_eq_left',Dl.atI_0,Dl.atI_1,Dl.atI_2,Dl.atI_3,decide_eq_true_eq,true_and,Bool.true_and,Dl.okEq_int_int,beq_iff_eq,beq_self_eq_true,beq_eq_false_iff_ne,Bool.not_eq_true',ne_eq,ite_not,Dl.sz0,Dl.sz1,Dl.sz2,Dl.sz4]
    rw [if_neg (by simpa using this)]
    exact q
noncomputable def t_left_at:TSd:=dSeq (dDrop ((dCall S_refuse_early ((dCons ((dOp (rF ixF) ((dVar 0)) (dC (.int 3)))) ((dCons ((dVar 1)) (dNil)))))))) (dSeq (dIfS (dB (dOp rIsN ((dOp (rF ixF) ((dVar 0)) (dC (.int 3)))) (dC .non))) (dRet ((dOp (rF ixF) ((dVar 0)) (dC (.int 2))))) (dNext)) (dRet ((dCall cMax ((dCons (dC (.int 0)) ((dCons ((dOp (rII fun i j=>.int (i - j)) ((dOp (rF ixF) ((dVar 0)) (dC (.int 2)))) ((dOp (rII fun i j=>.int (i - j)) ((dVar 1)) ((dOp (rF ixF) ((dVar 0)) (dC (.int 3)))))))) (dNil)))))))))
theorem r_left_at:∀ ds Q,S_left_at ds Q→t_left_at { nx:=fun _=>Q .non,rt:=fun d _=>Q d } (startD ["clock","now"] ds):=by
  rintro ds Q ⟨size,left,o,now,rfl,h,q⟩
  simp only [t_left_at,Dl.dSetD,Dl.xDGet,Dl.dDPut,Dl.dDPop,Dl.dDIn,Dl.dctOf,Dl.dctR,Dl.fzOf,Dl.keyD,Dl.diItems,Dl.dFz,Dl.pinO,Dl.pinS,Dl.dMeth,Dl.dMake,Dl.aNil,Dl.aCons,Dl.atsOf,Dl.inA,Dl.dX,Dl.xVar,Dl.xFld,Dl.dSetF,Dl.fldOf,Dl.putAt,Dl.fewOf,Dl.setO,Dl.upA_a,Dl.startO,Dl.entO,Dl.slA,Dl.outO,Dl.outA_a,Dl.outA_b,List.head?_cons,decide_true,Bool.and_self,and_self,Dl.dSeq,Dl.dNext,Dl.dIfS,Dl.dB,Dl.dOp,Dl.dVar,Dl.dC,Dl.dLst,Dl.dTup,Dl.dNil,Dl.dCons,Dl.dRet,Dl.dCall,Dl.cMax,Dl.cMin,Dl.dDrop,Dl.dSet,Dl.dOwn,Dl.dFrz,Dl.dAnd,Dl.dOr,Dl.dNot,Dl.dIf,Dl.dNever,Dl.rII,Dl.rIC,Dl.rEqD,Dl.rNeD,Dl.rIsN,Dl.rNotN,Dl.gdTup2,Dl.dExt,Dl.cSorted,Dl.cMinL,Dl.dLstRng,Dl.dYes,Dl.dropOw,Dl.gdName,Dl.startD,List.map_cons,List.map_nil,List.length_cons,List.length_nil,List.cons_append,List.nil_append,List.replicate_zero,List.replicate_succ,Nat.reduceAdd,Nat.reduceSub,List.getElem?_cons_zero,List.getElem?_cons_succ,List.set_cons_zero,List.set_cons_succ,Bool.not_true,Bool.not_false,if_true,if_false,reduceCtorEq,Bool.false_eq_true,Dl.rF,Dl.cLenF,Dl.diSeqF,Dl.dTruF,Option.some.injEq,Dl.eqD_int_int,Dl.eqD_str_str,Dl.eqD_tup_tup,Dl.eqD_lst_lst,Dl.eqDL_nil_nil,Dl.eqDL_cons_nil,Dl.eqDL_cons_cons,Dl.isNonD_non,Dl.isNonD_int,Dl.addF_int,Dl.addF_lst,Dl.ixF_tup,Dl.ixF_lst,Dl.seqF_lst,Dl.truF_bl,Dl.truF_lst,exists_eq_left',Dl.atI_0,Dl.atI_1,Dl.atI_2,Dl.atI_3,decide_eq_true_eq,true_and,Bool.true_and,Dl.okEq_int_int,beq_iff_eq,beq_self_eq_true,beq_eq_false_iff_ne,Bool.not_eq_true',ne_eq,ite_not,Dl.sz0,Dl.sz1,Dl.sz2,Dl.sz4]
  refine ⟨o,now,rfl,h,?_⟩
  cases o with
  | none=>simp only [leftAt,oi_none,oi_some,Dl.dSetD,Dl.xDGet,Dl.dDPut,Dl.dDPop,Dl.dDIn,Dl.dctOf,Dl.dctR,Dl.fzOf,Dl.keyD,Dl.diItems,Dl.dFz,Dl.pinO,Dl.pinS,Dl.dMeth,Dl.dMake,Dl.aNil,Dl.aCons,Dl.atsOf,Dl.inA,Dl.dX,Dl.xVar,Dl.xFld,Dl.dSetF,Dl.fldOf,Dl.putAt,Dl.fewOf,Dl.setO,Dl.upA_a,Dl.startO,Dl.entO,Dl.slA,Dl.outO,Dl.outA_a,Dl.outA_b,List.head?_cons,decide_true,Bool.and_self,and_self,Dl.dSeq,Dl.dNext,Dl.dIfS,Dl.dB,Dl.dOp,Dl.dVar,Dl.dC,Dl.dLst,Dl.dTup,Dl.dNil,Dl.dCons,Dl.dRet,Dl.dCall,Dl.cMax,Dl.cMin,Dl.dDrop,Dl.dSet,Dl.dOwn,Dl.dFrz,Dl.dAnd,Dl.dOr,Dl.dNot,Dl.dIf,Dl.dNever,Dl.rII,Dl.rIC,Dl.rEqD,Dl.rNeD,Dl.rIsN,Dl.rNotN,Dl.gdTup2,Dl.dExt,Dl.cSorted,Dl.cMinL,Dl.dLstRng,Dl.dYes,Dl.dropOw,Dl.gdName,Dl.startD,List.map_cons,List.map_nil,List.length_cons,List.length_nil,List.cons_append,List.nil_append,List.replicate_zero,List.replicate_succ,Nat.reduceAdd,Nat.reduceSub,List.getElem?_cons_zero,List.getElem?_cons_succ,List.set_cons_zero,List.set_cons_succ,Bool.not_true,Bool.not_false,if_true,if_false,reduceCtorEq,Bool.false_eq_true,Dl.rF,Dl.cLenF,Dl.diSeqF,Dl.dTruF,Option.some.injEq,Dl.eqD_int_int,Dl.eqD_str_str,Dl.eqD_tup_tup,Dl.eqD_lst_lst,Dl.eqDL_nil_nil,Dl.eqDL_cons_nil,Dl.eqDL_cons_cons,Dl.isNonD_non,Dl.isNonD_int,Dl.addF_int,Dl.addF_lst,Dl.ixF_tup,Dl.ixF_lst,Dl.seqF_lst,Dl.truF_bl,Dl.truF_lst,exists_eq_left',Dl.atI_0,Dl.atI_1,Dl.atI_2,Dl.atI_3,decide_eq_true_eq,true_and,Bool.true_and,Dl.okEq_int_int,beq_iff_eq,beq_self_eq_true,beq_eq_false_iff_ne,Bool.not_eq_true',ne_eq,ite_not,Dl.sz0,Dl.sz1,Dl.sz2,Dl.sz4] at q ⊢; exact q
  | some s=>simp only [leftAt,oi_none,oi_some,Dl.dSetD,Dl.xDGet,Dl.dDPut,Dl.dDPop,Dl.dDIn,Dl.dctOf,Dl.dctR,Dl.fzOf,Dl.keyD,Dl.diItems,Dl.dFz,Dl.pinO,Dl.pinS,Dl.dMeth,Dl.dMake,Dl.aNil,Dl.aCons,Dl.atsOf,Dl.inA,Dl.dX,Dl.xVar,Dl.xFld,Dl.dSetF,Dl.fldOf,Dl.putAt,Dl.fewOf,Dl.setO,Dl.upA_a,Dl.startO,Dl.entO,Dl.slA,Dl.outO,Dl.outA_a,Dl.outA_b,List.head?_cons,decide_true,Bool.and_self,and_self,Dl.dSeq,Dl.dNext,Dl.dIfS,Dl.dB,Dl.dOp,Dl.dVar,Dl.dC,Dl.dLst,Dl.dTup,Dl.dNil,Dl.dCons,Dl.dRet,Dl.dCall,Dl.cMax,Dl.cMin,Dl.dDrop,Dl.dSet,Dl.dOwn,Dl.dFrz,Dl.dAnd,Dl.dOr,Dl.dNot,Dl.dIf,Dl.dNever,Dl.rII,Dl.rIC,Dl.rEqD,Dl.rNeD,Dl.rIsN,Dl.rNotN,Dl.gdTup2,Dl.dExt,Dl.cSorted,Dl.cMinL,Dl.dLstRng,Dl.dYes,Dl.dropOw,Dl.gdName,Dl.startD,List.map_cons,List.map_nil,List.length_cons,List.length_nil,List.cons_append,List.nil_append,List.replicate_zero,List.replicate_succ,Nat.reduceAdd,Nat.reduceSub,List.getElem?_cons_zero,List.getElem?_cons_succ,List.set_cons_zero,List.set_cons_succ,Bool.not_true,Bool.not_false,if_true,if_false,reduceCtorEq,Bool.false_eq_true,Dl.rF,Dl.cLenF,Dl.diSeqF,Dl.dTruF,Option.some.injEq,Dl.eqD_int_int,Dl.eqD_str_str,Dl.eqD_tup_tup,Dl.eqD_lst_lst,Dl.eqDL_nil_nil,Dl.eqDL_cons_nil,Dl.eqDL_cons_cons,Dl.isNonD_non,Dl.isNonD_int,Dl.addF_int,Dl.addF_lst,Dl.ixF_tup,Dl.ixF_lst,Dl.seqF_lst,Dl.truF_bl,Dl.truF_lst,exists_eq_left',Dl.atI_0,Dl.atI_1,Dl.atI_2,Dl.atI_3,decide_eq_true_eq,true_and,Bool.true_and,Dl.okEq_int_int,beq_iff_eq,beq_self_eq_true,beq_eq_false_iff_ne,Bool.not_eq_true',ne_eq,ite_not,Dl.sz0,Dl.sz1,Dl.sz2,Dl.sz4] at q ⊢; exact q
noncomputable def t_begun:TSd:=dSeq (dDrop ((dCall S_refuse_early ((dCons ((dOp (rF ixF) ((dVar 0)) (dC (.int 3)))) ((dCons ((dVar 1)) (dNil)))))))) (dSeq (dIfS (dB (dOp rNotN ((dOp (rF ixF) ((dVar 0)) (dC (.int 3)))) (dC .non))) (dRet ((dVar 0))) (dNext)) (dRet ((dTup ((dCons (dC (.str "timer")) ((dCons ((dOp (rF ixF) ((dVar 0)) (dC (.int 1)))) ((dCons ((dOp (rF ixF) ((dVar 0)) (dC (.int 2)))) ((dCons ((dVar 1)) (dNil)))))))))))))
theorem r_begun:∀ ds Q,S_begun ds Q→t_begun { nx:=fun _=>Q .non,rt:=fun d _=>Q d } (startD ["clock","now"] ds):=by
  rintro ds Q ⟨size,left,o,now,rfl,h,q⟩
  simp only [t_begun,Dl.dSetD,Dl.xDGet,Dl.dDPut,Dl.dDPop,Dl.dDIn,Dl.dctOf,Dl.dctR,Dl.fzOf,Dl.keyD,Dl.diItems,Dl.dFz,Dl.pinO,Dl.pinS,Dl.dMeth,Dl.dMake,Dl.aNil,Dl.aCons,Dl.atsOf,Dl.inA,Dl.dX,Dl.xVar,Dl.xFld,Dl.dSetF,Dl.fldOf,Dl.putAt,Dl.fewOf,Dl.setO,Dl.upA_a,Dl.startO,Dl.entO,Dl.slA,Dl.outO,Dl.outA_a,Dl.outA_b,List.head?_cons,decide_true,Bool.and_self,and_self,Dl.dSeq,Dl.dNext,Dl.dIfS,Dl.dB,Dl.dOp,Dl.dVar,Dl.dC,Dl.dLst,Dl.dTup,Dl.dNil,Dl.dCons,Dl.dRet,Dl.dCall,Dl.cMax,Dl.cMin,Dl.dDrop,Dl.dSet,Dl.dOwn,Dl.dFrz,Dl.dAnd,Dl.dOr,Dl.dNot,Dl.dIf,Dl.dNever,Dl.rII,Dl.rIC,Dl.rEqD,Dl.rNeD,Dl.rIsN,Dl.rNotN,Dl.gdTup2,Dl.dExt,Dl.cSorted,Dl.cMinL,Dl.dLstRng,Dl.dYes,Dl.dropOw,Dl.gdName,Dl.startD,List.map_cons,List.map_nil,List.length_cons,List.length_nil,List.cons_append,List.nil_append,List.replicate_zero,List.replicate_succ,Nat.reduceAdd,Nat.reduceSub,List.getElem?_cons_zero,List.getElem?_cons_succ,List.set_cons_zero,List.set_cons_succ,Bool.not_true,Bool.not_false,if_true,if_false,reduceCtorEq,Bool.false_eq_true,Dl.rF,Dl.cLenF,Dl.diSeqF,Dl.dTruF,Option.some.injEq,Dl.eqD_int_int,Dl.eqD_str_str,Dl.eqD_tup_tup,Dl.eqD_lst_lst,Dl.eqDL_nil_nil,Dl.eqDL_cons_nil,Dl.eqDL_cons_cons,Dl.isNonD_non,Dl.isNonD_int,Dl.addF_int,Dl.addF_lst,Dl.ixF_tup,Dl.ixF_lst,Dl.seqF_lst,Dl.truF_bl,Dl.truF_lst,exists_eq_left',Dl.atI_0,Dl.atI_1,Dl.atI_2,Dl.atI_3,decide_eq_true_eq,true_and,Bool.true_and,Dl.okEq_int_int,beq_iff_eq,beq_self_eq_true,beq_eq_false_iff_ne,Bool.not_eq_true',ne_eq,ite_not,Dl.sz0,Dl.sz1,Dl.sz2,Dl.sz4]
  refine ⟨o,now,rfl,h,?_⟩
  cases o with
  | none=>simp only [oi_none,oi_some,Dl.dSetD,Dl.xDGet,Dl.dDPut,Dl.dDPop,Dl.dDIn,Dl.dctOf,Dl.dctR,Dl.fzOf,Dl.keyD,Dl.diItems,Dl.dFz,Dl.pinO,Dl.pinS,Dl.dMeth,Dl.dMake,Dl.aNil,Dl.aCons,Dl.atsOf,Dl.inA,Dl.dX,Dl.xVar,Dl.xFld,Dl.dSetF,Dl.fldOf,Dl.putAt,Dl.fewOf,Dl.setO,Dl.upA_a,Dl.startO,Dl.entO,Dl.slA,Dl.outO,Dl.outA_a,Dl.outA_b,List.head?_cons,decide_true,Bool.and_self,and_self,Dl.dSeq,Dl.dNext,Dl.dIfS,Dl.dB,Dl.dOp,Dl.dVar,Dl.dC,Dl.dLst,Dl.dTup,Dl.dNil,Dl.dCons,Dl.dRet,Dl.dCall,Dl.cMax,Dl.cMin,Dl.dDrop,Dl.dSet,Dl.dOwn,Dl.dFrz,Dl.dAnd,Dl.dOr,Dl.dNot,Dl.dIf,Dl.dNever,Dl.rII,Dl.rIC,Dl.rEqD,Dl.rNeD,Dl.rIsN,Dl.rNotN,Dl.gdTup2,Dl.dExt,Dl.cSorted,Dl.cMinL,Dl.dLstRng,Dl.dYes,Dl.dropOw,Dl.gdName,Dl.startD,List.map_cons,List.map_nil,List.length_cons,List.length_nil,List.cons_append,List.nil_append,List.replicate_zero,List.replicate_succ,Nat.reduceAdd,Nat.reduceSub,List.getElem?_cons_zero,List.getElem?_cons_succ,List.set_cons_zero,List.set_cons_succ,Bool.not_true,Bool.not_false,if_true,if_false,reduceCtorEq,Bool.false_eq_true,Dl.rF,Dl.cLenF,Dl.diSeqF,Dl.dTruF,Option.some.injEq,Dl.eqD_int_int,Dl.eqD_str_str,Dl.eqD_tup_tup,Dl.eqD_lst_lst,Dl.eqDL_nil_nil,Dl.eqDL_cons_nil,Dl.eqDL_cons_cons,Dl.isNonD_non,Dl.isNonD_int,Dl.addF_int,Dl.addF_lst,Dl.ixF_tup,Dl.ixF_lst,Dl.seqF_lst,Dl.truF_bl,Dl.truF_lst,exists_eq_left',Dl.atI_0,Dl.atI_1,Dl.atI_2,Dl.atI_3,decide_eq_true_eq,true_and,Bool.true_and,Dl.okEq_int_int,beq_iff_eq,beq_self_eq_true,beq_eq_false_iff_ne,Bool.not_eq_true',ne_eq,ite_not,Dl.sz0,Dl.sz1,Dl.sz2,Dl.sz4] at q ⊢; exact q
  | some s=>simp only [oi_none,oi_some,Dl.dSetD,Dl.xDGet,Dl.dDPut,Dl.dDPop,Dl.dDIn,Dl.dctOf,Dl.dctR,Dl.fzOf,Dl.keyD,Dl.diItems,Dl.dFz,Dl.pinO,Dl.pinS,Dl.dMeth,Dl.dMake,Dl.aNil,Dl.aCons,Dl.atsOf,Dl.inA,Dl.dX,Dl.xVar,Dl.xFld,Dl.dSetF,Dl.fldOf,Dl.putAt,Dl.fewOf,Dl.setO,Dl.upA_a,Dl.startO,Dl.entO,Dl.slA,Dl.outO,Dl.outA_a,Dl.outA_b,List.head?_cons,decide_true,Bool.and_self,and_self,Dl.dSeq,Dl.dNext,Dl.dIfS,Dl.dB,Dl.dOp,Dl.dVar,Dl.dC,Dl.dLst,Dl.dTup,Dl.dNil,Dl.dCons,Dl.dRet,Dl.dCall,Dl.cMax,Dl.cMin,Dl.dDrop,Dl.dSet,Dl.dOwn,Dl.dFrz,Dl.dAnd,Dl.dOr,Dl.dNot,Dl.dIf,Dl.dNever,Dl.rII,Dl.rIC,Dl.rEqD,Dl.rNeD,Dl.rIsN,Dl.rNotN,Dl.gdTup2,Dl.dExt,Dl.cSorted,Dl.cMinL,Dl.dLstRng,Dl.dYes,Dl.dropOw,Dl.gdName,Dl.startD,List.map_cons,List.map_nil,List.length_cons,List.length_nil,List.cons_append,List.nil_append,List.replicate_zero,List.replicate_succ,Nat.reduceAdd,Nat.reduceSub,List.getElem?_cons_zero,List.getElem?_cons_succ,List.set_cons_zero,List.set_cons_succ,Bool.not_true,Bool.not_false,if_true,if_false,reduceCtorEq,Bool.false_eq_true,Dl.rF,Dl.cLenF,Dl.diSeqF,Dl.dTruF,Option.some.injEq,Dl.eqD_int_int,Dl.eqD_str_str,Dl.eqD_tup_tup,Dl.eqD_lst_lst,Dl.eqDL_nil_nil,Dl.eqDL_cons_nil,Dl.eqDL_cons_cons,Dl.isNonD_non,Dl.isNonD_int,Dl.addF_int,Dl.addF_lst,Dl.ixF_tup,Dl.ixF_lst,Dl.seqF_lst,Dl.truF_bl,Dl.truF_lst,exists_eq_left',Dl.atI_0,Dl.atI_1,Dl.atI_2,Dl.atI_3,decide_eq_true_eq,true_and,Bool.true_and,Dl.okEq_int_int,beq_iff_eq,beq_self_eq_true,beq_eq_false_iff_ne,Bool.not_eq_true',ne_eq,ite_not,Dl.sz0,Dl.sz1,Dl.sz2,Dl.sz4] at q ⊢; exact q
noncomputable def t_stopped:TSd:=dRet ((dTup ((dCons (dC (.str "timer")) ((dCons ((dOp (rF ixF) ((dVar 0)) (dC (.int 1)))) ((dCons ((dCall S_left_at ((dCons ((dVar 0)) ((dCons ((dVar 1)) (dNil))))))) ((dCons (dC .non) (dNil)))))))))))
theorem r_stopped:∀ ds Q,S_stopped ds Q→t_stopped { nx:=fun _=>Q .non,rt:=fun d _=>Q d } (startD ["clock","now"] ds):=by
  rintro ds Q ⟨size,left,o,now,rfl,h,q⟩
  simp only [t_stopped,Dl.dSetD,Dl.xDGet,Dl.dDPut,Dl.dDPop,Dl.dDIn,Dl.dctOf,Dl.dctR,Dl.fzOf,Dl.keyD,Dl.diItems,Dl.dFz,Dl.pinO,Dl.pinS,Dl.dMeth,Dl.dMake,Dl.aNil,Dl.aCons,Dl.atsOf,Dl.inA,Dl.dX,Dl.xVar,Dl.xFld,Dl.dSetF,Dl.fldOf,Dl.putAt,Dl.fewOf,Dl.setO,Dl.upA_a,Dl.startO,Dl.entO,Dl.slA,Dl.outO,Dl.outA_a,Dl.outA_b,List.head?_cons,decide_true,Bool.and_self,and_self,Dl.dSeq,Dl.dNext,Dl.dIfS,Dl.dB,Dl.dOp,Dl.dVar,Dl.dC,Dl.dLst,Dl.dTup,Dl.dNil,Dl.dCons,Dl.dRet,Dl.dCall,Dl.cMax,Dl.cMin,Dl.dDrop,Dl.dSet,Dl.dOwn,Dl.dFrz,Dl.dAnd,Dl.dOr,Dl.dNot,Dl.dIf,Dl.dNever,Dl.rII,Dl.rIC,Dl.rEqD,Dl.rNeD,Dl.rIsN,Dl.rNotN,Dl.gdTup2,Dl.dExt,Dl.cSorted,Dl.cMinL,Dl.dLstRng,Dl.dYes,Dl.dropOw,Dl.gdName,Dl.startD,List.map_cons,List.map_nil,List.length_cons,List.length_nil,List.cons_append,List.nil_append,List.replicate_zero,List.replicate_succ,Nat.reduceAdd,Nat.reduceSub,List.getElem?_cons_zero,List.getElem?_cons_succ,List.set_cons_zero,List.set_cons_succ,Bool.not_true,Bool.not_false,if_true,if_false,reduceCtorEq,Bool.false_eq_true,Dl.rF,Dl.cLenF,Dl.diSeqF,Dl.dTruF,Option.some.injEq,Dl.eqD_int_int,Dl.eqD_str_str,Dl.eqD_tup_tup,Dl.eqD_lst_lst,Dl.eqDL_nil_nil,Dl.eqDL_cons_nil,Dl.eqDL_cons_cons,Dl.isNonD_non,Dl.isNonD_int,Dl.addF_int,Dl.addF_lst,Dl.ixF_tup,Dl.ixF_lst,Dl.seqF_lst,Dl.truF_bl,Dl.truF_lst,exists_eq_left',Dl.atI_0,Dl.atI_1,Dl.atI_2,Dl.atI_3,decide_eq_true_eq,true_and,Bool.true_and,Dl.okEq_int_int,beq_iff_eq,beq_self_eq_true,beq_eq_false_iff_ne,Bool.not_eq_true',ne_eq,ite_not,Dl.sz0,Dl.sz1,Dl.sz2,Dl.sz4]
  exact ⟨size,left,o,now,rfl,h,q⟩
noncomputable def t_now_if_running:TSd:=dRet ((dIf (dB (dOp rIsN ((dOp (rF ixF) ((dVar 0)) (dC (.int 3)))) (dC .non))) (dC .non) ((dVar 1))))
theorem r_now_if_running:∀ ds Q,S_now_if_running ds Q→t_now_if_running { nx:=fun _=>Q .non,rt:=fun d _=>Q d } (startD ["clock","now"] ds):=by
  rintro ds Q ⟨size,left,o,now,rfl,q⟩
  cases o with
  | none=>simp only [t_now_if_running,oi_none,oi_some,Dl.dSetD,Dl.xDGet,Dl.dDPut,Dl.dDPop,Dl.dDIn,Dl.dctOf,Dl.dctR,Dl.fzOf,Dl.keyD,Dl.diItems,Dl.dFz,Dl.pinO,Dl.pinS,Dl.dMeth,Dl.dMake,Dl.aNil,Dl.aCons,Dl.atsOf,Dl.inA,Dl.dX,Dl.xVar,Dl.xFld,Dl.dSetF,Dl.fldOf,Dl.putAt,Dl.fewOf,Dl.setO,Dl.upA_a,Dl.startO,Dl.entO,Dl.slA,Dl.outO,Dl.outA_a,Dl.outA_b,List.head?_cons,decide_true,Bool.and_self,and_self,Dl.dSeq,Dl.dNext,Dl.dIfS,Dl.dB,Dl.dOp,Dl.dVar,Dl.dC,Dl.dLst,Dl.dTup,Dl.dNil,Dl.dCons,Dl.dRet,Dl.dCall,Dl.cMax,Dl.cMin,Dl.dDrop,Dl.dSet,Dl.dOwn,Dl.dFrz,Dl.dAnd,Dl.dOr,Dl.dNot,Dl.dIf,Dl.dNever,Dl.rII,Dl.rIC,Dl.rEqD,Dl.rNeD,Dl.rIsN,Dl.rNotN,Dl.gdTup2,Dl.dExt,Dl.cSorted,Dl.cMinL,Dl.dLstRng,Dl.dYes,Dl.dropOw,Dl.gdName,Dl.startD,List.map_cons,List.map_nil,List.length_cons,List.length_nil,List.cons_append,List.nil_append,List.replicate_zero,List.replicate_succ,Nat.reduceAdd,Nat.reduceSub,List.getElem?_cons_zero,List.getElem?_cons_succ,List.set_cons_zero,List.set_cons_succ,Bool.not_true,Bool.not_false,if_true,if_false,reduceCtorEq,Bool.false_eq_true,Dl.rF,Dl.cLenF,Dl.diSeqF,Dl.dTruF,Option.some.injEq,Dl.eqD_int_int,Dl.eqD_str_str,Dl.eqD_tup_tup,Dl.eqD_lst_lst,Dl.eqDL_nil_nil,Dl.eqDL_cons_nil,Dl.eqDL_cons_cons,Dl.isNonD_non,Dl.isNonD_int,Dl.addF_int,Dl.addF_lst,Dl.ixF_tup,Dl.ixF_lst,Dl.seqF_lst,Dl.truF_bl,Dl.truF_lst,exists_eq_left',Dl.atI_0,Dl.atI_1,Dl.atI_2,Dl.atI_3,decide_eq_true_eq,true_and,Bool.true_and,Dl.okEq_int_int,beq_iff_eq,beq_self_eq_true,beq_eq_false_iff_ne,Bool.not_eq_true',ne_eq,ite_not,Dl.sz0,Dl.sz1,Dl.sz2,Dl.sz4]; exact q
  | some s=>simp only [t_now_if_running,oi_none,oi_some,Dl.dSetD,Dl.xDGet,Dl.dDPut,Dl.dDPop,Dl.dDIn,Dl.dctOf,Dl.dctR,Dl.fzOf,Dl.keyD,Dl.diItems,Dl.dFz,Dl.pinO,Dl.pinS,Dl.dMeth,Dl.dMake,Dl.aNil,Dl.aCons,Dl.atsOf,Dl.inA,Dl.dX,Dl.xVar,Dl.xFld,Dl.dSetF,Dl.fldOf,Dl.putAt,Dl.fewOf,Dl.setO,Dl.upA_a,Dl.startO,Dl.entO,Dl.slA,Dl.outO,Dl.outA_a,Dl.outA_b,List.head?_cons,decide_true,Bool.and_self,and_self,Dl.dSeq,Dl.dNext,Dl.dIfS,Dl.dB,Dl.dOp,Dl.dVar,Dl.dC,Dl.dLst,Dl.dTup,Dl.dNil,Dl.dCons,Dl.dRet,Dl.dCall,Dl.cMax,Dl.cMin,Dl.dDrop,Dl.dSet,Dl.dOwn,Dl.dFrz,Dl.dAnd,Dl.dOr,Dl.dNot,Dl.dIf,Dl.dNever,Dl.rII,Dl.rIC,Dl.rEqD,Dl.rNeD,Dl.rIsN,Dl.rNotN,Dl.gdTup2,Dl.dExt,Dl.cSorted,Dl.cMinL,Dl.dLstRng,Dl.dYes,Dl.dropOw,Dl.gdName,Dl.startD,List.map_cons,List.map_nil,List.length_cons,List.length_nil,List.cons_append,List.nil_append,List.replicate_zero,List.replicate_succ,Nat.reduceAdd,Nat.reduceSub,List.getElem?_cons_zero,List.getElem?_cons_succ,List.set_cons_zero,List.set_cons_succ,Bool.not_true,Bool.not_false,if_true,if_false,reduceCtorEq,Bool.false_eq_true,Dl.rF,Dl.cLenF,Dl.diSeqF,Dl.dTruF,Option.some.injEq,Dl.eqD_int_int,Dl.eqD_str_str,Dl.eqD_tup_tup,Dl.eqD_lst_lst,Dl.eqDL_nil_nil,Dl.eqDL_cons_nil,Dl.eqDL_cons_cons,Dl.isNonD_non,Dl.isNonD_int,Dl.addF_int,Dl.addF_lst,Dl.ixF_tup,Dl.ixF_lst,Dl.seqF_lst,Dl.truF_bl,Dl.truF_lst,exists_eq_left',Dl.atI_0,Dl.atI_1,Dl.atI_2,Dl.atI_3,decide_eq_true_eq,true_and,Bool.true_and,Dl.okEq_int_int,beq_iff_eq,beq_self_eq_true,beq_eq_false_iff_ne,Bool.not_eq_true',ne_eq,ite_not,Dl.sz0,Dl.sz1,Dl.sz2,Dl.sz4]; exact q
noncomputable def t_anew:TSd:=dSeq (dDrop ((dCall S_refuse_early ((dCons ((dOp (rF ixF) ((dVar 0)) (dC (.int 3)))) ((dCons ((dVar 1)) (dNil)))))))) (dRet ((dTup ((dCons (dC (.str "timer")) ((dCons ((dOp (rF ixF) ((dVar 0)) (dC (.int 1)))) ((dCons ((dOp (rF ixF) ((dVar 0)) (dC (.int 1)))) ((dCons ((dCall S_now_if_running ((dCons ((dVar 0)) ((dCons ((dVar 1)) (dNil))))))) (dNil))))))))))))
theorem r_anew:∀ ds Q,S_anew ds Q→t_anew { nx:=fun _=>Q .non,rt:=fun d _=>Q d } (startD ["clock","now"] ds):=by
  rintro ds Q ⟨size,left,o,now,rfl,h,q⟩
  simp only [t_anew,Dl.dSetD,Dl.xDGet,Dl.dDPut,Dl.dDPop,Dl.dDIn,Dl.dctOf,Dl.dctR,Dl.fzOf,Dl.keyD,Dl.diItems,Dl.dFz,Dl.pinO,Dl.pinS,Dl.dMeth,Dl.dMake,Dl.aNil,Dl.aCons,Dl.atsOf,Dl.inA,Dl.dX,Dl.xVar,Dl.xFld,Dl.dSetF,Dl.fldOf,Dl.putAt,Dl.fewOf,Dl.setO,Dl.upA_a,Dl.startO,Dl.entO,Dl.slA,Dl.outO,Dl.outA_a,Dl.outA_b,List.head?_cons,decide_true,Bool.and_self,and_self,Dl.dSeq,Dl.dNext,Dl.dIfS,Dl.dB,Dl.dOp,Dl.dVar,Dl.dC,Dl.dLst,Dl.dTup,Dl.dNil,Dl.dCons,Dl.dRet,Dl.dCall,Dl.cMax,Dl.cMin,Dl.dDrop,Dl.dSet,Dl.dOwn,Dl.dFrz,Dl.dAnd,Dl.dOr,Dl.dNot,Dl.dIf,Dl.dNever,Dl.rII,Dl.rIC,Dl.rEqD,Dl.rNeD,Dl.rIsN,Dl.rNotN,Dl.gdTup2,Dl.dExt,Dl.cSorted,Dl.cMinL,Dl.dLstRng,Dl.dYes,Dl.dropOw,Dl.gdName,Dl.startD,List.map_cons,List.map_nil,List.length_cons,List.length_nil,List.cons_append,List.nil_append,List.replicate_zero,List.replicate_succ,Nat.reduceAdd,Nat.reduceSub,List.getElem?_cons_zero,List.getElem?_cons_succ,List.set_cons_zero,List.set_cons_succ,Bool.not_true,Bool.not_false,if_true,if_false,reduceCtorEq,Bool.false_eq_true,Dl.rF,Dl.cLenF,Dl.diSeqF,Dl.dTruF,Option.some.injEq,Dl.eqD_int_int,Dl.eqD_str_str,Dl.eqD_tup_tup,Dl.eqD_lst_lst,Dl.eqDL_nil_nil,Dl.eqDL_cons_nil,Dl.eqDL_cons_cons,Dl.isNonD_non,Dl.isNonD_int,Dl.addF_int,Dl.addF_lst,Dl.ixF_tup,Dl.ixF_lst,Dl.seqF_lst,Dl.truF_bl,Dl.truF_lst,exists_eq_left',Dl.atI_0,Dl.atI_1,Dl.atI_2,Dl.atI_3,decide_eq_true_eq,true_and,Bool.true_and,Dl.okEq_int_int,beq_iff_eq,beq_self_eq_true,beq_eq_false_iff_ne,Bool.not_eq_true',ne_eq,ite_not,Dl.sz0,Dl.sz1,Dl.sz2,Dl.sz4]
  exact ⟨o,now,rfl,h,size,left,o,now,rfl,q⟩
noncomputable def t_longer:TSd:=dRet ((dTup ((dCons (dC (.str "timer")) ((dCons ((dOp (rF ixF) ((dVar 0)) (dC (.int 1)))) ((dCons ((dCall cMax ((dCons (dC (.int 0)) ((dCons ((dOp (rF addF) ((dCall S_left_at ((dCons ((dVar 0)) ((dCons ((dVar 2)) (dNil))))))) ((dVar 1)))) (dNil))))))) ((dCons ((dCall S_now_if_running ((dCons ((dVar 0)) ((dCons ((dVar 2)) (dNil))))))) (dNil)))))))))))
theorem r_longer:∀ ds Q,S_longer ds Q→t_longer { nx:=fun _=>Q .non,rt:=fun d _=>Q d } (startD ["clock","by","now"] ds):=by
  rintro ds Q ⟨size,left,o,more,now,rfl,h,q⟩
  simp only [t_longer,Dl.dSetD,Dl.xDGet,Dl.dDPut,Dl.dDPop,Dl.dDIn,Dl.dctOf,Dl.dctR,Dl.fzOf,Dl.keyD,Dl.diItems,Dl.dFz,Dl.pinO,Dl.pinS,Dl.dMeth,Dl.dMake,Dl.aNil,Dl.aCons,Dl.atsOf,Dl.inA,Dl.dX,Dl.xVar,Dl.xFld,Dl.dSetF,Dl.fldOf,Dl.putAt,Dl.fewOf,Dl.setO,Dl.upA_a,Dl.startO,Dl.entO,Dl.slA,Dl.outO,Dl.outA_a,Dl.outA_b,List.head?_cons,decide_true,Bool.and_self,and_self,Dl.dSeq,Dl.dNext,Dl.dIfS,Dl.dB,Dl.dOp,Dl.dVar,Dl.dC,Dl.dLst,Dl.dTup,Dl.dNil,Dl.dCons,Dl.dRet,Dl.dCall,Dl.cMax,Dl.cMin,Dl.dDrop,Dl.dSet,Dl.dOwn,Dl.dFrz,Dl.dAnd,Dl.dOr,Dl.dNot,Dl.dIf,Dl.dNever,Dl.rII,Dl.rIC,Dl.rEqD,Dl.rNeD,Dl.rIsN,Dl.rNotN,Dl.gdTup2,Dl.dExt,Dl.cSorted,Dl.cMinL,Dl.dLstRng,Dl.dYes,Dl.dropOw,Dl.gdName,Dl.startD,List.map_cons,List.map_nil,List.length_cons,List.length_nil,List.cons_append,List.nil_append,List.replicate_zero,List.replicate_succ,Nat.reduceAdd,Nat.reduceSub,List.getElem?_cons_zero,List.getElem?_cons_succ,List.set_cons_zero,List.set_cons_succ,Bool.not_true,Bool.not_false,if_true,if_false,reduceCtorEq,Bool.false_eq_true,Dl.rF,Dl.cLenF,Dl.diSeqF,Dl.dTruF,Option.some.injEq,Dl.eqD_int_int,Dl.eqD_str_str,Dl.eqD_tup_tup,Dl.eqD_lst_lst,Dl.eqDL_nil_nil,Dl.eqDL_cons_nil,Dl.eqDL_cons_cons,Dl.isNonD_non,Dl.isNonD_int,Dl.addF_int,Dl.addF_lst,Dl.ixF_tup,Dl.ixF_lst,Dl.seqF_lst,Dl.truF_bl,Dl.truF_lst,exists_eq_left',Dl.atI_0,Dl.atI_1,Dl.atI_2,Dl.atI_3,decide_eq_true_eq,true_and,Bool.true_and,Dl.okEq_int_int,beq_iff_eq,beq_self_eq_true,beq_eq_false_iff_ne,Bool.not_eq_true',ne_eq,ite_not,Dl.sz0,Dl.sz1,Dl.sz2,Dl.sz4]
  exact ⟨size,left,o,now,rfl,h,_,rfl,size,left,o,now,rfl,q⟩
end Law
namespace Law
open PySem L2 Dl Rg
theorem nd1 (i:Nat):([i]:List Nat).Nodup = True:=eq_true (by simp)
theorem sizeLine_big {n:Nat} (h:n ≤ 10000000):n < sizeLine:=by rw [sizeLine_eq]; omega
structure Hs where
  re:Int
  cl:List (Str × Ck)
  sl:Bool
noncomputable def kc (p:Str × Ck):Key × D:=(Sum.inr p.1,ckD p.2)
noncomputable def Hs.fs (h:Hs):List (Str × Fl):=[("reached",.sh (.int h.re)),("clocks",.dc (h.cl.map kc)),("asleep",.sh (.bl h.sl))]
noncomputable def Hs.fz (h:Hs) (q:Nat):List (Str × Fl):=[("reached",.sh (.int h.re)),("clocks",.fz q (h.cl.map kc)),("asleep",.sh (.bl h.sl))]
section
variable (h:Hs) (q:Nat)
theorem Hs.f_re:h.fs.lookup ("reached":Str) = some (.sh (.int h.re)):=rfl
theorem Hs.f_cl:h.fs.lookup ("clocks":Str) = some (.dc (h.cl.map kc)):=rfl
theorem Hs.f_sl:h.fs.lookup ("asleep":Str) = some (.sh (.bl h.sl)):=rfl
theorem Hs.z_re:(h.fz q).lookup ("reached":Str) = some (.sh (.int h.re)):=rfl
theorem Hs.z_cl:(h.fz q).lookup ("clocks":Str) = some (.fz q (h.cl.map kc)):=rfl
theorem Hs.few:(h.fs.length < 999) = True:=eq_true (by show 3 < 999; decide)
theorem Hs.p_cl (l:List (Str × Ck)):putFl "clocks" (.dc (l.map kc)) h.fs = Hs.fs { h with cl:=l }:=rfl
theorem Hs.p_fz:putFl "clocks" (.fz q (h.cl.map kc)) h.fs = h.fz q:=rfl
theorem Hs.p_un:putFl "clocks" (.dc (h.cl.map kc)) (h.fz q) = h.fs:=rfl
theorem Hs.p_re (x:Int):putFl "reached" (.sh (.int x)) h.fs = Hs.fs { h with re:=x }:=rfl
theorem Hs.m_ra:h.fs.lookup ("refuse_asleep":Str) = none:=rfl
theorem Hs.m_ru:h.fs.lookup ("refuse_unknown":Str) = none:=rfl
theorem Hs.m_put:h.fs.lookup ("put":Str) = none:=rfl
theorem Hs.m_drop:h.fs.lookup ("drop":Str) = none:=rfl
theorem Hs.m_clock:h.fs.lookup ("clock":Str) = none:=rfl
theorem Hs.m_tick:h.fs.lookup ("tick":Str) = none:=rfl
theorem Hs.m_due:h.fs.lookup ("next_due":Str) = none:=rfl
end
noncomputable def valC (l:List (Str × Ck)) (x:Str):Option Ck:=(l.find? fun p=>decide (p.1 = x)).map (·.2)
noncomputable def putC (l:List (Str × Ck)) (x:Str) (c:Ck):List (Str × Ck):=if (l.any fun p=>decide (p.1 = x)) = true then l.map (fun p=>if p.1 = x then (p.1,c) else p) else l ++ [(x,c)]
noncomputable def dropC (l:List (Str × Ck)) (x:Str):List (Str × Ck):=l.filter fun p=>decide (p.1 ≠ x)
theorem inr_iff {x y:Str}:((Sum.inr x:Key) = Sum.inr y) ↔ x = y:=⟨fun h=>by injection h,fun h=>by rw [h]⟩
theorem valD_kc (x:Str):∀ l:List (Str × Ck),valD (l.map kc) (.inr x) = (valC l x).map ckD
  | []=>rfl
  | p :: r=>by
    by_cases h:p.1 = x
    · simp [valD,valC,kc,h]
    · have ih:=valD_kc x r
      have h':¬ (Sum.inr p.1:Key) = .inr x:=fun z=>h (inr_iff.mp z)
      unfold valD at ih ⊢
      unfold valC at ih ⊢
      rw [List.map_cons,List.find?_cons_of_neg (by simpa [kc] using h'),List.find?_cons_of_neg (by simpa using h)]
      exact ih
theorem any_kc (x:Str):∀ l:List (Str × Ck),((l.map kc).any fun kv=>decide (kv.1 = .inr x)) = l.any fun p=>decide (p.1 = x)
  | []=>rfl
  | p :: r=>by
    rw [List.map_cons,List.any_cons,List.any_cons,any_kc x r]
    congr 1
    exact decide_eq_decide.mpr inr_iff
theorem putD_kc (x:Str) (c:Ck) (l:List (Str × Ck)):putD (l.map kc) (.inr x) (ckD c) = (putC l x c).map kc:=by
  unfold putD putC
  rw [any_kc]
  split
  · rw [List.map_map,List.map_map]
    refine List.map_congr_left fun p _=>?_
    show (if (kc p).1 = Sum.inr x then _ else _) = kc (if p.1 = x then _ else _)
    have e:(kc p).1 = Sum.inr x ↔ p.1 = x:=inr_iff
    by_cases h:p.1 = x
    · rw [if_pos h,if_pos (e.mpr h)]; rfl
    · rw [if_neg h,if_neg (fun z=>h (e.mp z))]
  · rw [List.map_append]; rfl
theorem dropD_kc (x:Str):∀ l:List (Str × Ck),dropD (l.map kc) (.inr x) = (dropC l x).map kc
  | []=>rfl
  | p :: r=>by
    have ih:=dropD_kc x r
    unfold dropD at ih ⊢
    unfold dropC at ih ⊢
    by_cases h:p.1 = x
    · rw [List.map_cons,List.filter_cons_of_neg (by simpa [kc] using h),List.filter_cons_of_neg (by simpa using h)]; exact ih
    · have h':¬ (Sum.inr p.1:Key) = .inr x:=fun z=>h (inr_iff.mp z)
      rw [List.map_cons,List.filter_cons_of_pos (by simpa [kc] using h'),List.filter_cons_of_pos (by simpa using h),List.map_cons,ih]
noncomputable abbrev rowD (r:Int × Str):D:=.tup [.int r.1,.str r.2]
noncomputable def rowK (r:Int × Str):List Key:=[.inl r.1,.inr r.2]
noncomputable def unK:List Key→Int × Str
  | [.inl i,.inr x]=>(i,x)
  | _=>(0,"")
theorem rowK_D (l:List (Int × Str)):l.map rowD = (l.map rowK).map tD:=by rw [List.map_map]; rfl
noncomputable def AllR (a e:Int):List (Str × Ck)→List (Int × Str)→Prop
  | [],rs=>rs = []
  | p :: r,rs=>∃ l m,RingsOf p.2 a e l∧AllR a e r m∧rs = l.map (fun t=>(t,p.1)) ++ m
noncomputable def Srt (rows:List (Int × Str)):Prop:=rows.Pairwise fun a b=>klt (rowK b) (rowK a) = false
noncomputable def TickOf (cl:List (Str × Ck)) (a e:Int) (rows:List (Int × Str)):Prop:=∃ rs,AllR a e cl rs∧rows.Perm rs∧Srt rows
theorem allR_snoc {a e:Int} {p:Str × Ck} {l:List Int} (hl:RingsOf p.2 a e l):∀ {cl:List (Str × Ck)} {rs:List (Int × Str)},AllR a e cl rs→AllR a e (cl ++ [p]) (rs ++ l.map fun t=>(t,p.1))
  | [],rs,h=>by
    have h:rs = []:=h
    subst h
    exact ⟨l,[],hl,rfl,by simp⟩
  | x :: r,rs,⟨l',m,h1,h2,h3⟩=>by
    subst h3
    exact ⟨l',m ++ l.map fun t=>(t,p.1),h1,allR_snoc hl h2,by rw [List.append_assoc]⟩
theorem allR_app {a e:Int}:∀ {cl cm:List (Str × Ck)} {rs:List (Int × Str)},AllR a e cl rs→∃ ms,AllR a e (cl ++ cm) ms∧rs.length ≤ ms.length
  | [],cm,rs,h=>by
    have h:rs = []:=h
    subst h
    have ex:∀ cm:List (Str × Ck),∃ ms,AllR a e cm ms:=by
      intro cm
      induction cm with
      | nil=>exact ⟨[],rfl⟩
      | cons p r ih=>obtain ⟨m,hm⟩:=ih; obtain ⟨l,hl⟩:=rings_exist p.2 a e; exact ⟨_,l,m,hl,hm,rfl⟩
    obtain ⟨ms,hm⟩:=ex cm
    exact ⟨ms,hm,Nat.zero_le _⟩
  | x :: r,cm,rs,⟨l',m,h1,h2,h3⟩=>by
    subst h3
    obtain ⟨ms,g1,g2⟩:=allR_app (cm:=cm) h2
    exact ⟨_,⟨l',ms,h1,g1,rfl⟩,by simp only [List.length_append]; omega⟩
theorem rows_of {rs:List (Int × Str)} {ms:List (List Key)} (h:ms.Perm (rs.map rowK)):∃ rows:List (Int × Str),ms = rows.map rowK∧rows.Perm rs:=by
  refine ⟨ms.map unK,?_,?_⟩
  · rw [List.map_map]
    have:∀ m ∈ ms,(rowK ∘ unK) m = m:=fun m hm=>by
      obtain ⟨r,_,rfl⟩:=List.mem_map.mp (h.mem_iff.mp hm)
      rfl
    rw [List.map_congr_left this]; simp
  · have:=h.map unK
    rw [List.map_map] at this
    refine this.trans ?_
    rw [show (unK ∘ rowK) = id from funext fun _=>rfl]; simp
noncomputable def S_House_init (C:Nat):SpO:=fun as Q=>∃ now:Int,as = [.o C [],.v (.int now)]∧Q .non [.o C (Hs.fs ⟨now,[],false⟩),.v (.int now)]
noncomputable def S_House_refuse_asleep (C:Nat):SpO:=fun as Q=>∃ h:Hs,as = [.o C h.fs]∧h.sl = false∧Q .non [.o C h.fs]
noncomputable def S_House_refuse_unknown (C:Nat):SpO:=fun as Q=>∃ (h:Hs) (x:Str) (c:Ck),as = [.o C h.fs,.v (.str x)]∧valC h.cl x = some c∧Q .non [.o C h.fs,.v (.str x)]
noncomputable def S_House_put (C:Nat):SpO:=fun as Q=>∃ (h:Hs) (x:Str) (c:Ck),as = [.o C h.fs,.v (.str x),.v (ckD c)]∧h.sl = false∧h.cl.length < 1000∧Q .non [.o C (Hs.fs { h with cl:=putC h.cl x c }),.v (.str x),.v (ckD c)]
noncomputable def S_House_clock (C:Nat):SpO:=fun as Q=>∃ (h:Hs) (x:Str) (c:Ck),as = [.o C h.fs,.v (.str x)]∧valC h.cl x = some c∧Q (ckD c) [.o C h.fs,.v (.str x)]
noncomputable def S_House_drop (C:Nat):SpO:=fun as Q=>∃ (h:Hs) (x:Str) (c:Ck),as = [.o C h.fs,.v (.str x)]∧h.sl = false∧valC h.cl x = some c∧Q .non [.o C (Hs.fs { h with cl:=dropC h.cl x }),.v (.str x)]
noncomputable def S_House_tick (C:Nat):SpO:=fun as Q=>∃ (h:Hs) (now:Int),as = [.o C h.fs,.v (.int now)]∧h.sl = false∧h.re ≤ now∧now ≤ 10000000∧(∀ p ∈ h.cl,Ok p.2)∧(∀ rs,AllR h.re now h.cl rs→rs.length < 64) ∧
  ∀ rows,TickOf h.cl h.re now rows→Q (.lst (rows.map rowD)) [.o C (Hs.fs { h with re:=now }),.v (.int now)]
noncomputable def S_House_next_due (C:Nat):SpO:=fun as Q=>∃ h:Hs,as = [.o C h.fs]∧h.re ≤ 10000000∧h.cl.length < 1000∧(∀ p ∈ h.cl,Ok p.2∧NextOf p.2 h.re none)∧Q .non [.o C h.fs]
theorem l_House_init (C:Nat):∀ as Q,S_House_init C as Q→as.length = 2:=by rintro as Q ⟨_,rfl,_⟩; rfl
theorem l_House_refuse_asleep (C:Nat):∀ as Q,S_House_refuse_asleep C as Q→as.length = 1:=by rintro as Q ⟨_,rfl,_⟩; rfl
theorem l_House_refuse_unknown (C:Nat):∀ as Q,S_House_refuse_unknown C as Q→as.length = 2:=by rintro as Q ⟨_,_,_,rfl,_⟩; rfl
theorem l_House_put (C:Nat):∀ as Q,S_House_put C as Q→as.length = 3:=by rintro as Q ⟨_,_,_,rfl,_⟩; rfl
theorem l_House_clock (C:Nat):∀ as Q,S_House_clock C as Q→as.length = 2:=by rintro as Q ⟨_,_,_,rfl,_⟩; rfl
theorem l_House_drop (C:Nat):∀ as Q,S_House_drop C as Q→as.length = 2:=by rintro as Q ⟨_,_,_,rfl,_⟩; rfl
theorem l_House_tick (C:Nat):∀ as Q,S_House_tick C as Q→as.length = 2:=by rintro as Q ⟨_,_,rfl,_⟩; rfl
theorem l_House_next_due (C:Nat):∀ as Q,S_House_next_due C as Q→as.length = 1:=by rintro as Q ⟨_,rfl,_⟩; rfl
noncomputable def t_House_init (c_House:Nat):TSd:=dSeq (dSetF c_House 0 "reached" ((dVar 1))) (dSeq (dSetD c_House 0 "clocks") (dSetF c_House 0 "asleep" (dC (.bl false))))
theorem r_House_init (C:Nat):∀ (hs:Nat→Nat) as Q,S_House_init C as Q→t_House_init C { nx:=fun δ=>Q .non (outO hs 0 as δ),rt:=fun d δ=>Q d (outO hs 0 as δ) } (startO ["self","now"] hs as):=by
  rintro hs as Q ⟨now,rfl,q⟩
  simp only [t_House_init,Dl.dSetD,Dl.xDGet,Dl.dDPut,Dl.dDPop,Dl.dDIn,Dl.dctOf,Dl.dctR,Dl.fzOf,Dl.keyD,Dl.diItems,Dl.dFz,Dl.pinO,Dl.pinS,Dl.dMeth,Dl.dMake,Dl.aNil,Dl.aCons,Dl.atsOf,Dl.inA,Dl.dX,Dl.xVar,Dl.xFld,Dl.dSetF,Dl.fldOf,Dl.putAt,Dl.fewOf,Dl.setO,Dl.upA_a,Dl.startO,Dl.entO,Dl.slA,Dl.outO,Dl.outA_a,Dl.outA_b,List.head?_cons,decide_true,Bool.and_self,and_self,Dl.dSeq,Dl.dNext,Dl.dIfS,Dl.dB,Dl.dOp,Dl.dVar,Dl.dC,Dl.dLst,Dl.dTup,Dl.dNil,Dl.dCons,Dl.dRet,Dl.dCall,Dl.cMax,Dl.cMin,Dl.dDrop,Dl.dSet,Dl.dOwn,Dl.dFrz,Dl.dAnd,Dl.dOr,Dl.dNot,Dl.dIf,Dl.dNever,Dl.rII,Dl.rIC,Dl.rEqD,Dl.rNeD,Dl.rIsN,Dl.rNotN,Dl.gdTup2,Dl.dExt,Dl.cSorted,Dl.cMinL,Dl.dLstRng,Dl.dYes,Dl.dropOw,Dl.gdName,Dl.startD,List.map_cons,List.map_nil,List.length_cons,List.length_nil,List.cons_append,List.nil_append,List.replicate_zero,List.replicate_succ,Nat.reduceAdd,Nat.reduceSub,List.getElem?_cons_zero,List.getElem?_cons_succ,List.set_cons_zero,List.set_cons_succ,Bool.not_true,Bool.not_false,if_true,if_false,reduceCtorEq,Bool.false_eq_true,Dl.rF,Dl.cLenF,Dl.diSeqF,Dl.dTruF,Option.some.injEq,Dl.eqD_int_int,Dl.eqD_str_str,Dl.eqD_tup_tup,Dl.eqD_lst_lst,Dl.eqDL_nil_nil,Dl.eqDL_cons_nil,Dl.eqDL_cons_cons,Dl.isNonD_non,Dl.isNonD_int,Dl.addF_int,Dl.addF_lst,Dl.ixF_tup,Dl.ixF_lst,Dl.seqF_lst,Dl.truF_bl,Dl.truF_lst,exists_eq_left',Dl.atI_0,Dl.atI_1,Dl.atI_2,Dl.atI_3,decide_eq_true_eq,true_and,Bool.true_and,Dl.okEq_int_int,beq_iff_eq,beq_self_eq_true,beq_eq_false_iff_ne,Bool.not_eq_true',ne_eq,ite_not,Dl.sz0,Dl.sz1,Dl.sz2,Dl.sz4]
  exact ⟨by decide,(by show (1:Nat) < 999; decide),(by show (2:Nat) < 999; decide),q⟩
noncomputable def t_House_refuse_asleep (c_House:Nat):TSd:=dIfS (dTruF ((dX ((xFld c_House 0 "asleep"))))) (dNever) (dNext)
theorem r_House_refuse_asleep (C:Nat):∀ (hs:Nat→Nat) as Q,S_House_refuse_asleep C as Q→t_House_refuse_asleep C { nx:=fun δ=>Q .non (outO hs 0 as δ),rt:=fun d δ=>Q d (outO hs 0 as δ) } (startO ["self"] hs as):=by
  rintro hs as Q ⟨h,rfl,hs',q⟩
  simp only [t_House_refuse_asleep,Hs.f_sl,hs',Dl.dSetD,Dl.xDGet,Dl.dDPut,Dl.dDPop,Dl.dDIn,Dl.dctOf,Dl.dctR,Dl.fzOf,Dl.keyD,Dl.diItems,Dl.dFz,Dl.pinO,Dl.pinS,Dl.dMeth,Dl.dMake,Dl.aNil,Dl.aCons,Dl.atsOf,Dl.inA,Dl.dX,Dl.xVar,Dl.xFld,Dl.dSetF,Dl.fldOf,Dl.putAt,Dl.fewOf,Dl.setO,Dl.upA_a,Dl.startO,Dl.entO,Dl.slA,Dl.outO,Dl.outA_a,Dl.outA_b,List.head?_cons,decide_true,Bool.and_self,and_self,Dl.dSeq,Dl.dNext,Dl.dIfS,Dl.dB,Dl.dOp,Dl.dVar,Dl.dC,Dl.dLst,Dl.dTup,Dl.dNil,Dl.dCons,Dl.dRet,Dl.dCall,Dl.cMax,Dl.cMin,Dl.dDrop,Dl.dSet,Dl.dOwn,Dl.dFrz,Dl.dAnd,Dl.dOr,Dl.dNot,Dl.dIf,Dl.dNever,Dl.rII,Dl.rIC,Dl.rEqD,Dl.rNeD,Dl.rIsN,Dl.rNotN,Dl.gdTup2,Dl.dExt,Dl.cSorted,Dl.cMinL,Dl.dLstRng,Dl.dYes,Dl.dropOw,Dl.gdName,Dl.startD,List.map_cons,List.map_nil,List.length_cons,List.length_nil,List.cons_append,List.nil_append,List.replicate_zero,List.replicate_succ,Nat.reduceAdd,Nat.reduceSub,List.getElem?_cons_zero,List.getElem?_cons_succ,List.set_cons_zero,List.set_cons_succ,Bool.not_true,Bool.not_false,if_true,if_false,reduceCtorEq,Bool.false_eq_true,Dl.rF,Dl.cLenF,Dl.diSeqF,Dl.dTruF,Option.some.injEq,Dl.eqD_int_int,Dl.eqD_str_str,Dl.eqD_tup_tup,Dl.eqD_lst_lst,Dl.eqDL_nil_nil,Dl.eqDL_cons_nil,Dl.eqDL_cons_cons,Dl.isNonD_non,Dl.isNonD_int,Dl.addF_int,Dl.addF_lst,Dl.ixF_tup,Dl.ixF_lst,Dl.seqF_lst,Dl.truF_bl,Dl.truF_lst,exists_eq_left',Dl.atI_0,Dl.atI_1,Dl.atI_2,Dl.atI_3,decide_eq_true_eq,true_and,Bool.true_and,Dl.okEq_int_int,beq_iff_eq,beq_self_eq_true,beq_eq_false_iff_ne,Bool.not_eq_true',ne_eq,ite_not,Dl.sz0,Dl.sz1,Dl.sz2,Dl.sz4]
  exact q
noncomputable def t_House_refuse_unknown (c_House:Nat):TSd:=dIfS (dDIn false c_House 0 "clocks" ((xVar 1))) (dNever) (dNext)
theorem r_House_refuse_unknown (C:Nat):∀ (hs:Nat→Nat) as Q,S_House_refuse_unknown C as Q→t_House_refuse_unknown C { nx:=fun δ=>Q .non (outO hs 0 as δ),rt:=fun d δ=>Q d (outO hs 0 as δ) } (startO ["self","name"] hs as):=by
  rintro hs as Q ⟨h,x,c,rfl,hc,q⟩
  simp only [t_House_refuse_unknown,Hs.f_cl,Dl.dSetD,Dl.xDGet,Dl.dDPut,Dl.dDPop,Dl.dDIn,Dl.dctOf,Dl.dctR,Dl.fzOf,Dl.keyD,Dl.diItems,Dl.dFz,Dl.pinO,Dl.pinS,Dl.dMeth,Dl.dMake,Dl.aNil,Dl.aCons,Dl.atsOf,Dl.inA,Dl.dX,Dl.xVar,Dl.xFld,Dl.dSetF,Dl.fldOf,Dl.putAt,Dl.fewOf,Dl.setO,Dl.upA_a,Dl.startO,Dl.entO,Dl.slA,Dl.outO,Dl.outA_a,Dl.outA_b,List.head?_cons,decide_true,Bool.and_self,and_self,Dl.dSeq,Dl.dNext,Dl.dIfS,Dl.dB,Dl.dOp,Dl.dVar,Dl.dC,Dl.dLst,Dl.dTup,Dl.dNil,Dl.dCons,Dl.dRet,Dl.dCall,Dl.cMax,Dl.cMin,Dl.dDrop,Dl.dSet,Dl.dOwn,Dl.dFrz,Dl.dAnd,Dl.dOr,Dl.dNot,Dl.dIf,Dl.dNever,Dl.rII,Dl.rIC,Dl.rEqD,Dl.rNeD,Dl.rIsN,Dl.rNotN,Dl.gdTup2,Dl.dExt,Dl.cSorted,Dl.cMinL,Dl.dLstRng,Dl.dYes,Dl.dropOw,Dl.gdName,Dl.startD,List.map_cons,List.map_nil,List.length_cons,List.length_nil,List.cons_append,List.nil_append,List.replicate_zero,List.replicate_succ,Nat.reduceAdd,Nat.reduceSub,List.getElem?_cons_zero,List.getElem?_cons_succ,List.set_cons_zero,List.set_cons_succ,Bool.not_true,Bool.not_false,if_true,if_false,reduceCtorEq,Bool.false_eq_true,Dl.rF,Dl.cLenF,Dl.diSeqF,Dl.dTruF,Option.some.injEq,Dl.eqD_int_int,Dl.eqD_str_str,Dl.eqD_tup_tup,Dl.eqD_lst_lst,Dl.eqDL_nil_nil,Dl.eqDL_cons_nil,Dl.eqDL_cons_cons,Dl.isNonD_non,Dl.isNonD_int,Dl.addF_int,Dl.addF_lst,Dl.ixF_tup,Dl.ixF_lst,Dl.seqF_lst,Dl.truF_bl,Dl.truF_lst,exists_eq_left',Dl.atI_0,Dl.atI_1,Dl.atI_2,Dl.atI_3,decide_eq_true_eq,true_and,Bool.true_and,Dl.okEq_int_int,beq_iff_eq,beq_self_eq_true,beq_eq_false_iff_ne,Bool.not_eq_true',ne_eq,ite_not,Dl.sz0,Dl.sz1,Dl.sz2,Dl.sz4]
  rw [valD_kc,hc]
  simp only [Option.map_some,Option.isSome_some,Dl.dSetD,Dl.xDGet,Dl.dDPut,Dl.dDPop,Dl.dDIn,Dl.dctOf,Dl.dctR,Dl.fzOf,Dl.keyD,Dl.diItems,Dl.dFz,Dl.pinO,Dl.pinS,Dl.dMeth,Dl.dMake,Dl.aNil,Dl.aCons,Dl.atsOf,Dl.inA,Dl.dX,Dl.xVar,Dl.xFld,Dl.dSetF,Dl.fldOf,Dl.putAt,Dl.fewOf,Dl.setO,Dl.upA_a,Dl.startO,Dl.entO,Dl.slA,Dl.outO,Dl.outA_a,Dl.outA_b,List.head?_cons,decide_true,Bool.and_self,and_self,Dl.dSeq,Dl.dNext,Dl.dIfS,Dl.dB,Dl.dOp,Dl.dVar,Dl.dC,Dl.dLst,Dl.dTup,Dl.dNil,Dl.dCons,Dl.dRet,Dl.dCall,Dl.cMax,Dl.cMin,Dl.dDrop,Dl.dSet,Dl.dOwn,Dl.dFrz,Dl.dAnd,Dl.dOr,Dl.dNot,Dl.dIf,Dl.dNever,Dl.rII,Dl.rIC,Dl.rEqD,Dl.rNeD,Dl.rIsN,Dl.rNotN,Dl.gdTup2,Dl.dExt,Dl.cSorted,Dl.cMinL,Dl.dLstRng,Dl.dYes,Dl.dropOw,Dl.gdName,Dl.startD,List.map_cons,List.map_nil,List.length_cons,List.length_nil,List.cons_append,List.nil_append,List.replicate_zero,List.replicate_succ,Nat.reduceAdd,Nat.reduceSub,List.getElem?_cons_zero,List.getElem?_cons_succ,List.set_cons_zero,List.set_cons_succ,Bool.not_true,Bool.not_false,if_true,if_false,reduceCtorEq,Bool.false_eq_true,Dl.rF,Dl.cLenF,Dl.diSeqF,Dl.dTruF,Option.some.injEq,Dl.eqD_int_int,Dl.eqD_str_str,Dl.eqD_tup_tup,Dl.eqD_lst_lst,Dl.eqDL_nil_nil,Dl.eqDL_cons_nil,Dl.eqDL_cons_cons,Dl.isNonD_non,Dl.isNonD_int,Dl.addF_int,Dl.addF_lst,Dl.ixF_tup,Dl.ixF_lst,Dl.seqF_lst,Dl.truF_bl,Dl.truF_lst,exists_eq_left',Dl.atI_0,Dl.atI_1,Dl.atI_2,Dl.atI_3,decide_eq_true_eq,true_and,Bool.true_and,Dl.okEq_int_int,beq_iff_eq,beq_self_eq_true,beq_eq_false_iff_ne,Bool.not_eq_true',ne_eq,ite_not,Dl.sz0,Dl.sz1,Dl.sz2,Dl.sz4]
  exact q
noncomputable def t_House_put (c_House:Nat):TSd:=dSeq (dDrop ((dMeth 0 c_House "refuse_asleep" (S_House_refuse_asleep c_House) (aNil)))) (dDPut c_House 0 "clocks" ((xVar 2)) ((xVar 1)))
theorem r_House_put (C:Nat):∀ (hs:Nat→Nat) as Q,S_House_put C as Q→t_House_put C { nx:=fun δ=>Q .non (outO hs 0 as δ),rt:=fun d δ=>Q d (outO hs 0 as δ) } (startO ["self","name","clock"] hs as):=by
  rintro hs as Q ⟨h,x,c,rfl,hs',hl,q⟩
  simp only [t_House_put,Hs.m_ra,nd1,Dl.dSetD,Dl.xDGet,Dl.dDPut,Dl.dDPop,Dl.dDIn,Dl.dctOf,Dl.dctR,Dl.fzOf,Dl.keyD,Dl.diItems,Dl.dFz,Dl.pinO,Dl.pinS,Dl.dMeth,Dl.dMake,Dl.aNil,Dl.aCons,Dl.atsOf,Dl.inA,Dl.dX,Dl.xVar,Dl.xFld,Dl.dSetF,Dl.fldOf,Dl.putAt,Dl.fewOf,Dl.setO,Dl.upA_a,Dl.startO,Dl.entO,Dl.slA,Dl.outO,Dl.outA_a,Dl.outA_b,List.head?_cons,decide_true,Bool.and_self,and_self,Dl.dSeq,Dl.dNext,Dl.dIfS,Dl.dB,Dl.dOp,Dl.dVar,Dl.dC,Dl.dLst,Dl.dTup,Dl.dNil,Dl.dCons,Dl.dRet,Dl.dCall,Dl.cMax,Dl.cMin,Dl.dDrop,Dl.dSet,Dl.dOwn,Dl.dFrz,Dl.dAnd,Dl.dOr,Dl.dNot,Dl.dIf,Dl.dNever,Dl.rII,Dl.rIC,Dl.rEqD,Dl.rNeD,Dl.rIsN,Dl.rNotN,Dl.gdTup2,Dl.dExt,Dl.cSorted,Dl.cMinL,Dl.dLstRng,Dl.dYes,Dl.dropOw,Dl.gdName,Dl.startD,List.map_cons,List.map_nil,List.length_cons,List.length_nil,List.cons_append,List.nil_append,List.replicate_zero,List.replicate_succ,Nat.reduceAdd,Nat.reduceSub,List.getElem?_cons_zero,List.getElem?_cons_succ,List.set_cons_zero,List.set_cons_succ,Bool.not_true,Bool.not_false,if_true,if_false,reduceCtorEq,Bool.false_eq_true,Dl.rF,Dl.cLenF,Dl.diSeqF,Dl.dTruF,Option.some.injEq,Dl.eqD_int_int,Dl.eqD_str_str,Dl.eqD_tup_tup,Dl.eqD_lst_lst,Dl.eqDL_nil_nil,Dl.eqDL_cons_nil,Dl.eqDL_cons_cons,Dl.isNonD_non,Dl.isNonD_int,Dl.addF_int,Dl.addF_lst,Dl.ixF_tup,Dl.ixF_lst,Dl.seqF_lst,Dl.truF_bl,Dl.truF_lst,exists_eq_left',Dl.atI_0,Dl.atI_1,Dl.atI_2,Dl.atI_3,decide_eq_true_eq,true_and,Bool.true_and,Dl.okEq_int_int,beq_iff_eq,beq_self_eq_true,beq_eq_false_iff_ne,Bool.not_eq_true',ne_eq,ite_not,Dl.sz0,Dl.sz1,Dl.sz2,Dl.sz4]
  refine ⟨h,rfl,hs',?_⟩
  simp only [Hs.f_cl,Dl.dSetD,Dl.xDGet,Dl.dDPut,Dl.dDPop,Dl.dDIn,Dl.dctOf,Dl.dctR,Dl.fzOf,Dl.keyD,Dl.diItems,Dl.dFz,Dl.pinO,Dl.pinS,Dl.dMeth,Dl.dMake,Dl.aNil,Dl.aCons,Dl.atsOf,Dl.inA,Dl.dX,Dl.xVar,Dl.xFld,Dl.dSetF,Dl.fldOf,Dl.putAt,Dl.fewOf,Dl.setO,Dl.upA_a,Dl.startO,Dl.entO,Dl.slA,Dl.outO,Dl.outA_a,Dl.outA_b,List.head?_cons,decide_true,Bool.and_self,and_self,Dl.dSeq,Dl.dNext,Dl.dIfS,Dl.dB,Dl.dOp,Dl.dVar,Dl.dC,Dl.dLst,Dl.dTup,Dl.dNil,Dl.dCons,Dl.dRet,Dl.dCall,Dl.cMax,Dl.cMin,Dl.dDrop,Dl.dSet,Dl.dOwn,Dl.dFrz,Dl.dAnd,Dl.dOr,Dl.dNot,Dl.dIf,Dl.dNever,Dl.rII,Dl.rIC,Dl.rEqD,Dl.rNeD,Dl.rIsN,Dl.rNotN,Dl.gdTup2,Dl.dExt,Dl.cSorted,Dl.cMinL,Dl.dLstRng,Dl.dYes,Dl.dropOw,Dl.gdName,Dl.startD,List.map_cons,List.map_nil,List.length_cons,List.length_nil,List.cons_append,List.nil_append,List.replicate_zero,List.replicate_succ,Nat.reduceAdd,Nat.reduceSub,List.getElem?_cons_zero,List.getElem?_cons_succ,List.set_cons_zero,List.set_cons_succ,Bool.not_true,Bool.not_false,if_true,if_false,reduceCtorEq,Bool.false_eq_true,Dl.rF,Dl.cLenF,Dl.diSeqF,Dl.dTruF,Option.some.injEq,Dl.eqD_int_int,Dl.eqD_str_str,Dl.eqD_tup_tup,Dl.eqD_lst_lst,Dl.eqDL_nil_nil,Dl.eqDL_cons_nil,Dl.eqDL_cons_cons,Dl.isNonD_non,Dl.isNonD_int,Dl.addF_int,Dl.addF_lst,Dl.ixF_tup,Dl.ixF_lst,Dl.seqF_lst,Dl.truF_bl,Dl.truF_lst,exists_eq_left',Dl.atI_0,Dl.atI_1,Dl.atI_2,Dl.atI_3,decide_eq_true_eq,true_and,Bool.true_and,Dl.okEq_int_int,beq_iff_eq,beq_self_eq_true,beq_eq_false_iff_ne,Bool.not_eq_true',ne_eq,ite_not,Dl.sz0,Dl.sz1,Dl.sz2,Dl.sz4]
  refine ⟨by rw [List.length_map]; exact sizeLine_big (by omega),?_⟩
  rw [putD_kc,Hs.p_cl]
  exact q
noncomputable def t_House_clock (c_House:Nat):TSd:=dSeq (dDrop ((dMeth 0 c_House "refuse_unknown" (S_House_refuse_unknown c_House) ((aCons ((dVar 1)) (aNil)))))) (dRet ((dX ((xDGet c_House 0 "clocks" ((xVar 1)))))))
theorem r_House_clock (C:Nat):∀ (hs:Nat→Nat) as Q,S_House_clock C as Q→t_House_clock C { nx:=fun δ=>Q .non (outO hs 0 as δ),rt:=fun d δ=>Q d (outO hs 0 as δ) } (startO ["self","name"] hs as):=by
  rintro hs as Q ⟨h,x,c,rfl,hc,q⟩
  simp only [t_House_clock,Hs.m_ru,nd1,Dl.dSetD,Dl.xDGet,Dl.dDPut,Dl.dDPop,Dl.dDIn,Dl.dctOf,Dl.dctR,Dl.fzOf,Dl.keyD,Dl.diItems,Dl.dFz,Dl.pinO,Dl.pinS,Dl.dMeth,Dl.dMake,Dl.aNil,Dl.aCons,Dl.atsOf,Dl.inA,Dl.dX,Dl.xVar,Dl.xFld,Dl.dSetF,Dl.fldOf,Dl.putAt,Dl.fewOf,Dl.setO,Dl.upA_a,Dl.startO,Dl.entO,Dl.slA,Dl.outO,Dl.outA_a,Dl.outA_b,List.head?_cons,decide_true,Bool.and_self,and_self,Dl.dSeq,Dl.dNext,Dl.dIfS,Dl.dB,Dl.dOp,Dl.dVar,Dl.dC,Dl.dLst,Dl.dTup,Dl.dNil,Dl.dCons,Dl.dRet,Dl.dCall,Dl.cMax,Dl.cMin,Dl.dDrop,Dl.dSet,Dl.dOwn,Dl.dFrz,Dl.dAnd,Dl.dOr,Dl.dNot,Dl.dIf,Dl.dNever,Dl.rII,Dl.rIC,Dl.rEqD,Dl.rNeD,Dl.rIsN,Dl.rNotN,Dl.gdTup2,Dl.dExt,Dl.cSorted,Dl.cMinL,Dl.dLstRng,Dl.dYes,Dl.dropOw,Dl.gdName,Dl.startD,List.map_cons,List.map_nil,List.length_cons,List.length_nil,List.cons_append,List.nil_append,List.replicate_zero,List.replicate_succ,Nat.reduceAdd,Nat.reduceSub,List.getElem?_cons_zero,List.getElem?_cons_succ,List.set_cons_zero,List.set_cons_succ,Bool.not_true,Bool.not_false,if_true,if_false,reduceCtorEq,Bool.false_eq_true,Dl.rF,Dl.cLenF,Dl.diSeqF,Dl.dTruF,Option.some.injEq,Dl.eqD_int_int,Dl.eqD_str_str,Dl.eqD_tup_tup,Dl.eqD_lst_lst,Dl.eqDL_nil_nil,Dl.eqDL_cons_nil,Dl.eqDL_cons_cons,Dl.isNonD_non,Dl.isNonD_int,Dl.addF_int,Dl.addF_lst,Dl.ixF_tup,Dl.ixF_lst,Dl.seqF_lst,Dl.truF_bl,Dl.truF_lst,exists_eq_left',Dl.atI_0,Dl.atI_1,Dl.atI_2,Dl.atI_3,decide_eq_true_eq,true_and,Bool.true_and,Dl.okEq_int_int,beq_iff_eq,beq_self_eq_true,beq_eq_false_iff_ne,Bool.not_eq_true',ne_eq,ite_not,Dl.sz0,Dl.sz1,Dl.sz2,Dl.sz4]
  refine ⟨h,x,c,rfl,hc,?_⟩
  simp only [Hs.f_cl,Dl.dSetD,Dl.xDGet,Dl.dDPut,Dl.dDPop,Dl.dDIn,Dl.dctOf,Dl.dctR,Dl.fzOf,Dl.keyD,Dl.diItems,Dl.dFz,Dl.pinO,Dl.pinS,Dl.dMeth,Dl.dMake,Dl.aNil,Dl.aCons,Dl.atsOf,Dl.inA,Dl.dX,Dl.xVar,Dl.xFld,Dl.dSetF,Dl.fldOf,Dl.putAt,Dl.fewOf,Dl.setO,Dl.upA_a,Dl.startO,Dl.entO,Dl.slA,Dl.outO,Dl.outA_a,Dl.outA_b,List.head?_cons,decide_true,Bool.and_self,and_self,Dl.dSeq,Dl.dNext,Dl.dIfS,Dl.dB,Dl.dOp,Dl.dVar,Dl.dC,Dl.dLst,Dl.dTup,Dl.dNil,Dl.dCons,Dl.dRet,Dl.dCall,Dl.cMax,Dl.cMin,Dl.dDrop,Dl.dSet,Dl.dOwn,Dl.dFrz,Dl.dAnd,Dl.dOr,Dl.dNot,Dl.dIf,Dl.dNever,Dl.rII,Dl.rIC,Dl.rEqD,Dl.rNeD,Dl.rIsN,Dl.rNotN,Dl.gdTup2,Dl.dExt,Dl.cSorted,Dl.cMinL,Dl.dLstRng,Dl.dYes,Dl.dropOw,Dl.gdName,Dl.startD,List.map_cons,List.map_nil,List.length_cons,List.length_nil,List.cons_append,List.nil_append,List.replicate_zero,List.replicate_succ,Nat.reduceAdd,Nat.reduceSub,List.getElem?_cons_zero,List.getElem?_cons_succ,List.set_cons_zero,List.set_cons_succ,Bool.not_true,Bool.not_false,if_true,if_false,reduceCtorEq,Bool.false_eq_true,Dl.rF,Dl.cLenF,Dl.diSeqF,Dl.dTruF,Option.some.injEq,Dl.eqD_int_int,Dl.eqD_str_str,Dl.eqD_tup_tup,Dl.eqD_lst_lst,Dl.eqDL_nil_nil,Dl.eqDL_cons_nil,Dl.eqDL_cons_cons,Dl.isNonD_non,Dl.isNonD_int,Dl.addF_int,Dl.addF_lst,Dl.ixF_tup,Dl.ixF_lst,Dl.seqF_lst,Dl.truF_bl,Dl.truF_lst,exists_eq_left',Dl.atI_0,Dl.atI_1,Dl.atI_2,Dl.atI_3,decide_eq_true_eq,true_and,Bool.true_and,Dl.okEq_int_int,beq_iff_eq,beq_self_eq_true,beq_eq_false_iff_ne,Bool.not_eq_true',ne_eq,ite_not,Dl.sz0,Dl.sz1,Dl.sz2,Dl.sz4]
  exact ⟨_,_,rfl,by rw [valD_kc,hc]; rfl,q⟩
noncomputable def t_House_drop (c_House:Nat):TSd:=dSeq (dDrop ((dMeth 0 c_House "refuse_asleep" (S_House_refuse_asleep c_House) (aNil)))) (dSeq (dDrop ((dMeth 0 c_House "refuse_unknown" (S_House_refuse_unknown c_House) ((aCons ((dVar 1)) (aNil)))))) (dDPop c_House 0 "clocks" ((xVar 1))))
theorem r_House_drop (C:Nat):∀ (hs:Nat→Nat) as Q,S_House_drop C as Q→t_House_drop C { nx:=fun δ=>Q .non (outO hs 0 as δ),rt:=fun d δ=>Q d (outO hs 0 as δ) } (startO ["self","name"] hs as):=by
  rintro hs as Q ⟨h,x,c,rfl,hs',hc,q⟩
  simp only [t_House_drop,Hs.m_ru,Hs.m_ra,nd1,Dl.dSetD,Dl.xDGet,Dl.dDPut,Dl.dDPop,Dl.dDIn,Dl.dctOf,Dl.dctR,Dl.fzOf,Dl.keyD,Dl.diItems,Dl.dFz,Dl.pinO,Dl.pinS,Dl.dMeth,Dl.dMake,Dl.aNil,Dl.aCons,Dl.atsOf,Dl.inA,Dl.dX,Dl.xVar,Dl.xFld,Dl.dSetF,Dl.fldOf,Dl.putAt,Dl.fewOf,Dl.setO,Dl.upA_a,Dl.startO,Dl.entO,Dl.slA,Dl.outO,Dl.outA_a,Dl.outA_b,List.head?_cons,decide_true,Bool.and_self,and_self,Dl.dSeq,Dl.dNext,Dl.dIfS,Dl.dB,Dl.dOp,Dl.dVar,Dl.dC,Dl.dLst,Dl.dTup,Dl.dNil,Dl.dCons,Dl.dRet,Dl.dCall,Dl.cMax,Dl.cMin,Dl.dDrop,Dl.dSet,Dl.dOwn,Dl.dFrz,Dl.dAnd,Dl.dOr,Dl.dNot,Dl.dIf,Dl.dNever,Dl.rII,Dl.rIC,Dl.rEqD,Dl.rNeD,Dl.rIsN,Dl.rNotN,Dl.gdTup2,Dl.dExt,Dl.cSorted,Dl.cMinL,Dl.dLstRng,Dl.dYes,Dl.dropOw,Dl.gdName,Dl.startD,List.map_cons,List.map_nil,List.length_cons,List.length_nil,List.cons_append,List.nil_append,List.replicate_zero,List.replicate_succ,Nat.reduceAdd,Nat.reduceSub,List.getElem?_cons_zero,List.getElem?_cons_succ,List.set_cons_zero,List.set_cons_succ,Bool.not_true,Bool.not_false,if_true,if_false,reduceCtorEq,Bool.false_eq_true,Dl.rF,Dl.cLenF,Dl.diSeqF,Dl.dTruF,Option.some.injEq,Dl.eqD_int_int,Dl.eqD_str_str,Dl.eqD_tup_tup,Dl.eqD_lst_lst,Dl.eqDL_nil_nil,Dl.eqDL_cons_nil,Dl.eqDL_cons_cons,Dl.isNonD_non,Dl.isNonD_int,Dl.addF_int,Dl.addF_lst,Dl.ixF_tup,Dl.ixF_lst,Dl.seqF_lst,Dl.truF_bl,Dl.truF_lst,exists_eq_left',Dl.atI_0,Dl.atI_1,Dl.atI_2,Dl.atI_3,decide_eq_true_eq,true_and,Bool.true_and,Dl.okEq_int_int,beq_iff_eq,beq_self_eq_true,beq_eq_false_iff_ne,Bool.not_eq_true',ne_eq,ite_not,Dl.sz0,Dl.sz1,Dl.sz2,Dl.sz4]
  refine ⟨h,rfl,hs',?_⟩
  simp only [Hs.m_ru,nd1,Dl.dSetD,Dl.xDGet,Dl.dDPut,Dl.dDPop,Dl.dDIn,Dl.dctOf,Dl.dctR,Dl.fzOf,Dl.keyD,Dl.diItems,Dl.dFz,Dl.pinO,Dl.pinS,Dl.dMeth,Dl.dMake,Dl.aNil,Dl.aCons,Dl.atsOf,Dl.inA,Dl.dX,Dl.xVar,Dl.xFld,Dl.dSetF,Dl.fldOf,Dl.putAt,Dl.fewOf,Dl.setO,Dl.upA_a,Dl.startO,Dl.entO,Dl.slA,Dl.outO,Dl.outA_a,Dl.outA_b,List.head?_cons,decide_true,Bool.and_self,and_self,Dl.dSeq,Dl.dNext,Dl.dIfS,Dl.dB,Dl.dOp,Dl.dVar,Dl.dC,Dl.dLst,Dl.dTup,Dl.dNil,Dl.dCons,Dl.dRet,Dl.dCall,Dl.cMax,Dl.cMin,Dl.dDrop,Dl.dSet,Dl.dOwn,Dl.dFrz,Dl.dAnd,Dl.dOr,Dl.dNot,Dl.dIf,Dl.dNever,Dl.rII,Dl.rIC,Dl.rEqD,Dl.rNeD,Dl.rIsN,Dl.rNotN,Dl.gdTup2,Dl.dExt,Dl.cSorted,Dl.cMinL,Dl.dLstRng,Dl.dYes,Dl.dropOw,Dl.gdName,Dl.startD,List.map_cons,List.map_nil,List.length_cons,List.length_nil,List.cons_append,List.nil_append,List.replicate_zero,List.replicate_succ,Nat.reduceAdd,Nat.reduceSub,List.getElem?_cons_zero,List.getElem?_cons_succ,List.set_cons_zero,List.set_cons_succ,Bool.not_true,Bool.not_false,if_true,if_false,reduceCtorEq,Bool.false_eq_true,Dl.rF,Dl.cLenF,Dl.diSeqF,Dl.dTruF,Option.some.injEq,Dl.eqD_int_int,Dl.eqD_str_str,Dl.eqD_tup_tup,Dl.eqD_lst_lst,Dl.eqDL_nil_nil,Dl.eqDL_cons_nil,Dl.eqDL_cons_cons,Dl.isNonD_non,Dl.isNonD_int,Dl.addF_int,Dl.addF_lst,Dl.ixF_tup,Dl.ixF_lst,Dl.seqF_lst,Dl.truF_bl,Dl.truF_lst,exists_eq_left',Dl.atI_0,Dl.atI_1,Dl.atI_2,Dl.atI_3,decide_eq_true_eq,true_and,Bool.true_and,Dl.okEq_int_int,beq_iff_eq,beq_self_eq_true,beq_eq_false_iff_ne,Bool.not_eq_true',ne_eq,ite_not,Dl.sz0,Dl.sz1,Dl.sz2,Dl.sz4]
  refine ⟨h,x,c,rfl,hc,?_⟩
  simp only [Hs.f_cl,Dl.dSetD,Dl.xDGet,Dl.dDPut,Dl.dDPop,Dl.dDIn,Dl.dctOf,Dl.dctR,Dl.fzOf,Dl.keyD,Dl.diItems,Dl.dFz,Dl.pinO,Dl.pinS,Dl.dMeth,Dl.dMake,Dl.aNil,Dl.aCons,Dl.atsOf,Dl.inA,Dl.dX,Dl.xVar,Dl.xFld,Dl.dSetF,Dl.fldOf,Dl.putAt,Dl.fewOf,Dl.setO,Dl.upA_a,Dl.startO,Dl.entO,Dl.slA,Dl.outO,Dl.outA_a,Dl.outA_b,List.head?_cons,decide_true,Bool.and_self,and_self,Dl.dSeq,Dl.dNext,Dl.dIfS,Dl.dB,Dl.dOp,Dl.dVar,Dl.dC,Dl.dLst,Dl.dTup,Dl.dNil,Dl.dCons,Dl.dRet,Dl.dCall,Dl.cMax,Dl.cMin,Dl.dDrop,Dl.dSet,Dl.dOwn,Dl.dFrz,Dl.dAnd,Dl.dOr,Dl.dNot,Dl.dIf,Dl.dNever,Dl.rII,Dl.rIC,Dl.rEqD,Dl.rNeD,Dl.rIsN,Dl.rNotN,Dl.gdTup2,Dl.dExt,Dl.cSorted,Dl.cMinL,Dl.dLstRng,Dl.dYes,Dl.dropOw,Dl.gdName,Dl.startD,List.map_cons,List.map_nil,List.length_cons,List.length_nil,List.cons_append,List.nil_append,List.replicate_zero,List.replicate_succ,Nat.reduceAdd,Nat.reduceSub,List.getElem?_cons_zero,List.getElem?_cons_succ,List.set_cons_zero,List.set_cons_succ,Bool.not_true,Bool.not_false,if_true,if_false,reduceCtorEq,Bool.false_eq_true,Dl.rF,Dl.cLenF,Dl.diSeqF,Dl.dTruF,Option.some.injEq,Dl.eqD_int_int,Dl.eqD_str_str,Dl.eqD_tup_tup,Dl.eqD_lst_lst,Dl.eqDL_nil_nil,Dl.eqDL_cons_nil,Dl.eqDL_cons_cons,Dl.isNonD_non,Dl.isNonD_int,Dl.addF_int,Dl.addF_lst,Dl.ixF_tup,Dl.ixF_lst,Dl.seqF_lst,Dl.truF_bl,Dl.truF_lst,exists_eq_left',Dl.atI_0,Dl.atI_1,Dl.atI_2,Dl.atI_3,decide_eq_true_eq,true_and,Bool.true_and,Dl.okEq_int_int,beq_iff_eq,beq_self_eq_true,beq_eq_false_iff_ne,Bool.not_eq_true',ne_eq,ite_not,Dl.sz0,Dl.sz1,Dl.sz2,Dl.sz4]
  refine ⟨_,_,rfl,by rw [valD_kc,hc]; rfl,?_⟩
  rw [dropD_kc,Hs.p_cl]
  exact q
end Law
namespace Law
open PySem L2 Dl Rg
theorem items_get {cl:List (Str × Ck)} {j:Nat} {d:D} (h:(itemsL (cl.map kc))[j]? = some d):∃ p,cl[j]? = some p∧d = .tup [.str p.1,ckD p.2]:=by
  unfold itemsL at h
  rw [List.getElem?_map,List.getElem?_map] at h
  cases e:cl[j]? with
  | none=>rw [e] at h; cases h
  | some p=>rw [e] at h; cases h; exact ⟨p,rfl,rfl⟩
theorem items_len (cl:List (Str × Ck)):(itemsL (cl.map kc)).length = cl.length:=by simp [itemsL]
noncomputable def t_House_tick_5 (c_House:Nat):TSd:=dRet ((dCall cSortK ((dCons ((dVar 2)) (dNil)))))
noncomputable def t_House_tick_4 (c_House:Nat):TSd:=dFrz 2 (dSeq (dSetF c_House 0 "reached" ((dVar 1))) ((t_House_tick_5 c_House)))
noncomputable def t_House_tick_3 (c_House:Nat):TSd:=dSeq (dFz c_House 0 "clocks" (dFor (diItems c_House 0 "clocks") (gdTup2 3 4) (dExt 2 ((dComp 1 (diSeqF ((dCall S_rings ((dCons ((dVar 4)) ((dCons ((dX ((xFld c_House 0 "reached")))) ((dCons ((dVar 1)) (dNil)))))))))) (gdName 5) (dYes) ((dTup ((dCons ((dVar 5)) ((dCons ((dVar 3)) (dNil)))))))))))) ((t_House_tick_4 c_House))
noncomputable def t_House_tick_2 (c_House:Nat):TSd:=dSeq (dOwn 2 (dNil)) ((t_House_tick_3 c_House))
noncomputable def t_House_tick_1 (c_House:Nat):TSd:=dSeq (dDrop ((dCall S_refuse_early ((dCons ((dX ((xFld c_House 0 "reached")))) ((dCons ((dVar 1)) (dNil)))))))) ((t_House_tick_2 c_House))
noncomputable def t_House_tick (c_House:Nat):TSd:=dSeq (dDrop ((dMeth 0 c_House "refuse_asleep" (S_House_refuse_asleep c_House) (aNil)))) ((t_House_tick_1 c_House))
theorem r_House_tick (C:Nat):∀ (hs:Nat→Nat) as Q,S_House_tick C as Q→t_House_tick C { nx:=fun δ=>Q .non (outO hs 0 as δ),rt:=fun d δ=>Q d (outO hs 0 as δ) } (startO ["self","now","told","name","clock"] hs as):=by
  rintro hs as Q ⟨h,now,rfl,hsl,hre,hnow,hok,hlen,q⟩
  simp only [t_House_tick,t_House_tick_1,t_House_tick_2,t_House_tick_3,t_House_tick_4,t_House_tick_5,Hs.m_ra,nd1,Dl.dSetD,Dl.xDGet,Dl.dDPut,Dl.dDPop,Dl.dDIn,Dl.dctOf,Dl.dctR,Dl.fzOf,Dl.keyD,Dl.diItems,Dl.dFz,Dl.pinO,Dl.pinS,Dl.dMeth,Dl.dMake,Dl.aNil,Dl.aCons,Dl.atsOf,Dl.inA,Dl.dX,Dl.xVar,Dl.xFld,Dl.dSetF,Dl.fldOf,Dl.putAt,Dl.fewOf,Dl.setO,Dl.upA_a,Dl.startO,Dl.entO,Dl.slA,Dl.outO,Dl.outA_a,Dl.outA_b,List.head?_cons,decide_true,Bool.and_self,and_self,Dl.dSeq,Dl.dNext,Dl.dIfS,Dl.dB,Dl.dOp,Dl.dVar,Dl.dC,Dl.dLst,Dl.dTup,Dl.dNil,Dl.dCons,Dl.dRet,Dl.dCall,Dl.cMax,Dl.cMin,Dl.dDrop,Dl.dSet,Dl.dOwn,Dl.dFrz,Dl.dAnd,Dl.dOr,Dl.dNot,Dl.dIf,Dl.dNever,Dl.rII,Dl.rIC,Dl.rEqD,Dl.rNeD,Dl.rIsN,Dl.rNotN,Dl.gdTup2,Dl.dExt,Dl.cSorted,Dl.cMinL,Dl.dLstRng,Dl.dYes,Dl.dropOw,Dl.gdName,Dl.startD,List.map_cons,List.map_nil,List.length_cons,List.length_nil,List.cons_append,List.nil_append,List.replicate_zero,List.replicate_succ,Nat.reduceAdd,Nat.reduceSub,List.getElem?_cons_zero,List.getElem?_cons_succ,List.set_cons_zero,List.set_cons_succ,Bool.not_true,Bool.not_false,if_true,if_false,reduceCtorEq,Bool.false_eq_true,Dl.rF,Dl.cLenF,Dl.diSeqF,Dl.dTruF,Option.some.injEq,Dl.eqD_int_int,Dl.eqD_str_str,Dl.eqD_tup_tup,Dl.eqD_lst_lst,Dl.eqDL_nil_nil,Dl.eqDL_cons_nil,Dl.eqDL_cons_cons,Dl.isNonD_non,Dl.isNonD_int,Dl.addF_int,Dl.addF_lst,Dl.ixF_tup,Dl.ixF_lst,Dl.seqF_lst,Dl.truF_bl,Dl.truF_lst,exists_eq_left',Dl.atI_0,Dl.atI_1,Dl.atI_2,Dl.atI_3,decide_eq_true_eq,true_and,Bool.true_and,Dl.okEq_int_int,beq_iff_eq,beq_self_eq_true,beq_eq_false_iff_ne,Bool.not_eq_true',ne_eq,ite_not,Dl.sz0,Dl.sz1,Dl.sz2,Dl.sz4]
  refine ⟨h,rfl,hsl,?_⟩
  simp only [Hs.f_re,Dl.dSetD,Dl.xDGet,Dl.dDPut,Dl.dDPop,Dl.dDIn,Dl.dctOf,Dl.dctR,Dl.fzOf,Dl.keyD,Dl.diItems,Dl.dFz,Dl.pinO,Dl.pinS,Dl.dMeth,Dl.dMake,Dl.aNil,Dl.aCons,Dl.atsOf,Dl.inA,Dl.dX,Dl.xVar,Dl.xFld,Dl.dSetF,Dl.fldOf,Dl.putAt,Dl.fewOf,Dl.setO,Dl.upA_a,Dl.startO,Dl.entO,Dl.slA,Dl.outO,Dl.outA_a,Dl.outA_b,List.head?_cons,decide_true,Bool.and_self,and_self,Dl.dSeq,Dl.dNext,Dl.dIfS,Dl.dB,Dl.dOp,Dl.dVar,Dl.dC,Dl.dLst,Dl.dTup,Dl.dNil,Dl.dCons,Dl.dRet,Dl.dCall,Dl.cMax,Dl.cMin,Dl.dDrop,Dl.dSet,Dl.dOwn,Dl.dFrz,Dl.dAnd,Dl.dOr,Dl.dNot,Dl.dIf,Dl.dNever,Dl.rII,Dl.rIC,Dl.rEqD,Dl.rNeD,Dl.rIsN,Dl.rNotN,Dl.gdTup2,Dl.dExt,Dl.cSorted,Dl.cMinL,Dl.dLstRng,Dl.dYes,Dl.dropOw,Dl.gdName,Dl.startD,List.map_cons,List.map_nil,List.length_cons,List.length_nil,List.cons_append,List.nil_append,List.replicate_zero,List.replicate_succ,Nat.reduceAdd,Nat.reduceSub,List.getElem?_cons_zero,List.getElem?_cons_succ,List.set_cons_zero,List.set_cons_succ,Bool.not_true,Bool.not_false,if_true,if_false,reduceCtorEq,Bool.false_eq_true,Dl.rF,Dl.cLenF,Dl.diSeqF,Dl.dTruF,Option.some.injEq,Dl.eqD_int_int,Dl.eqD_str_str,Dl.eqD_tup_tup,Dl.eqD_lst_lst,Dl.eqDL_nil_nil,Dl.eqDL_cons_nil,Dl.eqDL_cons_cons,Dl.isNonD_non,Dl.isNonD_int,Dl.addF_int,Dl.addF_lst,Dl.ixF_tup,Dl.ixF_lst,Dl.seqF_lst,Dl.truF_bl,Dl.truF_lst,exists_eq_left',Dl.atI_0,Dl.atI_1,Dl.atI_2,Dl.atI_3,decide_eq_true_eq,true_and,Bool.true_and,Dl.okEq_int_int,beq_iff_eq,beq_self_eq_true,beq_eq_false_iff_ne,Bool.not_eq_true',ne_eq,ite_not,Dl.sz0,Dl.sz1,Dl.sz2,Dl.sz4]
  refine ⟨some h.re,now,rfl,fun s e=>by cases e; exact hre,?_⟩
  simp only [Hs.f_cl,Hs.p_fz,Dl.dSetD,Dl.xDGet,Dl.dDPut,Dl.dDPop,Dl.dDIn,Dl.dctOf,Dl.dctR,Dl.fzOf,Dl.keyD,Dl.diItems,Dl.dFz,Dl.pinO,Dl.pinS,Dl.dMeth,Dl.dMake,Dl.aNil,Dl.aCons,Dl.atsOf,Dl.inA,Dl.dX,Dl.xVar,Dl.xFld,Dl.dSetF,Dl.fldOf,Dl.putAt,Dl.fewOf,Dl.setO,Dl.upA_a,Dl.startO,Dl.entO,Dl.slA,Dl.outO,Dl.outA_a,Dl.outA_b,List.head?_cons,decide_true,Bool.and_self,and_self,Dl.dSeq,Dl.dNext,Dl.dIfS,Dl.dB,Dl.dOp,Dl.dVar,Dl.dC,Dl.dLst,Dl.dTup,Dl.dNil,Dl.dCons,Dl.dRet,Dl.dCall,Dl.cMax,Dl.cMin,Dl.dDrop,Dl.dSet,Dl.dOwn,Dl.dFrz,Dl.dAnd,Dl.dOr,Dl.dNot,Dl.dIf,Dl.dNever,Dl.rII,Dl.rIC,Dl.rEqD,Dl.rNeD,Dl.rIsN,Dl.rNotN,Dl.gdTup2,Dl.dExt,Dl.cSorted,Dl.cMinL,Dl.dLstRng,Dl.dYes,Dl.dropOw,Dl.gdName,Dl.startD,List.map_cons,List.map_nil,List.length_cons,List.length_nil,List.cons_append,List.nil_append,List.replicate_zero,List.replicate_succ,Nat.reduceAdd,Nat.reduceSub,List.getElem?_cons_zero,List.getElem?_cons_succ,List.set_cons_zero,List.set_cons_succ,Bool.not_true,Bool.not_false,if_true,if_false,reduceCtorEq,Bool.false_eq_true,Dl.rF,Dl.cLenF,Dl.diSeqF,Dl.dTruF,Option.some.injEq,Dl.eqD_int_int,Dl.eqD_str_str,Dl.eqD_tup_tup,Dl.eqD_lst_lst,Dl.eqDL_nil_nil,Dl.eqDL_cons_nil,Dl.eqDL_cons_cons,Dl.isNonD_non,Dl.isNonD_int,Dl.addF_int,Dl.addF_lst,Dl.ixF_tup,Dl.ixF_lst,Dl.seqF_lst,Dl.truF_bl,Dl.truF_lst,exists_eq_left',Dl.atI_0,Dl.atI_1,Dl.atI_2,Dl.atI_3,decide_eq_true_eq,true_and,Bool.true_and,Dl.okEq_int_int,beq_iff_eq,beq_self_eq_true,beq_eq_false_iff_ne,Bool.not_eq_true',ne_eq,ite_not,Dl.sz0,Dl.sz1,Dl.sz2,Dl.sz4]
  intro fq
  refine dFor_by (fun j δ=>∃ (s3 s4:Sl) (rs:List (Int × Str)),δ = [.ob (some (hs 0)) C (h.fz fq),.sh (.int now),.ow (rs.map rowD),s3,s4]∧nfS s3 = true∧nfS s4 = true∧AllR h.re now (h.cl.take j) rs) (itemsL (h.cl.map kc)) _ (fun Q h1=>?_) ⟨.no,.no,[],rfl,rfl,rfl,rfl⟩ ?_ ?_
  · simp only [Hs.z_cl,Dl.dSetD,Dl.xDGet,Dl.dDPut,Dl.dDPop,Dl.dDIn,Dl.dctOf,Dl.dctR,Dl.fzOf,Dl.keyD,Dl.diItems,Dl.dFz,Dl.pinO,Dl.pinS,Dl.dMeth,Dl.dMake,Dl.aNil,Dl.aCons,Dl.atsOf,Dl.inA,Dl.dX,Dl.xVar,Dl.xFld,Dl.dSetF,Dl.fldOf,Dl.putAt,Dl.fewOf,Dl.setO,Dl.upA_a,Dl.startO,Dl.entO,Dl.slA,Dl.outO,Dl.outA_a,Dl.outA_b,List.head?_cons,decide_true,Bool.and_self,and_self,Dl.dSeq,Dl.dNext,Dl.dIfS,Dl.dB,Dl.dOp,Dl.dVar,Dl.dC,Dl.dLst,Dl.dTup,Dl.dNil,Dl.dCons,Dl.dRet,Dl.dCall,Dl.cMax,Dl.cMin,Dl.dDrop,Dl.dSet,Dl.dOwn,Dl.dFrz,Dl.dAnd,Dl.dOr,Dl.dNot,Dl.dIf,Dl.dNever,Dl.rII,Dl.rIC,Dl.rEqD,Dl.rNeD,Dl.rIsN,Dl.rNotN,Dl.gdTup2,Dl.dExt,Dl.cSorted,Dl.cMinL,Dl.dLstRng,Dl.dYes,Dl.dropOw,Dl.gdName,Dl.startD,List.map_cons,List.map_nil,List.length_cons,List.length_nil,List.cons_append,List.nil_append,List.replicate_zero,List.replicate_succ,Nat.reduceAdd,Nat.reduceSub,List.getElem?_cons_zero,List.getElem?_cons_succ,List.set_cons_zero,List.set_cons_succ,Bool.not_true,Bool.not_false,if_true,if_false,reduceCtorEq,Bool.false_eq_true,Dl.rF,Dl.cLenF,Dl.diSeqF,Dl.dTruF,Option.some.injEq,Dl.eqD_int_int,Dl.eqD_str_str,Dl.eqD_tup_tup,Dl.eqD_lst_lst,Dl.eqDL_nil_nil,Dl.eqDL_cons_nil,Dl.eqDL_cons_cons,Dl.isNonD_non,Dl.isNonD_int,Dl.addF_int,Dl.addF_lst,Dl.ixF_tup,Dl.ixF_lst,Dl.seqF_lst,Dl.truF_bl,Dl.truF_lst,exists_eq_left',Dl.atI_0,Dl.atI_1,Dl.atI_2,Dl.atI_3,decide_eq_true_eq,true_and,Bool.true_and,Dl.okEq_int_int,beq_iff_eq,beq_self_eq_true,beq_eq_false_iff_ne,Bool.not_eq_true',ne_eq,ite_not,Dl.sz0,Dl.sz1,Dl.sz2,Dl.sz4]; exact h1
  · rintro j d δ hj ⟨s3,s4,rs,rfl,n3,n4,hr⟩
    obtain ⟨p,hp,rfl⟩:=items_get hj
    have okp:=hok p (List.mem_of_getElem? hp)
    simp only [Dl.dSeq,Dl.dSetD,Dl.xDGet,Dl.dDPut,Dl.dDPop,Dl.dDIn,Dl.dctOf,Dl.dctR,Dl.fzOf,Dl.keyD,Dl.diItems,Dl.dFz,Dl.pinO,Dl.pinS,Dl.dMeth,Dl.dMake,Dl.aNil,Dl.aCons,Dl.atsOf,Dl.inA,Dl.dX,Dl.xVar,Dl.xFld,Dl.dSetF,Dl.fldOf,Dl.putAt,Dl.fewOf,Dl.setO,Dl.upA_a,Dl.startO,Dl.entO,Dl.slA,Dl.outO,Dl.outA_a,Dl.outA_b,List.head?_cons,decide_true,Bool.and_self,and_self,Dl.dSeq,Dl.dNext,Dl.dIfS,Dl.dB,Dl.dOp,Dl.dVar,Dl.dC,Dl.dLst,Dl.dTup,Dl.dNil,Dl.dCons,Dl.dRet,Dl.dCall,Dl.cMax,Dl.cMin,Dl.dDrop,Dl.dSet,Dl.dOwn,Dl.dFrz,Dl.dAnd,Dl.dOr,Dl.dNot,Dl.dIf,Dl.dNever,Dl.rII,Dl.rIC,Dl.rEqD,Dl.rNeD,Dl.rIsN,Dl.rNotN,Dl.gdTup2,Dl.dExt,Dl.cSorted,Dl.cMinL,Dl.dLstRng,Dl.dYes,Dl.dropOw,Dl.gdName,Dl.startD,List.map_cons,List.map_nil,List.length_cons,List.length_nil,List.cons_append,List.nil_append,List.replicate_zero,List.replicate_succ,Nat.reduceAdd,Nat.reduceSub,List.getElem?_cons_zero,List.getElem?_cons_succ,List.set_cons_zero,List.set_cons_succ,Bool.not_true,Bool.not_false,if_true,if_false,reduceCtorEq,Bool.false_eq_true,Dl.rF,Dl.cLenF,Dl.diSeqF,Dl.dTruF,Option.some.injEq,Dl.eqD_int_int,Dl.eqD_str_str,Dl.eqD_tup_tup,Dl.eqD_lst_lst,Dl.eqDL_nil_nil,Dl.eqDL_cons_nil,Dl.eqDL_cons_cons,Dl.isNonD_non,Dl.isNonD_int,Dl.addF_int,Dl.addF_lst,Dl.ixF_tup,Dl.ixF_lst,Dl.seqF_lst,Dl.truF_bl,Dl.truF_lst,exists_eq_left',Dl.atI_0,Dl.atI_1,Dl.atI_2,Dl.atI_3,decide_eq_true_eq,true_and,Bool.true_and,Dl.okEq_int_int,beq_iff_eq,beq_self_eq_true,beq_eq_false_iff_ne,Bool.not_eq_true',ne_eq,ite_not,Dl.sz0,Dl.sz1,Dl.sz2,Dl.sz4]
    obtain ⟨l,hl⟩:=rings_exist p.2 h.re now
    have tk:h.cl.take (j + 1) = h.cl.take j ++ [p]:=by rw [List.take_add_one,hp]; rfl
    have hr':=allR_snoc hl hr
    have small:rs.length + l.length < 64:=by
      obtain ⟨ms,g1,g2⟩:=allR_app (cm:=h.cl.drop (j + 1)) hr'
      rw [← tk,List.take_append_drop] at g1
      have:=hlen ms g1
      rw [List.length_append,List.length_map] at g2
      omega
    refine dComp_at (iL l) (mapD fun t=>rowD (t,p.1)) (fun Q h1=>?_) (fun d hd=>?_) ?_ ?_
    · simp only [Hs.z_re,Dl.dSetD,Dl.xDGet,Dl.dDPut,Dl.dDPop,Dl.dDIn,Dl.dctOf,Dl.dctR,Dl.fzOf,Dl.keyD,Dl.diItems,Dl.dFz,Dl.pinO,Dl.pinS,Dl.dMeth,Dl.dMake,Dl.aNil,Dl.aCons,Dl.atsOf,Dl.inA,Dl.dX,Dl.xVar,Dl.xFld,Dl.dSetF,Dl.fldOf,Dl.putAt,Dl.fewOf,Dl.setO,Dl.upA_a,Dl.startO,Dl.entO,Dl.slA,Dl.outO,Dl.outA_a,Dl.outA_b,List.head?_cons,decide_true,Bool.and_self,and_self,Dl.dSeq,Dl.dNext,Dl.dIfS,Dl.dB,Dl.dOp,Dl.dVar,Dl.dC,Dl.dLst,Dl.dTup,Dl.dNil,Dl.dCons,Dl.dRet,Dl.dCall,Dl.cMax,Dl.cMin,Dl.dDrop,Dl.dSet,Dl.dOwn,Dl.dFrz,Dl.dAnd,Dl.dOr,Dl.dNot,Dl.dIf,Dl.dNever,Dl.rII,Dl.rIC,Dl.rEqD,Dl.rNeD,Dl.rIsN,Dl.rNotN,Dl.gdTup2,Dl.dExt,Dl.cSorted,Dl.cMinL,Dl.dLstRng,Dl.dYes,Dl.dropOw,Dl.gdName,Dl.startD,List.map_cons,List.map_nil,List.length_cons,List.length_nil,List.cons_append,List.nil_append,List.replicate_zero,List.replicate_succ,Nat.reduceAdd,Nat.reduceSub,List.getElem?_cons_zero,List.getElem?_cons_succ,List.set_cons_zero,List.set_cons_succ,Bool.not_true,Bool.not_false,if_true,if_false,reduceCtorEq,Bool.false_eq_true,Dl.rF,Dl.cLenF,Dl.diSeqF,Dl.dTruF,Option.some.injEq,Dl.eqD_int_int,Dl.eqD_str_str,Dl.eqD_tup_tup,Dl.eqD_lst_lst,Dl.eqDL_nil_nil,Dl.eqDL_cons_nil,Dl.eqDL_cons_cons,Dl.isNonD_non,Dl.isNonD_int,Dl.addF_int,Dl.addF_lst,Dl.ixF_tup,Dl.ixF_lst,Dl.seqF_lst,Dl.truF_bl,Dl.truF_lst,exists_eq_left',Dl.atI_0,Dl.atI_1,Dl.atI_2,Dl.atI_3,decide_eq_true_eq,true_and,Bool.true_and,Dl.okEq_int_int,beq_iff_eq,beq_self_eq_true,beq_eq_false_iff_ne,Bool.not_eq_true',ne_eq,ite_not,Dl.sz0,Dl.sz1,Dl.sz2,Dl.sz4]
      refine ⟨p.2,h.re,now,rfl,okp,by omega,hnow,fun l' hl'=>?_⟩
      simp only [Dl.dSeq,Dl.dSetD,Dl.xDGet,Dl.dDPut,Dl.dDPop,Dl.dDIn,Dl.dctOf,Dl.dctR,Dl.fzOf,Dl.keyD,Dl.diItems,Dl.dFz,Dl.pinO,Dl.pinS,Dl.dMeth,Dl.dMake,Dl.aNil,Dl.aCons,Dl.atsOf,Dl.inA,Dl.dX,Dl.xVar,Dl.xFld,Dl.dSetF,Dl.fldOf,Dl.putAt,Dl.fewOf,Dl.setO,Dl.upA_a,Dl.startO,Dl.entO,Dl.slA,Dl.outO,Dl.outA_a,Dl.outA_b,List.head?_cons,decide_true,Bool.and_self,and_self,Dl.dSeq,Dl.dNext,Dl.dIfS,Dl.dB,Dl.dOp,Dl.dVar,Dl.dC,Dl.dLst,Dl.dTup,Dl.dNil,Dl.dCons,Dl.dRet,Dl.dCall,Dl.cMax,Dl.cMin,Dl.dDrop,Dl.dSet,Dl.dOwn,Dl.dFrz,Dl.dAnd,Dl.dOr,Dl.dNot,Dl.dIf,Dl.dNever,Dl.rII,Dl.rIC,Dl.rEqD,Dl.rNeD,Dl.rIsN,Dl.rNotN,Dl.gdTup2,Dl.dExt,Dl.cSorted,Dl.cMinL,Dl.dLstRng,Dl.dYes,Dl.dropOw,Dl.gdName,Dl.startD,List.map_cons,List.map_nil,List.length_cons,List.length_nil,List.cons_append,List.nil_append,List.replicate_zero,List.replicate_succ,Nat.reduceAdd,Nat.reduceSub,List.getElem?_cons_zero,List.getElem?_cons_succ,List.set_cons_zero,List.set_cons_succ,Bool.not_true,Bool.not_false,if_true,if_false,reduceCtorEq,Bool.false_eq_true,Dl.rF,Dl.cLenF,Dl.diSeqF,Dl.dTruF,Option.some.injEq,Dl.eqD_int_int,Dl.eqD_str_str,Dl.eqD_tup_tup,Dl.eqD_lst_lst,Dl.eqDL_nil_nil,Dl.eqDL_cons_nil,Dl.eqDL_cons_cons,Dl.isNonD_non,Dl.isNonD_int,Dl.addF_int,Dl.addF_lst,Dl.ixF_tup,Dl.ixF_lst,Dl.seqF_lst,Dl.truF_bl,Dl.truF_lst,exists_eq_left',Dl.atI_0,Dl.atI_1,Dl.atI_2,Dl.atI_3,decide_eq_true_eq,true_and,Bool.true_and,Dl.okEq_int_int,beq_iff_eq,beq_self_eq_true,beq_eq_false_iff_ne,Bool.not_eq_true',ne_eq,ite_not,Dl.sz0,Dl.sz1,Dl.sz2,Dl.sz4]
      rw [hl'.unique hl]; exact h1
    · obtain ⟨t,_,rfl⟩:=List.mem_map.mp hd
      simp only [Dl.dSeq,Dl.dSetD,Dl.xDGet,Dl.dDPut,Dl.dDPop,Dl.dDIn,Dl.dctOf,Dl.dctR,Dl.fzOf,Dl.keyD,Dl.diItems,Dl.dFz,Dl.pinO,Dl.pinS,Dl.dMeth,Dl.dMake,Dl.aNil,Dl.aCons,Dl.atsOf,Dl.inA,Dl.dX,Dl.xVar,Dl.xFld,Dl.dSetF,Dl.fldOf,Dl.putAt,Dl.fewOf,Dl.setO,Dl.upA_a,Dl.startO,Dl.entO,Dl.slA,Dl.outO,Dl.outA_a,Dl.outA_b,List.head?_cons,decide_true,Bool.and_self,and_self,Dl.dSeq,Dl.dNext,Dl.dIfS,Dl.dB,Dl.dOp,Dl.dVar,Dl.dC,Dl.dLst,Dl.dTup,Dl.dNil,Dl.dCons,Dl.dRet,Dl.dCall,Dl.cMax,Dl.cMin,Dl.dDrop,Dl.dSet,Dl.dOwn,Dl.dFrz,Dl.dAnd,Dl.dOr,Dl.dNot,Dl.dIf,Dl.dNever,Dl.rII,Dl.rIC,Dl.rEqD,Dl.rNeD,Dl.rIsN,Dl.rNotN,Dl.gdTup2,Dl.dExt,Dl.cSorted,Dl.cMinL,Dl.dLstRng,Dl.dYes,Dl.dropOw,Dl.gdName,Dl.startD,List.map_cons,List.map_nil,List.length_cons,List.length_nil,List.cons_append,List.nil_append,List.replicate_zero,List.replicate_succ,Nat.reduceAdd,Nat.reduceSub,List.getElem?_cons_zero,List.getElem?_cons_succ,List.set_cons_zero,List.set_cons_succ,Bool.not_true,Bool.not_false,if_true,if_false,reduceCtorEq,Bool.false_eq_true,Dl.rF,Dl.cLenF,Dl.diSeqF,Dl.dTruF,Option.some.injEq,Dl.eqD_int_int,Dl.eqD_str_str,Dl.eqD_tup_tup,Dl.eqD_lst_lst,Dl.eqDL_nil_nil,Dl.eqDL_cons_nil,Dl.eqDL_cons_cons,Dl.isNonD_non,Dl.isNonD_int,Dl.addF_int,Dl.addF_lst,Dl.ixF_tup,Dl.ixF_lst,Dl.seqF_lst,Dl.truF_bl,Dl.truF_lst,exists_eq_left',Dl.atI_0,Dl.atI_1,Dl.atI_2,Dl.atI_3,decide_eq_true_eq,true_and,Bool.true_and,Dl.okEq_int_int,beq_iff_eq,beq_self_eq_true,beq_eq_false_iff_ne,Bool.not_eq_true',ne_eq,ite_not,Dl.sz0,Dl.sz1,Dl.sz2,Dl.sz4]
      rfl
    · rw [mapD_ints,List.length_map]
      have:=sizeLine_big (n:=l.length) (by omega)
      omega
    · rw [mapD_ints]
      simp only [List.length_map,Dl.dSetD,Dl.xDGet,Dl.dDPut,Dl.dDPop,Dl.dDIn,Dl.dctOf,Dl.dctR,Dl.fzOf,Dl.keyD,Dl.diItems,Dl.dFz,Dl.pinO,Dl.pinS,Dl.dMeth,Dl.dMake,Dl.aNil,Dl.aCons,Dl.atsOf,Dl.inA,Dl.dX,Dl.xVar,Dl.xFld,Dl.dSetF,Dl.fldOf,Dl.putAt,Dl.fewOf,Dl.setO,Dl.upA_a,Dl.startO,Dl.entO,Dl.slA,Dl.outO,Dl.outA_a,Dl.outA_b,List.head?_cons,decide_true,Bool.and_self,and_self,Dl.dSeq,Dl.dNext,Dl.dIfS,Dl.dB,Dl.dOp,Dl.dVar,Dl.dC,Dl.dLst,Dl.dTup,Dl.dNil,Dl.dCons,Dl.dRet,Dl.dCall,Dl.cMax,Dl.cMin,Dl.dDrop,Dl.dSet,Dl.dOwn,Dl.dFrz,Dl.dAnd,Dl.dOr,Dl.dNot,Dl.dIf,Dl.dNever,Dl.rII,Dl.rIC,Dl.rEqD,Dl.rNeD,Dl.rIsN,Dl.rNotN,Dl.gdTup2,Dl.dExt,Dl.cSorted,Dl.cMinL,Dl.dLstRng,Dl.dYes,Dl.dropOw,Dl.gdName,Dl.startD,List.map_cons,List.map_nil,List.length_cons,List.length_nil,List.cons_append,List.nil_append,List.replicate_zero,List.replicate_succ,Nat.reduceAdd,Nat.reduceSub,List.getElem?_cons_zero,List.getElem?_cons_succ,List.set_cons_zero,List.set_cons_succ,Bool.not_true,Bool.not_false,if_true,if_false,reduceCtorEq,Bool.false_eq_true,Dl.rF,Dl.cLenF,Dl.diSeqF,Dl.dTruF,Option.some.injEq,Dl.eqD_int_int,Dl.eqD_str_str,Dl.eqD_tup_tup,Dl.eqD_lst_lst,Dl.eqDL_nil_nil,Dl.eqDL_cons_nil,Dl.eqDL_cons_cons,Dl.isNonD_non,Dl.isNonD_int,Dl.addF_int,Dl.addF_lst,Dl.ixF_tup,Dl.ixF_lst,Dl.seqF_lst,Dl.truF_bl,Dl.truF_lst,exists_eq_left',Dl.atI_0,Dl.atI_1,Dl.atI_2,Dl.atI_3,decide_eq_true_eq,true_and,Bool.true_and,Dl.okEq_int_int,beq_iff_eq,beq_self_eq_true,beq_eq_false_iff_ne,Bool.not_eq_true',ne_eq,ite_not,Dl.sz0,Dl.sz1,Dl.sz2,Dl.sz4]
      refine ⟨by have:=sizeLine_big (n:=rs.length + l.length) (by omega); omega,.sh (.str p.1),.sh (ckD p.2),rs ++ l.map (fun t=>(t,p.1)),?_,rfl,rfl,by rw [tk]; exact hr'⟩
      rw [List.map_append,List.map_map]
      rfl
  · rintro δ ⟨s3,s4,rs,rfl,n3,n4,hr⟩
    rw [items_len,List.take_length] at hr
    refine ⟨by simp only [Hs.z_cl,Dl.dSetD,Dl.xDGet,Dl.dDPut,Dl.dDPop,Dl.dDIn,Dl.dctOf,Dl.dctR,Dl.fzOf,Dl.keyD,Dl.diItems,Dl.dFz,Dl.pinO,Dl.pinS,Dl.dMeth,Dl.dMake,Dl.aNil,Dl.aCons,Dl.atsOf,Dl.inA,Dl.dX,Dl.xVar,Dl.xFld,Dl.dSetF,Dl.fldOf,Dl.putAt,Dl.fewOf,Dl.setO,Dl.upA_a,Dl.startO,Dl.entO,Dl.slA,Dl.outO,Dl.outA_a,Dl.outA_b,List.head?_cons,decide_true,Bool.and_self,and_self,Dl.dSeq,Dl.dNext,Dl.dIfS,Dl.dB,Dl.dOp,Dl.dVar,Dl.dC,Dl.dLst,Dl.dTup,Dl.dNil,Dl.dCons,Dl.dRet,Dl.dCall,Dl.cMax,Dl.cMin,Dl.dDrop,Dl.dSet,Dl.dOwn,Dl.dFrz,Dl.dAnd,Dl.dOr,Dl.dNot,Dl.dIf,Dl.dNever,Dl.rII,Dl.rIC,Dl.rEqD,Dl.rNeD,Dl.rIsN,Dl.rNotN,Dl.gdTup2,Dl.dExt,Dl.cSorted,Dl.cMinL,Dl.dLstRng,Dl.dYes,Dl.dropOw,Dl.gdName,Dl.startD,List.map_cons,List.map_nil,List.length_cons,List.length_nil,List.cons_append,List.nil_append,List.replicate_zero,List.replicate_succ,Nat.reduceAdd,Nat.reduceSub,List.getElem?_cons_zero,List.getElem?_cons_succ,List.set_cons_zero,List.set_cons_succ,Bool.not_true,Bool.not_false,if_true,if_false,reduceCtorEq,Bool.false_eq_true,Dl.rF,Dl.cLenF,Dl.diSeqF,Dl.dTruF,Option.some.injEq,Dl.eqD_int_int,Dl.eqD_str_str,Dl.eqD_tup_tup,Dl.eqD_lst_lst,Dl.eqDL_nil_nil,Dl.eqDL_cons_nil,Dl.eqDL_cons_cons,Dl.isNonD_non,Dl.isNonD_int,Dl.addF_int,Dl.addF_lst,Dl.ixF_tup,Dl.ixF_lst,Dl.seqF_lst,Dl.truF_bl,Dl.truF_lst,exists_eq_left',Dl.atI_0,Dl.atI_1,Dl.atI_2,Dl.atI_3,decide_eq_true_eq,true_and,Bool.true_and,Dl.okEq_int_int,beq_iff_eq,beq_self_eq_true,beq_eq_false_iff_ne,Bool.not_eq_true',ne_eq,ite_not,Dl.sz0,Dl.sz1,Dl.sz2,Dl.sz4],?_,?_⟩
    · simp only [Hs.p_un,Dl.dSetD,Dl.xDGet,Dl.dDPut,Dl.dDPop,Dl.dDIn,Dl.dctOf,Dl.dctR,Dl.fzOf,Dl.keyD,Dl.diItems,Dl.dFz,Dl.pinO,Dl.pinS,Dl.dMeth,Dl.dMake,Dl.aNil,Dl.aCons,Dl.atsOf,Dl.inA,Dl.dX,Dl.xVar,Dl.xFld,Dl.dSetF,Dl.fldOf,Dl.putAt,Dl.fewOf,Dl.setO,Dl.upA_a,Dl.startO,Dl.entO,Dl.slA,Dl.outO,Dl.outA_a,Dl.outA_b,List.head?_cons,decide_true,Bool.and_self,and_self,Dl.dSeq,Dl.dNext,Dl.dIfS,Dl.dB,Dl.dOp,Dl.dVar,Dl.dC,Dl.dLst,Dl.dTup,Dl.dNil,Dl.dCons,Dl.dRet,Dl.dCall,Dl.cMax,Dl.cMin,Dl.dDrop,Dl.dSet,Dl.dOwn,Dl.dFrz,Dl.dAnd,Dl.dOr,Dl.dNot,Dl.dIf,Dl.dNever,Dl.rII,Dl.rIC,Dl.rEqD,Dl.rNeD,Dl.rIsN,Dl.rNotN,Dl.gdTup2,Dl.dExt,Dl.cSorted,Dl.cMinL,Dl.dLstRng,Dl.dYes,Dl.dropOw,Dl.gdName,Dl.startD,List.map_cons,List.map_nil,List.length_cons,List.length_nil,List.cons_append,List.nil_append,List.replicate_zero,List.replicate_succ,Nat.reduceAdd,Nat.reduceSub,List.getElem?_cons_zero,List.getElem?_cons_succ,List.set_cons_zero,List.set_cons_succ,Bool.not_true,Bool.not_false,if_true,if_false,reduceCtorEq,Bool.false_eq_true,Dl.rF,Dl.cLenF,Dl.diSeqF,Dl.dTruF,Option.some.injEq,Dl.eqD_int_int,Dl.eqD_str_str,Dl.eqD_tup_tup,Dl.eqD_lst_lst,Dl.eqDL_nil_nil,Dl.eqDL_cons_nil,Dl.eqDL_cons_cons,Dl.isNonD_non,Dl.isNonD_int,Dl.addF_int,Dl.addF_lst,Dl.ixF_tup,Dl.ixF_lst,Dl.seqF_lst,Dl.truF_bl,Dl.truF_lst,exists_eq_left',Dl.atI_0,Dl.atI_1,Dl.atI_2,Dl.atI_3,decide_eq_true_eq,true_and,Bool.true_and,Dl.okEq_int_int,beq_iff_eq,beq_self_eq_true,beq_eq_false_iff_ne,Bool.not_eq_true',ne_eq,ite_not,Dl.sz0,Dl.sz1,Dl.sz2,Dl.sz4]
      simp only [noFz,List.all_cons,List.all_nil,n3,n4]; rfl
    · simp only [Hs.p_un,Hs.few,Hs.p_re,Dl.dSetD,Dl.xDGet,Dl.dDPut,Dl.dDPop,Dl.dDIn,Dl.dctOf,Dl.dctR,Dl.fzOf,Dl.keyD,Dl.diItems,Dl.dFz,Dl.pinO,Dl.pinS,Dl.dMeth,Dl.dMake,Dl.aNil,Dl.aCons,Dl.atsOf,Dl.inA,Dl.dX,Dl.xVar,Dl.xFld,Dl.dSetF,Dl.fldOf,Dl.putAt,Dl.fewOf,Dl.setO,Dl.upA_a,Dl.startO,Dl.entO,Dl.slA,Dl.outO,Dl.outA_a,Dl.outA_b,List.head?_cons,decide_true,Bool.and_self,and_self,Dl.dSeq,Dl.dNext,Dl.dIfS,Dl.dB,Dl.dOp,Dl.dVar,Dl.dC,Dl.dLst,Dl.dTup,Dl.dNil,Dl.dCons,Dl.dRet,Dl.dCall,Dl.cMax,Dl.cMin,Dl.dDrop,Dl.dSet,Dl.dOwn,Dl.dFrz,Dl.dAnd,Dl.dOr,Dl.dNot,Dl.dIf,Dl.dNever,Dl.rII,Dl.rIC,Dl.rEqD,Dl.rNeD,Dl.rIsN,Dl.rNotN,Dl.gdTup2,Dl.dExt,Dl.cSorted,Dl.cMinL,Dl.dLstRng,Dl.dYes,Dl.dropOw,Dl.gdName,Dl.startD,List.map_cons,List.map_nil,List.length_cons,List.length_nil,List.cons_append,List.nil_append,List.replicate_zero,List.replicate_succ,Nat.reduceAdd,Nat.reduceSub,List.getElem?_cons_zero,List.getElem?_cons_succ,List.set_cons_zero,List.set_cons_succ,Bool.not_true,Bool.not_false,if_true,if_false,reduceCtorEq,Bool.false_eq_true,Dl.rF,Dl.cLenF,Dl.diSeqF,Dl.dTruF,Option.some.injEq,Dl.eqD_int_int,Dl.eqD_str_str,Dl.eqD_tup_tup,Dl.eqD_lst_lst,Dl.eqDL_nil_nil,Dl.eqDL_cons_nil,Dl.eqDL_cons_cons,Dl.isNonD_non,Dl.isNonD_int,Dl.addF_int,Dl.addF_lst,Dl.ixF_tup,Dl.ixF_lst,Dl.seqF_lst,Dl.truF_bl,Dl.truF_lst,exists_eq_left',Dl.atI_0,Dl.atI_1,Dl.atI_2,Dl.atI_3,decide_eq_true_eq,true_and,Bool.true_and,Dl.okEq_int_int,beq_iff_eq,beq_self_eq_true,beq_eq_false_iff_ne,Bool.not_eq_true',ne_eq,ite_not,Dl.sz0,Dl.sz1,Dl.sz2,Dl.sz4]
      refine ⟨rs.map rowK,[false,true],rowK_D rs,fun k hk=>?_,by decide,?_,fun ms hp hso=>?_⟩
      · obtain ⟨r,_,rfl⟩:=List.mem_map.mp hk; rfl
      · rw [List.length_map]; exact hlen rs hr
      · obtain ⟨rows,rfl,hp'⟩:=rows_of hp
        rw [← rowK_D]
        exact q rows ⟨rs,hr,hp',List.pairwise_map.mp hso⟩
theorem dCompO_at (items:List D) (F:D→Option D) {k:Nat} {ti:TId} {g:TGd} {tt:TTd} {te:TEd} {δ:Ev} {Q:D→Ev→Prop} (h0:∀ Q:List D→Ev→Prop,Q items δ→ti δ Q)
    (hF:∀ d ∈ items,∀ as:Nat→Nat,g d (pinO as 0 δ ++ List.replicate k .no) fun δ2=>tt δ2 fun b δ3=>if b = true then te δ3 fun y δ4=>δ4.take δ.length = pinO as 0 δ∧F d = some y else δ3.take δ.length = pinO as 0 δ∧F d = none)
    (hl:(items.filterMap F).length ≤ sizeLine) (q:Q (.lst (items.filterMap F)) δ):dCompO k ti g tt te δ Q:=h0 _ ⟨F,hF,hl,q⟩
theorem fm_none {α β:Type} (l:List α):l.filterMap (fun _=>(none:Option β)) = []:=by
  induction l with
  | nil=>rfl
  | cons a r ih=>simp
noncomputable def dueF:D→Option D
  | .tup [.str x,_]=>some (.tup [.non,.str x])
  | _=>none
noncomputable def t_House_next_due (c_House:Nat):TSd:=dSeq (dFz c_House 0 "clocks" (dSet 1 ((dCompO 2 (diItems c_House 0 "clocks") (gdTup2 4 5) (dYes) ((dTup ((dCons ((dCall S_next_ring ((dCons ((dVar 5)) ((dCons ((dX ((xFld c_House 0 "reached")))) (dNil))))))) ((dCons ((dVar 4)) (dNil))))))))))) (dSeq (dSet 2 ((dComp 1 (diSeqF ((dVar 1))) (gdName 4) (dB (dOp rNotN ((dOp (rF ixF) ((dVar 4)) (dC (.int 0)))) (dC .non))) ((dVar 4))))) (dSeq (dIfS (dNot (dTruF ((dVar 2)))) (dRet (dC .non)) (dNext)) (dSeq (dSet 3 ((dCall cMinL ((dCons ((dComp 2 (diSeqF ((dVar 2))) (gdTup2 4 5) (dYes) ((dVar 4)))) (dNil)))))) (dRet ((dTup ((dCons ((dVar 3)) ((dCons ((dCall cSorted ((dCons ((dComp 2 (diSeqF ((dVar 2))) (gdTup2 4 5) (dB (dOp rEqD ((dVar 4)) ((dVar 3)))) ((dVar 5)))) (dNil))))) (dNil)))))))))))
theorem r_House_next_due (C:Nat):∀ (hs:Nat→Nat) as Q,S_House_next_due C as Q→t_House_next_due C { nx:=fun δ=>Q .non (outO hs 0 as δ),rt:=fun d δ=>Q d (outO hs 0 as δ) } (startO ["self","rows","dues","first"] hs as):=by
  rintro hs as Q ⟨h,rfl,hre,hl,hok,q⟩
  simp only [t_House_next_due,Hs.f_cl,Hs.p_fz,Dl.dSetD,Dl.xDGet,Dl.dDPut,Dl.dDPop,Dl.dDIn,Dl.dctOf,Dl.dctR,Dl.fzOf,Dl.keyD,Dl.diItems,Dl.dFz,Dl.pinO,Dl.pinS,Dl.dMeth,Dl.dMake,Dl.aNil,Dl.aCons,Dl.atsOf,Dl.inA,Dl.dX,Dl.xVar,Dl.xFld,Dl.dSetF,Dl.fldOf,Dl.putAt,Dl.fewOf,Dl.setO,Dl.upA_a,Dl.startO,Dl.entO,Dl.slA,Dl.outO,Dl.outA_a,Dl.outA_b,List.head?_cons,decide_true,Bool.and_self,and_self,Dl.dSeq,Dl.dNext,Dl.dIfS,Dl.dB,Dl.dOp,Dl.dVar,Dl.dC,Dl.dLst,Dl.dTup,Dl.dNil,Dl.dCons,Dl.dRet,Dl.dCall,Dl.cMax,Dl.cMin,Dl.dDrop,Dl.dSet,Dl.dOwn,Dl.dFrz,Dl.dAnd,Dl.dOr,Dl.dNot,Dl.dIf,Dl.dNever,Dl.rII,Dl.rIC,Dl.rEqD,Dl.rNeD,Dl.rIsN,Dl.rNotN,Dl.gdTup2,Dl.dExt,Dl.cSorted,Dl.cMinL,Dl.dLstRng,Dl.dYes,Dl.dropOw,Dl.gdName,Dl.startD,List.map_cons,List.map_nil,List.length_cons,List.length_nil,List.cons_append,List.nil_append,List.replicate_zero,List.replicate_succ,Nat.reduceAdd,Nat.reduceSub,List.getElem?_cons_zero,List.getElem?_cons_succ,List.set_cons_zero,List.set_cons_succ,Bool.not_true,Bool.not_false,if_true,if_false,reduceCtorEq,Bool.false_eq_true,Dl.rF,Dl.cLenF,Dl.diSeqF,Dl.dTruF,Option.some.injEq,Dl.eqD_int_int,Dl.eqD_str_str,Dl.eqD_tup_tup,Dl.eqD_lst_lst,Dl.eqDL_nil_nil,Dl.eqDL_cons_nil,Dl.eqDL_cons_cons,Dl.isNonD_non,Dl.isNonD_int,Dl.addF_int,Dl.addF_lst,Dl.ixF_tup,Dl.ixF_lst,Dl.seqF_lst,Dl.truF_bl,Dl.truF_lst,exists_eq_left',Dl.atI_0,Dl.atI_1,Dl.atI_2,Dl.atI_3,decide_eq_true_eq,true_and,Bool.true_and,Dl.okEq_int_int,beq_iff_eq,beq_self_eq_true,beq_eq_false_iff_ne,Bool.not_eq_true',ne_eq,ite_not,Dl.sz0,Dl.sz1,Dl.sz2,Dl.sz4]
  intro fq
  refine dCompO_at (itemsL (h.cl.map kc)) dueF (fun Q h1=>?_) (fun d hd as=>?_) ?_ ?_
  · simp only [Hs.z_cl,Dl.dSetD,Dl.xDGet,Dl.dDPut,Dl.dDPop,Dl.dDIn,Dl.dctOf,Dl.dctR,Dl.fzOf,Dl.keyD,Dl.diItems,Dl.dFz,Dl.pinO,Dl.pinS,Dl.dMeth,Dl.dMake,Dl.aNil,Dl.aCons,Dl.atsOf,Dl.inA,Dl.dX,Dl.xVar,Dl.xFld,Dl.dSetF,Dl.fldOf,Dl.putAt,Dl.fewOf,Dl.setO,Dl.upA_a,Dl.startO,Dl.entO,Dl.slA,Dl.outO,Dl.outA_a,Dl.outA_b,List.head?_cons,decide_true,Bool.and_self,and_self,Dl.dSeq,Dl.dNext,Dl.dIfS,Dl.dB,Dl.dOp,Dl.dVar,Dl.dC,Dl.dLst,Dl.dTup,Dl.dNil,Dl.dCons,Dl.dRet,Dl.dCall,Dl.cMax,Dl.cMin,Dl.dDrop,Dl.dSet,Dl.dOwn,Dl.dFrz,Dl.dAnd,Dl.dOr,Dl.dNot,Dl.dIf,Dl.dNever,Dl.rII,Dl.rIC,Dl.rEqD,Dl.rNeD,Dl.rIsN,Dl.rNotN,Dl.gdTup2,Dl.dExt,Dl.cSorted,Dl.cMinL,Dl.dLstRng,Dl.dYes,Dl.dropOw,Dl.gdName,Dl.startD,List.map_cons,List.map_nil,List.length_cons,List.length_nil,List.cons_append,List.nil_append,List.replicate_zero,List.replicate_succ,Nat.reduceAdd,Nat.reduceSub,List.getElem?_cons_zero,List.getElem?_cons_succ,List.set_cons_zero,List.set_cons_succ,Bool.not_true,Bool.not_false,if_true,if_false,reduceCtorEq,Bool.false_eq_true,Dl.rF,Dl.cLenF,Dl.diSeqF,Dl.dTruF,Option.some.injEq,Dl.eqD_int_int,Dl.eqD_str_str,Dl.eqD_tup_tup,Dl.eqD_lst_lst,Dl.eqDL_nil_nil,Dl.eqDL_cons_nil,Dl.eqDL_cons_cons,Dl.isNonD_non,Dl.isNonD_int,Dl.addF_int,Dl.addF_lst,Dl.ixF_tup,Dl.ixF_lst,Dl.seqF_lst,Dl.truF_bl,Dl.truF_lst,exists_eq_left',Dl.atI_0,Dl.atI_1,Dl.atI_2,Dl.atI_3,decide_eq_true_eq,true_and,Bool.true_and,Dl.okEq_int_int,beq_iff_eq,beq_self_eq_true,beq_eq_false_iff_ne,Bool.not_eq_true',ne_eq,ite_not,Dl.sz0,Dl.sz1,Dl.sz2,Dl.sz4]; exact h1
  · obtain ⟨j,hj⟩:=List.getElem?_of_mem hd
    obtain ⟨p,hp,rfl⟩:=items_get hj
    have okp:=hok p (List.mem_of_getElem? hp)
    simp only [Hs.z_re,Dl.dSetD,Dl.xDGet,Dl.dDPut,Dl.dDPop,Dl.dDIn,Dl.dctOf,Dl.dctR,Dl.fzOf,Dl.keyD,Dl.diItems,Dl.dFz,Dl.pinO,Dl.pinS,Dl.dMeth,Dl.dMake,Dl.aNil,Dl.aCons,Dl.atsOf,Dl.inA,Dl.dX,Dl.xVar,Dl.xFld,Dl.dSetF,Dl.fldOf,Dl.putAt,Dl.fewOf,Dl.setO,Dl.upA_a,Dl.startO,Dl.entO,Dl.slA,Dl.outO,Dl.outA_a,Dl.outA_b,List.head?_cons,decide_true,Bool.and_self,and_self,Dl.dSeq,Dl.dNext,Dl.dIfS,Dl.dB,Dl.dOp,Dl.dVar,Dl.dC,Dl.dLst,Dl.dTup,Dl.dNil,Dl.dCons,Dl.dRet,Dl.dCall,Dl.cMax,Dl.cMin,Dl.dDrop,Dl.dSet,Dl.dOwn,Dl.dFrz,Dl.dAnd,Dl.dOr,Dl.dNot,Dl.dIf,Dl.dNever,Dl.rII,Dl.rIC,Dl.rEqD,Dl.rNeD,Dl.rIsN,Dl.rNotN,Dl.gdTup2,Dl.dExt,Dl.cSorted,Dl.cMinL,Dl.dLstRng,Dl.dYes,Dl.dropOw,Dl.gdName,Dl.startD,List.map_cons,List.map_nil,List.length_cons,List.length_nil,List.cons_append,List.nil_append,List.replicate_zero,List.replicate_succ,Nat.reduceAdd,Nat.reduceSub,List.getElem?_cons_zero,List.getElem?_cons_succ,List.set_cons_zero,List.set_cons_succ,Bool.not_true,Bool.not_false,if_true,if_false,reduceCtorEq,Bool.false_eq_true,Dl.rF,Dl.cLenF,Dl.diSeqF,Dl.dTruF,Option.some.injEq,Dl.eqD_int_int,Dl.eqD_str_str,Dl.eqD_tup_tup,Dl.eqD_lst_lst,Dl.eqDL_nil_nil,Dl.eqDL_cons_nil,Dl.eqDL_cons_cons,Dl.isNonD_non,Dl.isNonD_int,Dl.addF_int,Dl.addF_lst,Dl.ixF_tup,Dl.ixF_lst,Dl.seqF_lst,Dl.truF_bl,Dl.truF_lst,exists_eq_left',Dl.atI_0,Dl.atI_1,Dl.atI_2,Dl.atI_3,decide_eq_true_eq,true_and,Bool.true_and,Dl.okEq_int_int,beq_iff_eq,beq_self_eq_true,beq_eq_false_iff_ne,Bool.not_eq_true',ne_eq,ite_not,Dl.sz0,Dl.sz1,Dl.sz2,Dl.sz4]
    refine ⟨p.2,h.re,rfl,okp.1,by omega,fun r hr=>?_⟩
    rw [hr.unique okp.2]
    simp only [oi_none,Dl.dSetD,Dl.xDGet,Dl.dDPut,Dl.dDPop,Dl.dDIn,Dl.dctOf,Dl.dctR,Dl.fzOf,Dl.keyD,Dl.diItems,Dl.dFz,Dl.pinO,Dl.pinS,Dl.dMeth,Dl.dMake,Dl.aNil,Dl.aCons,Dl.atsOf,Dl.inA,Dl.dX,Dl.xVar,Dl.xFld,Dl.dSetF,Dl.fldOf,Dl.putAt,Dl.fewOf,Dl.setO,Dl.upA_a,Dl.startO,Dl.entO,Dl.slA,Dl.outO,Dl.outA_a,Dl.outA_b,List.head?_cons,decide_true,Bool.and_self,and_self,Dl.dSeq,Dl.dNext,Dl.dIfS,Dl.dB,Dl.dOp,Dl.dVar,Dl.dC,Dl.dLst,Dl.dTup,Dl.dNil,Dl.dCons,Dl.dRet,Dl.dCall,Dl.cMax,Dl.cMin,Dl.dDrop,Dl.dSet,Dl.dOwn,Dl.dFrz,Dl.dAnd,Dl.dOr,Dl.dNot,Dl.dIf,Dl.dNever,Dl.rII,Dl.rIC,Dl.rEqD,Dl.rNeD,Dl.rIsN,Dl.rNotN,Dl.gdTup2,Dl.dExt,Dl.cSorted,Dl.cMinL,Dl.dLstRng,Dl.dYes,Dl.dropOw,Dl.gdName,Dl.startD,List.map_cons,List.map_nil,List.length_cons,List.length_nil,List.cons_append,List.nil_append,List.replicate_zero,List.replicate_succ,Nat.reduceAdd,Nat.reduceSub,List.getElem?_cons_zero,List.getElem?_cons_succ,List.set_cons_zero,List.set_cons_succ,Bool.not_true,Bool.not_false,if_true,if_false,reduceCtorEq,Bool.false_eq_true,Dl.rF,Dl.cLenF,Dl.diSeqF,Dl.dTruF,Option.some.injEq,Dl.eqD_int_int,Dl.eqD_str_str,Dl.eqD_tup_tup,Dl.eqD_lst_lst,Dl.eqDL_nil_nil,Dl.eqDL_cons_nil,Dl.eqDL_cons_cons,Dl.isNonD_non,Dl.isNonD_int,Dl.addF_int,Dl.addF_lst,Dl.ixF_tup,Dl.ixF_lst,Dl.seqF_lst,Dl.truF_bl,Dl.truF_lst,exists_eq_left',Dl.atI_0,Dl.atI_1,Dl.atI_2,Dl.atI_3,decide_eq_true_eq,true_and,Bool.true_and,Dl.okEq_int_int,beq_iff_eq,beq_self_eq_true,beq_eq_false_iff_ne,Bool.not_eq_true',ne_eq,ite_not,Dl.sz0,Dl.sz1,Dl.sz2,Dl.sz4]
    exact ⟨rfl,rfl⟩
  · refine Nat.le_trans (List.length_filterMap_le _ _) ?_
    rw [items_len]; have:=sizeLine_big (n:=h.cl.length) (by omega); omega
  · simp only [Hs.z_cl,Hs.p_un,Dl.dSetD,Dl.xDGet,Dl.dDPut,Dl.dDPop,Dl.dDIn,Dl.dctOf,Dl.dctR,Dl.fzOf,Dl.keyD,Dl.diItems,Dl.dFz,Dl.pinO,Dl.pinS,Dl.dMeth,Dl.dMake,Dl.aNil,Dl.aCons,Dl.atsOf,Dl.inA,Dl.dX,Dl.xVar,Dl.xFld,Dl.dSetF,Dl.fldOf,Dl.putAt,Dl.fewOf,Dl.setO,Dl.upA_a,Dl.startO,Dl.entO,Dl.slA,Dl.outO,Dl.outA_a,Dl.outA_b,List.head?_cons,decide_true,Bool.and_self,and_self,Dl.dSeq,Dl.dNext,Dl.dIfS,Dl.dB,Dl.dOp,Dl.dVar,Dl.dC,Dl.dLst,Dl.dTup,Dl.dNil,Dl.dCons,Dl.dRet,Dl.dCall,Dl.cMax,Dl.cMin,Dl.dDrop,Dl.dSet,Dl.dOwn,Dl.dFrz,Dl.dAnd,Dl.dOr,Dl.dNot,Dl.dIf,Dl.dNever,Dl.rII,Dl.rIC,Dl.rEqD,Dl.rNeD,Dl.rIsN,Dl.rNotN,Dl.gdTup2,Dl.dExt,Dl.cSorted,Dl.cMinL,Dl.dLstRng,Dl.dYes,Dl.dropOw,Dl.gdName,Dl.startD,List.map_cons,List.map_nil,List.length_cons,List.length_nil,List.cons_append,List.nil_append,List.replicate_zero,List.replicate_succ,Nat.reduceAdd,Nat.reduceSub,List.getElem?_cons_zero,List.getElem?_cons_succ,List.set_cons_zero,List.set_cons_succ,Bool.not_true,Bool.not_false,if_true,if_false,reduceCtorEq,Bool.false_eq_true,Dl.rF,Dl.cLenF,Dl.diSeqF,Dl.dTruF,Option.some.injEq,Dl.eqD_int_int,Dl.eqD_str_str,Dl.eqD_tup_tup,Dl.eqD_lst_lst,Dl.eqDL_nil_nil,Dl.eqDL_cons_nil,Dl.eqDL_cons_cons,Dl.isNonD_non,Dl.isNonD_int,Dl.addF_int,Dl.addF_lst,Dl.ixF_tup,Dl.ixF_lst,Dl.seqF_lst,Dl.truF_bl,Dl.truF_lst,exists_eq_left',Dl.atI_0,Dl.atI_1,Dl.atI_2,Dl.atI_3,decide_eq_true_eq,true_and,Bool.true_and,Dl.okEq_int_int,beq_iff_eq,beq_self_eq_true,beq_eq_false_iff_ne,Bool.not_eq_true',ne_eq,ite_not,Dl.sz0,Dl.sz1,Dl.sz2,Dl.sz4]
    refine ⟨?_,?_⟩
    · simp only [noFz,List.all_cons,List.all_nil]; rfl
    refine dComp_at ((itemsL (h.cl.map kc)).filterMap dueF) (fun _=>none) (fun Q h1=>?_) (fun d hd=>?_) ?_ ?_
    · simp only [Dl.dSeq,Dl.dSetD,Dl.xDGet,Dl.dDPut,Dl.dDPop,Dl.dDIn,Dl.dctOf,Dl.dctR,Dl.fzOf,Dl.keyD,Dl.diItems,Dl.dFz,Dl.pinO,Dl.pinS,Dl.dMeth,Dl.dMake,Dl.aNil,Dl.aCons,Dl.atsOf,Dl.inA,Dl.dX,Dl.xVar,Dl.xFld,Dl.dSetF,Dl.fldOf,Dl.putAt,Dl.fewOf,Dl.setO,Dl.upA_a,Dl.startO,Dl.entO,Dl.slA,Dl.outO,Dl.outA_a,Dl.outA_b,List.head?_cons,decide_true,Bool.and_self,and_self,Dl.dSeq,Dl.dNext,Dl.dIfS,Dl.dB,Dl.dOp,Dl.dVar,Dl.dC,Dl.dLst,Dl.dTup,Dl.dNil,Dl.dCons,Dl.dRet,Dl.dCall,Dl.cMax,Dl.cMin,Dl.dDrop,Dl.dSet,Dl.dOwn,Dl.dFrz,Dl.dAnd,Dl.dOr,Dl.dNot,Dl.dIf,Dl.dNever,Dl.rII,Dl.rIC,Dl.rEqD,Dl.rNeD,Dl.rIsN,Dl.rNotN,Dl.gdTup2,Dl.dExt,Dl.cSorted,Dl.cMinL,Dl.dLstRng,Dl.dYes,Dl.dropOw,Dl.gdName,Dl.startD,List.map_cons,List.map_nil,List.length_cons,List.length_nil,List.cons_append,List.nil_append,List.replicate_zero,List.replicate_succ,Nat.reduceAdd,Nat.reduceSub,List.getElem?_cons_zero,List.getElem?_cons_succ,List.set_cons_zero,List.set_cons_succ,Bool.not_true,Bool.not_false,if_true,if_false,reduceCtorEq,Bool.false_eq_true,Dl.rF,Dl.cLenF,Dl.diSeqF,Dl.dTruF,Option.some.injEq,Dl.eqD_int_int,Dl.eqD_str_str,Dl.eqD_tup_tup,Dl.eqD_lst_lst,Dl.eqDL_nil_nil,Dl.eqDL_cons_nil,Dl.eqDL_cons_cons,Dl.isNonD_non,Dl.isNonD_int,Dl.addF_int,Dl.addF_lst,Dl.ixF_tup,Dl.ixF_lst,Dl.seqF_lst,Dl.truF_bl,Dl.truF_lst,exists_eq_left',Dl.atI_0,Dl.atI_1,Dl.atI_2,Dl.atI_3,decide_eq_true_eq,true_and,Bool.true_and,Dl.okEq_int_int,beq_iff_eq,beq_self_eq_true,beq_eq_false_iff_ne,Bool.not_eq_true',ne_eq,ite_not,Dl.sz0,Dl.sz1,Dl.sz2,Dl.sz4]; exact h1
    · obtain ⟨e,he,hd⟩:=List.mem_filterMap.mp hd
      obtain ⟨j,hj⟩:=List.getElem?_of_mem he
      obtain ⟨p,hp,rfl⟩:=items_get hj
      cases hd
      simp only [Dl.dSeq,Dl.dSetD,Dl.xDGet,Dl.dDPut,Dl.dDPop,Dl.dDIn,Dl.dctOf,Dl.dctR,Dl.fzOf,Dl.keyD,Dl.diItems,Dl.dFz,Dl.pinO,Dl.pinS,Dl.dMeth,Dl.dMake,Dl.aNil,Dl.aCons,Dl.atsOf,Dl.inA,Dl.dX,Dl.xVar,Dl.xFld,Dl.dSetF,Dl.fldOf,Dl.putAt,Dl.fewOf,Dl.setO,Dl.upA_a,Dl.startO,Dl.entO,Dl.slA,Dl.outO,Dl.outA_a,Dl.outA_b,List.head?_cons,decide_true,Bool.and_self,and_self,Dl.dSeq,Dl.dNext,Dl.dIfS,Dl.dB,Dl.dOp,Dl.dVar,Dl.dC,Dl.dLst,Dl.dTup,Dl.dNil,Dl.dCons,Dl.dRet,Dl.dCall,Dl.cMax,Dl.cMin,Dl.dDrop,Dl.dSet,Dl.dOwn,Dl.dFrz,Dl.dAnd,Dl.dOr,Dl.dNot,Dl.dIf,Dl.dNever,Dl.rII,Dl.rIC,Dl.rEqD,Dl.rNeD,Dl.rIsN,Dl.rNotN,Dl.gdTup2,Dl.dExt,Dl.cSorted,Dl.cMinL,Dl.dLstRng,Dl.dYes,Dl.dropOw,Dl.gdName,Dl.startD,List.map_cons,List.map_nil,List.length_cons,List.length_nil,List.cons_append,List.nil_append,List.replicate_zero,List.replicate_succ,Nat.reduceAdd,Nat.reduceSub,List.getElem?_cons_zero,List.getElem?_cons_succ,List.set_cons_zero,List.set_cons_succ,Bool.not_true,Bool.not_false,if_true,if_false,reduceCtorEq,Bool.false_eq_true,Dl.rF,Dl.cLenF,Dl.diSeqF,Dl.dTruF,Option.some.injEq,Dl.eqD_int_int,Dl.eqD_str_str,Dl.eqD_tup_tup,Dl.eqD_lst_lst,Dl.eqDL_nil_nil,Dl.eqDL_cons_nil,Dl.eqDL_cons_cons,Dl.isNonD_non,Dl.isNonD_int,Dl.addF_int,Dl.addF_lst,Dl.ixF_tup,Dl.ixF_lst,Dl.seqF_lst,Dl.truF_bl,Dl.truF_lst,exists_eq_left',Dl.atI_0,Dl.atI_1,Dl.atI_2,Dl.atI_3,decide_eq_true_eq,true_and,Bool.true_and,Dl.okEq_int_int,beq_iff_eq,beq_self_eq_true,beq_eq_false_iff_ne,Bool.not_eq_true',ne_eq,ite_not,Dl.sz0,Dl.sz1,Dl.sz2,Dl.sz4]
    · rw [fm_none]; simp
    · rw [fm_none]
      simp only [Dl.dSeq,Dl.dSetD,Dl.xDGet,Dl.dDPut,Dl.dDPop,Dl.dDIn,Dl.dctOf,Dl.dctR,Dl.fzOf,Dl.keyD,Dl.diItems,Dl.dFz,Dl.pinO,Dl.pinS,Dl.dMeth,Dl.dMake,Dl.aNil,Dl.aCons,Dl.atsOf,Dl.inA,Dl.dX,Dl.xVar,Dl.xFld,Dl.dSetF,Dl.fldOf,Dl.putAt,Dl.fewOf,Dl.setO,Dl.upA_a,Dl.startO,Dl.entO,Dl.slA,Dl.outO,Dl.outA_a,Dl.outA_b,List.head?_cons,decide_true,Bool.and_self,and_self,Dl.dSeq,Dl.dNext,Dl.dIfS,Dl.dB,Dl.dOp,Dl.dVar,Dl.dC,Dl.dLst,Dl.dTup,Dl.dNil,Dl.dCons,Dl.dRet,Dl.dCall,Dl.cMax,Dl.cMin,Dl.dDrop,Dl.dSet,Dl.dOwn,Dl.dFrz,Dl.dAnd,Dl.dOr,Dl.dNot,Dl.dIf,Dl.dNever,Dl.rII,Dl.rIC,Dl.rEqD,Dl.rNeD,Dl.rIsN,Dl.rNotN,Dl.gdTup2,Dl.dExt,Dl.cSorted,Dl.cMinL,Dl.dLstRng,Dl.dYes,Dl.dropOw,Dl.gdName,Dl.startD,List.map_cons,List.map_nil,List.length_cons,List.length_nil,List.cons_append,List.nil_append,List.replicate_zero,List.replicate_succ,Nat.reduceAdd,Nat.reduceSub,List.getElem?_cons_zero,List.getElem?_cons_succ,List.set_cons_zero,List.set_cons_succ,Bool.not_true,Bool.not_false,if_true,if_false,reduceCtorEq,Bool.false_eq_true,Dl.rF,Dl.cLenF,Dl.diSeqF,Dl.dTruF,Option.some.injEq,Dl.eqD_int_int,Dl.eqD_str_str,Dl.eqD_tup_tup,Dl.eqD_lst_lst,Dl.eqDL_nil_nil,Dl.eqDL_cons_nil,Dl.eqDL_cons_cons,Dl.isNonD_non,Dl.isNonD_int,Dl.addF_int,Dl.addF_lst,Dl.ixF_tup,Dl.ixF_lst,Dl.seqF_lst,Dl.truF_bl,Dl.truF_lst,exists_eq_left',Dl.atI_0,Dl.atI_1,Dl.atI_2,Dl.atI_3,decide_eq_true_eq,true_and,Bool.true_and,Dl.okEq_int_int,beq_iff_eq,beq_self_eq_true,beq_eq_false_iff_ne,Bool.not_eq_true',ne_eq,ite_not,Dl.sz0,Dl.sz1,Dl.sz2,Dl.sz4]
      exact q
end Law
namespace Law
open PySem L2 Dl Rg
theorem q_e_t:¬ (("e":Str) = ("t":Str)):=by decide +kernel
theorem q_t_e:¬ (("t":Str) = ("e":Str)):=by decide +kernel
theorem q_t_f:¬ (("t":Str) = ("f":Str)):=by decide +kernel
theorem q_f_t:¬ (("f":Str) = ("t":Str)):=by decide +kernel
section
variable {c c1 c2 c3:Ck}
theorem pE:putC [] "e" c = [(("e":Str),c)]:=by simp [putC]
theorem pT:putC [(("e":Str),c1)] "t" c2 = [(("e":Str),c1),("t",c2)]:=by simp [putC,q_e_t]
theorem pTT:putC [(("e":Str),c1),("t",c2)] "t" c = [(("e":Str),c1),("t",c)]:=by simp [putC,q_e_t]
theorem vT:valC [(("e":Str),c1),("t",c2)] "t" = some c2:=by simp [valC,q_e_t]
theorem vE:valC [(("e":Str),c1),("t",c2)] "e" = some c1:=by simp [valC]
theorem dE:dropC [(("e":Str),c1),("t",c2)] "e" = [(("t":Str),c2)]:=by simp [dropC,q_t_e]
theorem pF:putC [(("t":Str),c)] "f" c3 = [(("t":Str),c),("f",c3)]:=by simp [putC,q_t_f]
theorem pTF:putC [(("t":Str),c),("f",c3)] "t" c1 = [(("t":Str),c1),("f",c3)]:=by simp [putC,q_f_t]
theorem vTF:valC [(("t":Str),c),("f",c3)] "t" = some c:=by simp [valC]
end
theorem tm_none {size left a e:Int}:RingsOf (.tm size left none) a e []:=⟨.nil,fun t=>⟨fun z=>absurd z (by simp),fun zz102=>zz102.elim fun _ zz=>zz.elim fun _ zz=>zz.elim fun s zz=>zz.elim fun z _=>by cases z⟩⟩
theorem tm_one {size left s a e:Int} (h1:a < s + left) (h2:s + left ≤ e):RingsOf (.tm size left (some s)) a e [s + left]:=by
  refine ⟨List.pairwise_singleton _ _,fun t=>?_⟩
  rw [List.mem_singleton]
  constructor
  · rintro rfl; exact ⟨h1,h2,s,rfl,rfl⟩
  · rintro ⟨_,_,s',e,rfl⟩; cases e; rfl
theorem tm_no {size left s a e:Int} (h:e < s + left):RingsOf (.tm size left (some s)) a e []:=by
  refine ⟨.nil,fun t=>⟨fun z=>absurd z (by simp),?_⟩⟩
  rintro ⟨_,_,s',e,rfl⟩; cases e; omega
theorem ev_two {b e:Int} (h:b + 5 ≤ e):RingsOf (.ev b 5 (some 2)) b e [b + 5]:=by
  refine ⟨List.pairwise_singleton _ _,fun t=>?_⟩
  rw [List.mem_singleton]
  constructor
  · rintro rfl; exact ⟨by omega,h,1,by omega,by omega,fun k e=>by cases e; omega⟩
  · rintro ⟨h1,h2,i,h3,rfl,h4⟩
    have:=h4 2 rfl
    have:i = 1:=by omega
    subst this; omega
noncomputable def filt (x:Str) (rows:List (Int × Str)):List Int:=(rows.filter fun r=>decide (r.2 = x)).map (·.1)
theorem filt_app (x:Str) (l m:List (Int × Str)):filt x (l ++ m) = filt x l ++ filt x m:=by unfold filt; rw [List.filter_append,List.map_append]
theorem filt_same (x:Str) (l:List Int):filt x (l.map fun t=>(t,x)) = l:=by
  induction l with
  | nil=>rfl
  | cons a r ih =>
    unfold filt at ih ⊢
    rw [List.map_cons,List.filter_cons_of_pos (by simp),List.map_cons,ih]
theorem filt_other {x y:Str} (h:¬ y = x) (l:List Int):filt x (l.map fun t=>(t,y)) = []:=by
  induction l with
  | nil=>rfl
  | cons a r ih =>
    unfold filt at ih ⊢
    rw [List.map_cons,List.filter_cons_of_neg (by simpa using h),ih]
theorem filt_rows (x:Str) (rows:List (Int × Str)):(rows.filter fun r=>decide (r.2 = x)) = (filt x rows).map fun t=>(t,x):=by
  unfold filt
  rw [List.map_map]
  have:∀ r ∈ rows.filter (fun r=>decide (r.2 = x)),((fun t=>(t,x)) ∘ fun (r:Int × Str)=>r.1) r = r:=fun r hr=>by
    have:=(List.mem_filter.mp hr).2
    have e:r.2 = x:=by simpa using this
    show (r.1,x) = r
    rw [← e]
  rw [List.map_congr_left this]; simp
theorem le_klt {a b:Int × Str} (h:klt (rowK b) (rowK a) = false):a.1 ≤ b.1:=by
  unfold rowK klt at h
  by_cases e:b.1 = a.1
  · omega
  · rw [if_neg (fun z=>e (by injection z))] at h
    have:decide (b.1 < a.1) = false:=h
    have:=of_decide_eq_false this
    omega
theorem filt_srt {x:Str} {rows rs:List (Int × Str)} {l:List Int} (hp:rows.Perm rs) (hs:Srt rows) (hf:filt x rs = l) (hl:Rise l):filt x rows = l:=by
  have p1:(filt x rows).Perm l:=by
    rw [← hf]; exact (hp.filter _).map _
  have nd:(filt x rows).Nodup:=p1.nodup_iff.mpr (hl.imp fun h=>by omega)
  have le:(filt x rows).Pairwise (· ≤ ·):=List.pairwise_map.mpr ((hs.imp fun h=>le_klt h).sublist List.filter_sublist)
  refine rise_ext ?_ hl fun t=>p1.mem_iff
  exact (le.and nd).imp fun h=>by omega
section
variable {C:Nat} {Q:D→List Ar→Prop} {re now:Int} {x y:Str} {c1 c2:Ck} {l1 l2:List Int}
theorem use_tick2 (h0:re ≤ now) (h1:now ≤ 10000000) (o1:Ok c1) (o2:Ok c2) (r1:RingsOf c1 re now l1) (r2:RingsOf c2 re now l2) (len:l1.length + l2.length < 64)
    (k:∀ rows,rows.Perm (l1.map (fun t=>(t,x)) ++ l2.map (fun t=>(t,y)))→Srt rows→Q (.lst (rows.map rowD)) [.o C (Hs.fs ⟨now,[(x,c1),(y,c2)],false⟩),.v (.int now)]) :
    S_House_tick C [.o C (Hs.fs ⟨re,[(x,c1),(y,c2)],false⟩),.v (.int now)] Q:=by
  have un:∀ rs,AllR re now [(x,c1),(y,c2)] rs→rs = l1.map (fun t=>(t,x)) ++ l2.map (fun t=>(t,y)):=by
    rintro rs ⟨a,m,ha,⟨b,m',hb,hm',rfl⟩,rfl⟩
    have hm':m' = []:=hm'
    subst hm'
    rw [ha.unique r1,hb.unique r2]; simp
  refine ⟨⟨re,[(x,c1),(y,c2)],false⟩,now,rfl,rfl,h0,h1,fun p hp=>?_,fun rs hr=>?_,fun rows zz103=>zz103.elim fun rs zz=>zz.elim fun hr zz=>zz.elim fun hp hs=>k rows (by rw [← un rs hr]; exact hp) hs⟩
  · have:p = (x,c1)∨p = (y,c2):=by simpa using hp
    rcases this with rfl | rfl
    · exact o1
    · exact o2
  · rw [un rs hr]; simpa using len
theorem use_tick1 (h0:re ≤ now) (h1:now ≤ 10000000) (o1:Ok c1) (r1:RingsOf c1 re now []) (k:Q (.lst []) [.o C (Hs.fs ⟨now,[(x,c1)],false⟩),.v (.int now)]) :
    S_House_tick C [.o C (Hs.fs ⟨re,[(x,c1)],false⟩),.v (.int now)] Q:=by
  have un:∀ rs,AllR re now [(x,c1)] rs→rs = []:=by
    rintro rs ⟨a,m,ha,hm,rfl⟩
    have hm:m = []:=hm
    subst hm
    rw [ha.unique r1]; rfl
  refine ⟨⟨re,[(x,c1)],false⟩,now,rfl,rfl,h0,h1,fun p hp=>?_,fun rs hr=>?_,fun rows zz104=>zz104.elim fun rs zz=>zz.elim fun hr zz=>zz.elim fun hp hs=>?_⟩
  · have:p = (x,c1):=by simpa using hp
    subst this; exact o1
  · rw [un rs hr]; simp
  · have:=un rs hr
    subst this
    rw [hp.eq_nil]; exact k
theorem use_put {cl:List (Str × Ck)} (hl:cl.length < 1000) (k:Q .non [.o C (Hs.fs ⟨re,putC cl x c1,false⟩),.v (.str x),.v (ckD c1)]):S_House_put C [.o C (Hs.fs ⟨re,cl,false⟩),.v (.str x),.v (ckD c1)] Q :=
  ⟨⟨re,cl,false⟩,x,c1,rfl,rfl,hl,k⟩
theorem use_clock {cl:List (Str × Ck)} (hv:valC cl x = some c1) (k:Q (ckD c1) [.o C (Hs.fs ⟨re,cl,false⟩),.v (.str x)]):S_House_clock C [.o C (Hs.fs ⟨re,cl,false⟩),.v (.str x)] Q :=
  ⟨⟨re,cl,false⟩,x,c1,rfl,hv,k⟩
end
theorem srt_unique:∀ {l m:List (Int × Str)},l.Perm m→Srt l→Srt m→l = m
  | [],m,h,_,_=>by rw [List.nil_perm.mp h]
  | a :: l,[],h,_,_=>by cases h.length_eq
  | a :: l,b :: m,h,h1,h2=>by
    have g1:=List.pairwise_cons.mp h1
    have g2:=List.pairwise_cons.mp h2
    have sh:∀ a b:Int × Str,shp (rowK a) = shp (rowK b):=fun _ _=>rfl
    have e:a = b:=by
      rcases List.mem_cons.mp (h.mem_iff.mp (List.mem_cons_self (a:=a))) with z | z
      · exact z
      · rcases List.mem_cons.mp (h.mem_iff.mpr (List.mem_cons_self (a:=b))) with w | w
        · exact w.symm
        · have:=klt_eq _ _ (sh a b) (g2.1 a z) (g1.1 b w)
          have e1:=congrArg unK this
          exact e1
    subst e
    rw [srt_unique (List.perm_cons a |>.mp h) g1.2 g2.2]
noncomputable def momF (x:Str):D→Option D
  | .tup [.int t,.str y]=>if y = x then some (.int t) else none
  | _=>none
noncomputable def keepF (x:Str):D→Option D
  | .tup [.int t,.str y]=>if y = x then some (.tup [.int t,.str y]) else none
  | _=>none
theorem momF_rows (x:Str):∀ rows:List (Int × Str),(rows.map rowD).filterMap (momF x) = iL (filt x rows)
  | []=>rfl
  | r :: rs=>by
    have ih:=momF_rows x rs
    unfold filt at ih ⊢
    by_cases h:r.2 = x
    · rw [List.map_cons,List.filterMap_cons_some (b:=.int r.1) (by show (if r.2 = x then _ else _) = _; rw [if_pos h]),List.filter_cons_of_pos (by simpa using h),ih]; rfl
    · rw [List.map_cons,List.filterMap_cons_none (by show (if r.2 = x then _ else _) = _; rw [if_neg h]),List.filter_cons_of_neg (by simpa using h),ih]
theorem keepF_rows (x:Str):∀ rows:List (Int × Str),(rows.map rowD).filterMap (keepF x) = (rows.filter fun r=>decide (r.2 = x)).map rowD
  | []=>rfl
  | r :: rs=>by
    have ih:=keepF_rows x rs
    by_cases h:r.2 = x
    · rw [List.map_cons,List.filterMap_cons_some (b:=rowD r) (by show (if r.2 = x then _ else _) = _; rw [if_pos h]),List.filter_cons_of_pos (by simpa using h),ih]; rfl
    · rw [List.map_cons,List.filterMap_cons_none (by show (if r.2 = x then _ else _) = _; rw [if_neg h]),List.filter_cons_of_neg (by simpa using h),ih]
theorem row_key {δ:Ev} (hδ:δ.length = 10) (d:D):((dropOw δ ++ List.replicate 1 Sl.no).set 10 (.sh d))[10]? = some (.sh d):=by
  rw [List.getElem?_set_self (by simp [dropOw,hδ])]
theorem comp_mom {x:Str} {rows:List (Int × Str)} {δ:Ev} {ti:TId} {Q:D→Ev→Prop} (hδ:δ.length = 10) (h6:∀ R:List D→Ev→Prop,R (rows.map rowD) δ→ti δ R) (ok:PyData.strOk x = true) (hn:∀ r ∈ rows,PyData.strOk r.2 = true) (len:rows.length ≤ 1000)
    (q:Q (.lst (iL (filt x rows))) δ):dComp 1 ti (gdName 10) (dB (dOp rEqD (dOp (rF ixF) (dVar 10) (dC (.int 1))) (dC (.str x)))) (dOp (rF ixF) (dVar 10) (dC (.int 0))) δ Q:=by
  refine dComp_at (rows.map rowD) (momF x) h6 (fun d hd=>?_) ?_ (by rw [momF_rows]; exact q)
  · obtain ⟨r,hr,rfl⟩:=List.mem_map.mp hd
    have key:=row_key hδ (rowD r)
    generalize dropOw δ ++ List.replicate 1 Sl.no = γ at key ⊢
    simp only [key,Dl.dSetD,Dl.xDGet,Dl.dDPut,Dl.dDPop,Dl.dDIn,Dl.dctOf,Dl.dctR,Dl.fzOf,Dl.keyD,Dl.diItems,Dl.dFz,Dl.pinO,Dl.pinS,Dl.dMeth,Dl.dMake,Dl.aNil,Dl.aCons,Dl.atsOf,Dl.inA,Dl.dX,Dl.xVar,Dl.xFld,Dl.dSetF,Dl.fldOf,Dl.putAt,Dl.fewOf,Dl.setO,Dl.upA_a,Dl.startO,Dl.entO,Dl.slA,Dl.outO,Dl.outA_a,Dl.outA_b,List.head?_cons,decide_true,Bool.and_self,and_self,Dl.dSeq,Dl.dNext,Dl.dIfS,Dl.dB,Dl.dOp,Dl.dVar,Dl.dC,Dl.dLst,Dl.dTup,Dl.dNil,Dl.dCons,Dl.dRet,Dl.dCall,Dl.cMax,Dl.cMin,Dl.dDrop,Dl.dSet,Dl.dOwn,Dl.dFrz,Dl.dAnd,Dl.dOr,Dl.dNot,Dl.dIf,Dl.dNever,Dl.rII,Dl.rIC,Dl.rEqD,Dl.rNeD,Dl.rIsN,Dl.rNotN,Dl.gdTup2,Dl.dExt,Dl.cSorted,Dl.cMinL,Dl.dLstRng,Dl.dYes,Dl.dropOw,Dl.gdName,Dl.startD,List.map_cons,List.map_nil,List.length_cons,List.length_nil,List.cons_append,List.nil_append,List.replicate_zero,List.replicate_succ,Nat.reduceAdd,Nat.reduceSub,List.getElem?_cons_zero,List.getElem?_cons_succ,List.set_cons_zero,List.set_cons_succ,Bool.not_true,Bool.not_false,if_true,if_false,reduceCtorEq,Bool.false_eq_true,Dl.rF,Dl.cLenF,Dl.diSeqF,Dl.dTruF,Option.some.injEq,Dl.eqD_int_int,Dl.eqD_str_str,Dl.eqD_tup_tup,Dl.eqD_lst_lst,Dl.eqDL_nil_nil,Dl.eqDL_cons_nil,Dl.eqDL_cons_cons,Dl.isNonD_non,Dl.isNonD_int,Dl.addF_int,Dl.addF_lst,Dl.ixF_tup,Dl.ixF_lst,Dl.seqF_lst,Dl.truF_bl,Dl.truF_lst,exists_eq_left',Dl.atI_0,Dl.atI_1,Dl.atI_2,Dl.atI_3,decide_eq_true_eq,true_and,Bool.true_and,Dl.okEq_int_int,beq_iff_eq,beq_self_eq_true,beq_eq_false_iff_ne,Bool.not_eq_true',ne_eq,ite_not,Dl.sz0,Dl.sz1,Dl.sz2,Dl.sz4]
    refine ⟨okS (hn r hr) ok,?_⟩
    by_cases h:r.2 = x
    · rw [if_pos (by simpa using h)]
      show (if r.2 = x then _ else _) = _
      rw [if_pos h]
    · rw [if_neg (by simpa using h)]
      show (if r.2 = x then _ else _) = _
      rw [if_neg h]
  · refine Nat.le_trans (List.length_filterMap_le _ _) ?_
    rw [List.length_map]; have:=sizeLine_big (n:=rows.length) (by omega); omega
theorem comp_keep {x:Str} {rows:List (Int × Str)} {δ δ0:Ev} {ti:TId} {Q:D→Ev→Prop} (hδ:δ.length = 10) (h6:∀ R:List D→Ev→Prop,R (rows.map rowD) δ→ti δ0 R) (ok:PyData.strOk x = true) (hn:∀ r ∈ rows,PyData.strOk r.2 = true) (len:rows.length ≤ 1000)
    (q:Q (.lst (((filt x rows).map fun t=>(t,x)).map rowD)) δ):dComp 1 ti (gdName 10) (dB (dOp rEqD (dOp (rF ixF) (dVar 10) (dC (.int 1))) (dC (.str x)))) (dVar 10) δ0 Q:=by
  refine dComp_by (rows.map rowD) δ (keepF x) h6 (fun d hd=>?_) ?_ (by rw [keepF_rows,filt_rows]; exact q)
  · obtain ⟨r,hr,rfl⟩:=List.mem_map.mp hd
    have key:=row_key hδ (rowD r)
    generalize dropOw δ ++ List.replicate 1 Sl.no = γ at key ⊢
    simp only [key,Dl.dSetD,Dl.xDGet,Dl.dDPut,Dl.dDPop,Dl.dDIn,Dl.dctOf,Dl.dctR,Dl.fzOf,Dl.keyD,Dl.diItems,Dl.dFz,Dl.pinO,Dl.pinS,Dl.dMeth,Dl.dMake,Dl.aNil,Dl.aCons,Dl.atsOf,Dl.inA,Dl.dX,Dl.xVar,Dl.xFld,Dl.dSetF,Dl.fldOf,Dl.putAt,Dl.fewOf,Dl.setO,Dl.upA_a,Dl.startO,Dl.entO,Dl.slA,Dl.outO,Dl.outA_a,Dl.outA_b,List.head?_cons,decide_true,Bool.and_self,and_self,Dl.dSeq,Dl.dNext,Dl.dIfS,Dl.dB,Dl.dOp,Dl.dVar,Dl.dC,Dl.dLst,Dl.dTup,Dl.dNil,Dl.dCons,Dl.dRet,Dl.dCall,Dl.cMax,Dl.cMin,Dl.dDrop,Dl.dSet,Dl.dOwn,Dl.dFrz,Dl.dAnd,Dl.dOr,Dl.dNot,Dl.dIf,Dl.dNever,Dl.rII,Dl.rIC,Dl.rEqD,Dl.rNeD,Dl.rIsN,Dl.rNotN,Dl.gdTup2,Dl.dExt,Dl.cSorted,Dl.cMinL,Dl.dLstRng,Dl.dYes,Dl.dropOw,Dl.gdName,Dl.startD,List.map_cons,List.map_nil,List.length_cons,List.length_nil,List.cons_append,List.nil_append,List.replicate_zero,List.replicate_succ,Nat.reduceAdd,Nat.reduceSub,List.getElem?_cons_zero,List.getElem?_cons_succ,List.set_cons_zero,List.set_cons_succ,Bool.not_true,Bool.not_false,if_true,if_false,reduceCtorEq,Bool.false_eq_true,Dl.rF,Dl.cLenF,Dl.diSeqF,Dl.dTruF,Option.some.injEq,Dl.eqD_int_int,Dl.eqD_str_str,Dl.eqD_tup_tup,Dl.eqD_lst_lst,Dl.eqDL_nil_nil,Dl.eqDL_cons_nil,Dl.eqDL_cons_cons,Dl.isNonD_non,Dl.isNonD_int,Dl.addF_int,Dl.addF_lst,Dl.ixF_tup,Dl.ixF_lst,Dl.seqF_lst,Dl.truF_bl,Dl.truF_lst,exists_eq_left',Dl.atI_0,Dl.atI_1,Dl.atI_2,Dl.atI_3,decide_eq_true_eq,true_and,Bool.true_and,Dl.okEq_int_int,beq_iff_eq,beq_self_eq_true,beq_eq_false_iff_ne,Bool.not_eq_true',ne_eq,ite_not,Dl.sz0,Dl.sz1,Dl.sz2,Dl.sz4]
    refine ⟨okS (hn r hr) ok,?_⟩
    by_cases h:r.2 = x
    · rw [if_pos (by simpa using h)]
      show (if r.2 = x then _ else _) = _
      rw [if_pos h]
    · rw [if_neg (by simpa using h)]
      show (if r.2 = x then _ else _) = _
      rw [if_neg h]
  · refine Nat.le_trans (List.length_filterMap_le _ _) ?_
    rw [List.length_map]; have:=sizeLine_big (n:=rows.length) (by omega); omega
theorem ok_n (x:Str) (h:x = "e"∨x = "t"∨x = "f"):PyData.strOk x = true:=by
  rcases h with rfl | rfl | rfl <;> decide +kernel
theorem rows_et {rows:List (Int × Str)} {l1 l2:List Int} (hp:rows.Perm (l1.map (fun t=>(t,("e":Str))) ++ l2.map (fun t=>(t,("t":Str))))) (hs:Srt rows) (r1:Rise l1) (r2:Rise l2) :
    filt "e" rows = l1∧filt "t" rows = l2∧rows.length = l1.length + l2.length∧∀ r ∈ rows,PyData.strOk r.2 = true:=by
  refine ⟨filt_srt hp hs (by rw [filt_app,filt_same,filt_other q_t_e,List.append_nil]) r1,filt_srt hp hs (by rw [filt_app,filt_other q_e_t,filt_same]; rfl) r2,by rw [hp.length_eq]; simp,fun r hr=>?_⟩
  have:=hp.mem_iff.mp hr
  rcases List.mem_append.mp this with h | h
  · obtain ⟨t,_,rfl⟩:=List.mem_map.mp h; exact ok_n _ (.inl rfl)
  · obtain ⟨t,_,rfl⟩:=List.mem_map.mp h; exact ok_n _ (.inr (.inl rfl))
theorem comp_keepG {x:Str} {G:List (Int × Str)→Ev→Prop} {δ0:Ev} {ti:TId} {Q:D→Ev→Prop} (h6:∀ R:List D→Ev→Prop,(∀ rows δ,G rows δ→R (rows.map rowD) δ)→ti δ0 R) (ok:PyData.strOk x = true)
    (hG:∀ rows δ,G rows δ→δ.length = 10∧(∀ r ∈ rows,PyData.strOk r.2 = true)∧rows.length ≤ 1000∧Q (.lst (((filt x rows).map fun t=>(t,x)).map rowD)) δ) :
    dComp 1 ti (gdName 10) (dB (dOp rEqD (dOp (rF ixF) (dVar 10) (dC (.int 1))) (dC (.str x)))) (dVar 10) δ0 Q:=by
  refine h6 _ fun rows δ g=>?_
  obtain ⟨hδ,hn,len,q⟩:=hG rows δ g
  exact comp_keep (ti:=fun δ R=>R (rows.map rowD) δ) hδ (fun R h=>h) ok hn len q
theorem okL_rows:∀ {l:List (Int × Str)},(∀ r ∈ l,PyData.strOk r.2 = true)→D.okL (l.map rowD) = true
  | [],_=>rfl
  | r :: l,h=>by
    show ((true && (PyData.strOk r.2 && true)) && D.okL (l.map rowD)) = true
    rw [h r List.mem_cons_self,okL_rows fun x hx=>h x (List.mem_cons_of_mem _ hx)]; rfl
theorem depL_rows:∀ l:List (Int × Str),D.depL (l.map rowD) ≤ 1
  | []=>Nat.zero_le _
  | r :: l=>by
    show max (max 0 (max 0 0) + 1) (D.depL (l.map rowD)) ≤ 1
    have:=depL_rows l
    omega
theorem okRows {l m:List (Int × Str)} (h1:∀ r ∈ l,PyData.strOk r.2 = true) (h2:∀ r ∈ m,PyData.strOk r.2 = true):okEq (.lst (l.map rowD)) (.lst (m.map rowD)):=by
  refine ⟨okL_rows h1,okL_rows h2,?_⟩
  show min (D.depL _ + 1) (D.depL _ + 1) ≤ 60
  have:=depL_rows l
  omega
theorem eqDL_rows:∀ l:List (Int × Str),eqDL (l.map rowD) (l.map rowD) = true
  | []=>rfl
  | r :: l=>by
    show (eqD (rowD r) (rowD r) && eqDL (l.map rowD) (l.map rowD)) = true
    rw [eqDL_rows l]
    show (((r.1 == r.1) && ((r.2 == r.2) && true)) && true) = true
    simp
theorem ok_t1 {en:Int}:∀ r ∈ [(en,("t":Str))],PyData.strOk r.2 = true:=fun r hr=>by
  have e:r = (en,("t":Str)):=by simpa using hr
  rw [e]; exact ok_n _ (.inr (.inl rfl))
theorem ok_ft {a b:Int}:∀ r ∈ [(a,("f":Str)),(b,("t":Str))],PyData.strOk r.2 = true:=fun r hr=>by
  have e:r = (a,("f":Str))∨r = (b,("t":Str)):=by simpa using hr
  rcases e with e | e
  · rw [e]; exact ok_n _ (.inr (.inr rfl))
  · rw [e]; exact ok_n _ (.inr (.inl rfl))
end Law
namespace Law
open PySem L2 Dl Rg
noncomputable def t_law_25 (c_House:Nat):TSd:=dRet ((dOp rEqD ((dMeth 4 c_House "tick" (S_House_tick c_House) ((aCons ((dOp (rF addF) ((dVar 8)) (dC (.int 999)))) (aNil))))) ((dVar 9))))
noncomputable def t_law_24 (c_House:Nat):TSd:=dSeq (dSet 9 ((dCall cSortK ((dCons ((dLst ((dCons ((dTup ((dCons ((dOp (rF addF) ((dVar 8)) (dC (.int 104)))) ((dCons (dC (.str "f")) (dNil))))))) ((dCons ((dTup ((dCons ((dOp (rF addF) ((dOp (rF addF) ((dVar 8)) (dC (.int 99)))) ((dVar 1)))) ((dCons (dC (.str "t")) (dNil))))))) (dNil))))))) (dNil)))))) ((t_law_25 c_House))
noncomputable def t_law_23 (c_House:Nat):TSd:=dSeq (dDrop ((dMeth 4 c_House "put" (S_House_put c_House) ((aCons (dC (.str "t")) ((aCons ((dCall S_begun ((dCons ((dMeth 4 c_House "clock" (S_House_clock c_House) ((aCons (dC (.str "t")) (aNil))))) ((dCons ((dOp (rF addF) ((dVar 8)) (dC (.int 99)))) (dNil))))))) (aNil)))))))) ((t_law_24 c_House))
noncomputable def t_law_22 (c_House:Nat):TSd:=dSeq (dDrop ((dMeth 4 c_House "put" (S_House_put c_House) ((aCons (dC (.str "f")) ((aCons ((dTup ((dCons (dC (.str "every")) ((dCons ((dOp (rF addF) ((dVar 8)) (dC (.int 99)))) ((dCons (dC (.int 5)) ((dCons (dC (.int 2)) (dNil))))))))))) (aNil)))))))) ((t_law_23 c_House))
noncomputable def t_law_21 (c_House:Nat):TSd:=dSeq (dIfS (dOr (dB (dOp rNotN ((dMeth 4 c_House "next_due" (S_House_next_due c_House) (aNil))) (dC .non))) (dB (dOp rNeD ((dMeth 4 c_House "tick" (S_House_tick c_House) ((aCons ((dOp (rF addF) ((dVar 8)) (dC (.int 99)))) (aNil))))) ((dLst (dNil)))))) (dRet (dC (.bl false))) (dNext)) ((t_law_22 c_House))
noncomputable def t_law_20 (c_House:Nat):TSd:=dSeq (dDrop ((dMeth 4 c_House "drop" (S_House_drop c_House) ((aCons (dC (.str "e")) (aNil)))))) ((t_law_21 c_House))
noncomputable def t_law_19 (c_House:Nat):TSd:=dSeq (dDrop ((dMeth 4 c_House "put" (S_House_put c_House) ((aCons (dC (.str "t")) ((aCons ((dCall S_stopped ((dCons ((dCall S_anew ((dCons ((dMeth 4 c_House "clock" (S_House_clock c_House) ((aCons (dC (.str "t")) (aNil))))) ((dCons ((dVar 8)) (dNil))))))) ((dCons ((dVar 8)) (dNil))))))) (aNil)))))))) ((t_law_20 c_House))
noncomputable def t_law_18 (c_House:Nat):TSd:=dSeq (dIfS (dB (dOp rNeD ((dComp 1 (diSeqF ((dVar 6))) (gdName 10) (dB (dOp rEqD ((dOp (rF ixF) ((dVar 10)) (dC (.int 1)))) (dC (.str "e")))) ((dOp (rF ixF) ((dVar 10)) (dC (.int 0)))))) ((dCall S_rings ((dCons ((dVar 3)) ((dCons (dC (.int 0)) ((dCons ((dOp (rII fun i j=>.int (i - j)) ((dVar 8)) (dC (.int 1)))) (dNil))))))))))) (dRet (dC (.bl false))) (dNext)) ((t_law_19 c_House))
noncomputable def t_law_17 (c_House:Nat):TSd:=dSeq (dIfS (dB (dOp rNeD ((dComp 1 (diSeqF ((dMeth 4 c_House "tick" (S_House_tick c_House) ((aCons ((dVar 8)) (aNil)))))) (gdName 10) (dB (dOp rEqD ((dOp (rF ixF) ((dVar 10)) (dC (.int 1)))) (dC (.str "t")))) ((dVar 10)))) ((dLst ((dCons ((dTup ((dCons ((dVar 8)) ((dCons (dC (.str "t")) (dNil))))))) (dNil))))))) (dRet (dC (.bl false))) (dNext)) ((t_law_18 c_House))
noncomputable def t_law_16 (c_House:Nat):TSd:=dSeq (dIfS (dB (dOp rNeD ((dComp 1 (diSeqF ((dVar 6))) (gdName 10) (dB (dOp rEqD ((dOp (rF ixF) ((dVar 10)) (dC (.int 1)))) (dC (.str "t")))) ((dOp (rF ixF) ((dVar 10)) (dC (.int 0)))))) ((dLst ((dCons ((dVar 1)) (dNil))))))) (dRet (dC (.bl false))) (dNext)) ((t_law_17 c_House))
noncomputable def t_law_15 (c_House:Nat):TSd:=dSeq (dSet 6 ((dOp (rF addF) ((dVar 6)) ((dMeth 4 c_House "tick" (S_House_tick c_House) ((aCons ((dOp (rII fun i j=>.int (i - j)) ((dVar 8)) (dC (.int 1)))) (aNil)))))))) ((t_law_16 c_House))
noncomputable def t_law_14 (c_House:Nat):TSd:=dSeq (dSet 8 ((dOp (rF addF) ((dOp (rF addF) ((dVar 5)) ((dVar 1)))) ((dVar 2))))) ((t_law_15 c_House))
noncomputable def t_law_13 (c_House:Nat):TSd:=dSeq (dDrop ((dMeth 4 c_House "put" (S_House_put c_House) ((aCons (dC (.str "t")) ((aCons ((dCall S_longer ((dCons ((dMeth 4 c_House "clock" (S_House_clock c_House) ((aCons (dC (.str "t")) (aNil))))) ((dCons ((dVar 2)) ((dCons ((dVar 7)) (dNil))))))))) (aNil)))))))) ((t_law_14 c_House))
noncomputable def t_law_12 (c_House:Nat):TSd:=dSeq (dSet 6 ((dOp (rF addF) ((dVar 6)) ((dMeth 4 c_House "tick" (S_House_tick c_House) ((aCons ((dVar 7)) (aNil)))))))) ((t_law_13 c_House))
noncomputable def t_law_11 (c_House:Nat):TSd:=dSeq (dSet 7 ((dOp (rF addF) ((dVar 5)) ((dCall S_law_drawn ((dCons ((dVar 0)) ((dCons (dC (.int 5)) ((dCons ((dVar 1)) (dNil)))))))))))) ((t_law_12 c_House))
noncomputable def t_law_10 (c_House:Nat):TSd:=dSeq (dIfS (dB (dOp rNeD ((dCall S_left_at ((dCons ((dMeth 4 c_House "clock" (S_House_clock c_House) ((aCons (dC (.str "t")) (aNil))))) ((dCons ((dVar 5)) (dNil))))))) ((dVar 1)))) (dRet (dC (.bl false))) (dNext)) ((t_law_11 c_House))
noncomputable def t_law_9 (c_House:Nat):TSd:=dSeq (dDrop ((dMeth 4 c_House "put" (S_House_put c_House) ((aCons (dC (.str "t")) ((aCons ((dCall S_anew ((dCons ((dMeth 4 c_House "clock" (S_House_clock c_House) ((aCons (dC (.str "t")) (aNil))))) ((dCons ((dVar 5)) (dNil))))))) (aNil)))))))) ((t_law_10 c_House))
noncomputable def t_law_8 (c_House:Nat):TSd:=dSeq (dIfS (dOr (dB (dOp rNeD ((dComp 1 (diSeqF ((dVar 6))) (gdName 10) (dB (dOp rEqD ((dOp (rF ixF) ((dVar 10)) (dC (.int 1)))) (dC (.str "t")))) ((dOp (rF ixF) ((dVar 10)) (dC (.int 0)))))) ((dLst ((dCons ((dVar 1)) (dNil))))))) (dB (dOp rNeD ((dMeth 4 c_House "tick" (S_House_tick c_House) ((aCons ((dVar 5)) (aNil))))) ((dLst (dNil)))))) (dRet (dC (.bl false))) (dNext)) ((t_law_9 c_House))
noncomputable def t_law_7 (c_House:Nat):TSd:=dSeq (dSet 6 ((dMeth 4 c_House "tick" (S_House_tick c_House) ((aCons ((dVar 5)) (aNil)))))) ((t_law_8 c_House))
noncomputable def t_law_6 (c_House:Nat):TSd:=dSeq (dSet 5 ((dOp (rF addF) ((dVar 1)) ((dCall S_law_drawn ((dCons ((dVar 0)) ((dCons (dC (.int 4)) ((dCons (dC (.int 5)) (dNil)))))))))))) ((t_law_7 c_House))
noncomputable def t_law_5 (c_House:Nat):TSd:=dSeq (dDrop ((dMeth 4 c_House "put" (S_House_put c_House) ((aCons (dC (.str "t")) ((aCons ((dCall S_begun ((dCons ((dCall S_timer ((dCons ((dVar 1)) (dNil))))) ((dCons (dC (.int 0)) (dNil))))))) (aNil)))))))) ((t_law_6 c_House))
noncomputable def t_law_4 (c_House:Nat):TSd:=dSeq (dDrop ((dMeth 4 c_House "put" (S_House_put c_House) ((aCons (dC (.str "e")) ((aCons ((dVar 3)) (aNil)))))))) ((t_law_5 c_House))
noncomputable def t_law_3 (c_House:Nat):TSd:=dSeq (dMake 4 c_House (S_House_init c_House) ((dCons (dC (.int 0)) (dNil)))) ((t_law_4 c_House))
noncomputable def t_law_2 (c_House:Nat):TSd:=dSeq (dSet 3 ((dTup ((dCons (dC (.str "every")) ((dCons ((dCall S_law_drawn ((dCons ((dVar 0)) ((dCons (dC (.int 2)) ((dCons (dC (.int 9)) (dNil))))))))) ((dCons ((dOp (rF addF) (dC (.int 1)) ((dCall S_law_drawn ((dCons ((dVar 0)) ((dCons (dC (.int 3)) ((dCons (dC (.int 9)) (dNil))))))))))) ((dCons (dC .non) (dNil)))))))))))) ((t_law_3 c_House))
noncomputable def t_law_1 (c_House:Nat):TSd:=dSeq (dSet 2 ((dCall S_law_drawn ((dCons ((dVar 0)) ((dCons (dC (.int 1)) ((dCons (dC (.int 9)) (dNil)))))))))) ((t_law_2 c_House))
noncomputable def t_law (c_House:Nat):TSd:=dSeq (dSet 1 ((dOp (rF addF) (dC (.int 1)) ((dCall S_law_drawn ((dCons ((dVar 0)) ((dCons (dC (.int 0)) ((dCons (dC (.int 20)) (dNil)))))))))))) ((t_law_1 c_House))
theorem r_law (C:Nat):∀ ds Q,S_law ds Q→t_law C { nx:=fun _=>Q .non,rt:=fun d _=>Q d } (startD ["_law_script","_law_size","_law_by","_law_every","_law_house","_law_now","_law_rows","_law_middle","_law_end","_law_due"] ds):=by
  rintro ds Q ⟨ns,rfl,hl,q⟩
  simp only [t_law,t_law_1,t_law_2,t_law_3,t_law_4,Dl.dSetD,Dl.xDGet,Dl.dDPut,Dl.dDPop,Dl.dDIn,Dl.dctOf,Dl.dctR,Dl.fzOf,Dl.keyD,Dl.diItems,Dl.dFz,Dl.pinO,Dl.pinS,Dl.dMeth,Dl.dMake,Dl.aNil,Dl.aCons,Dl.atsOf,Dl.inA,Dl.dX,Dl.xVar,Dl.xFld,Dl.dSetF,Dl.fldOf,Dl.putAt,Dl.fewOf,Dl.setO,Dl.upA_a,Dl.startO,Dl.entO,Dl.slA,Dl.outO,Dl.outA_a,Dl.outA_b,List.head?_cons,decide_true,Bool.and_self,and_self,Dl.dSeq,Dl.dNext,Dl.dIfS,Dl.dB,Dl.dOp,Dl.dVar,Dl.dC,Dl.dLst,Dl.dTup,Dl.dNil,Dl.dCons,Dl.dRet,Dl.dCall,Dl.cMax,Dl.cMin,Dl.dDrop,Dl.dSet,Dl.dOwn,Dl.dFrz,Dl.dAnd,Dl.dOr,Dl.dNot,Dl.dIf,Dl.dNever,Dl.rII,Dl.rIC,Dl.rEqD,Dl.rNeD,Dl.rIsN,Dl.rNotN,Dl.gdTup2,Dl.dExt,Dl.cSorted,Dl.cMinL,Dl.dLstRng,Dl.dYes,Dl.dropOw,Dl.gdName,Dl.startD,List.map_cons,List.map_nil,List.length_cons,List.length_nil,List.cons_append,List.nil_append,List.replicate_zero,List.replicate_succ,Nat.reduceAdd,Nat.reduceSub,List.getElem?_cons_zero,List.getElem?_cons_succ,List.set_cons_zero,List.set_cons_succ,Bool.not_true,Bool.not_false,if_true,if_false,reduceCtorEq,Bool.false_eq_true,Dl.rF,Dl.cLenF,Dl.diSeqF,Dl.dTruF,Option.some.injEq,Dl.eqD_int_int,Dl.eqD_str_str,Dl.eqD_tup_tup,Dl.eqD_lst_lst,Dl.eqDL_nil_nil,Dl.eqDL_cons_nil,Dl.eqDL_cons_cons,Dl.isNonD_non,Dl.isNonD_int,Dl.addF_int,Dl.addF_lst,Dl.ixF_tup,Dl.ixF_lst,Dl.seqF_lst,Dl.truF_bl,Dl.truF_lst,exists_eq_left',Dl.atI_0,Dl.atI_1,Dl.atI_2,Dl.atI_3,decide_eq_true_eq,true_and,Bool.true_and,Dl.okEq_int_int,beq_iff_eq,beq_self_eq_true,beq_eq_false_iff_ne,Bool.not_eq_true',ne_eq,ite_not,Dl.sz0,Dl.sz1,Dl.sz2,Dl.sz4]
  refine use_drawn hl (by decide) (by decide) fun x hx0 hx1=>?_
  try simp only [Dl.dSeq,Dl.dSetD,Dl.xDGet,Dl.dDPut,Dl.dDPop,Dl.dDIn,Dl.dctOf,Dl.dctR,Dl.fzOf,Dl.keyD,Dl.diItems,Dl.dFz,Dl.pinO,Dl.pinS,Dl.dMeth,Dl.dMake,Dl.aNil,Dl.aCons,Dl.atsOf,Dl.inA,Dl.dX,Dl.xVar,Dl.xFld,Dl.dSetF,Dl.fldOf,Dl.putAt,Dl.fewOf,Dl.setO,Dl.upA_a,Dl.startO,Dl.entO,Dl.slA,Dl.outO,Dl.outA_a,Dl.outA_b,List.head?_cons,decide_true,Bool.and_self,and_self,Dl.dSeq,Dl.dNext,Dl.dIfS,Dl.dB,Dl.dOp,Dl.dVar,Dl.dC,Dl.dLst,Dl.dTup,Dl.dNil,Dl.dCons,Dl.dRet,Dl.dCall,Dl.cMax,Dl.cMin,Dl.dDrop,Dl.dSet,Dl.dOwn,Dl.dFrz,Dl.dAnd,Dl.dOr,Dl.dNot,Dl.dIf,Dl.dNever,Dl.rII,Dl.rIC,Dl.rEqD,Dl.rNeD,Dl.rIsN,Dl.rNotN,Dl.gdTup2,Dl.dExt,Dl.cSorted,Dl.cMinL,Dl.dLstRng,Dl.dYes,Dl.dropOw,Dl.gdName,Dl.startD,List.map_cons,List.map_nil,List.length_cons,List.length_nil,List.cons_append,List.nil_append,List.replicate_zero,List.replicate_succ,Nat.reduceAdd,Nat.reduceSub,List.getElem?_cons_zero,List.getElem?_cons_succ,List.set_cons_zero,List.set_cons_succ,Bool.not_true,Bool.not_false,if_true,if_false,reduceCtorEq,Bool.false_eq_true,Dl.rF,Dl.cLenF,Dl.diSeqF,Dl.dTruF,Option.some.injEq,Dl.eqD_int_int,Dl.eqD_str_str,Dl.eqD_tup_tup,Dl.eqD_lst_lst,Dl.eqDL_nil_nil,Dl.eqDL_cons_nil,Dl.eqDL_cons_cons,Dl.isNonD_non,Dl.isNonD_int,Dl.addF_int,Dl.addF_lst,Dl.ixF_tup,Dl.ixF_lst,Dl.seqF_lst,Dl.truF_bl,Dl.truF_lst,exists_eq_left',Dl.atI_0,Dl.atI_1,Dl.atI_2,Dl.atI_3,decide_eq_true_eq,true_and,Bool.true_and,Dl.okEq_int_int,beq_iff_eq,beq_self_eq_true,beq_eq_false_iff_ne,Bool.not_eq_true',ne_eq,ite_not,Dl.sz0,Dl.sz1,Dl.sz2,Dl.sz4]
  refine use_drawn hl (by decide) (by decide) fun by_ hb0 hb1=>?_
  try simp only [Dl.dSeq,Dl.dSetD,Dl.xDGet,Dl.dDPut,Dl.dDPop,Dl.dDIn,Dl.dctOf,Dl.dctR,Dl.fzOf,Dl.keyD,Dl.diItems,Dl.dFz,Dl.pinO,Dl.pinS,Dl.dMeth,Dl.dMake,Dl.aNil,Dl.aCons,Dl.atsOf,Dl.inA,Dl.dX,Dl.xVar,Dl.xFld,Dl.dSetF,Dl.fldOf,Dl.putAt,Dl.fewOf,Dl.setO,Dl.upA_a,Dl.startO,Dl.entO,Dl.slA,Dl.outO,Dl.outA_a,Dl.outA_b,List.head?_cons,decide_true,Bool.and_self,and_self,Dl.dSeq,Dl.dNext,Dl.dIfS,Dl.dB,Dl.dOp,Dl.dVar,Dl.dC,Dl.dLst,Dl.dTup,Dl.dNil,Dl.dCons,Dl.dRet,Dl.dCall,Dl.cMax,Dl.cMin,Dl.dDrop,Dl.dSet,Dl.dOwn,Dl.dFrz,Dl.dAnd,Dl.dOr,Dl.dNot,Dl.dIf,Dl.dNever,Dl.rII,Dl.rIC,Dl.rEqD,Dl.rNeD,Dl.rIsN,Dl.rNotN,Dl.gdTup2,Dl.dExt,Dl.cSorted,Dl.cMinL,Dl.dLstRng,Dl.dYes,Dl.dropOw,Dl.gdName,Dl.startD,List.map_cons,List.map_nil,List.length_cons,List.length_nil,List.cons_append,List.nil_append,List.replicate_zero,List.replicate_succ,Nat.reduceAdd,Nat.reduceSub,List.getElem?_cons_zero,List.getElem?_cons_succ,List.set_cons_zero,List.set_cons_succ,Bool.not_true,Bool.not_false,if_true,if_false,reduceCtorEq,Bool.false_eq_true,Dl.rF,Dl.cLenF,Dl.diSeqF,Dl.dTruF,Option.some.injEq,Dl.eqD_int_int,Dl.eqD_str_str,Dl.eqD_tup_tup,Dl.eqD_lst_lst,Dl.eqDL_nil_nil,Dl.eqDL_cons_nil,Dl.eqDL_cons_cons,Dl.isNonD_non,Dl.isNonD_int,Dl.addF_int,Dl.addF_lst,Dl.ixF_tup,Dl.ixF_lst,Dl.seqF_lst,Dl.truF_bl,Dl.truF_lst,exists_eq_left',Dl.atI_0,Dl.atI_1,Dl.atI_2,Dl.atI_3,decide_eq_true_eq,true_and,Bool.true_and,Dl.okEq_int_int,beq_iff_eq,beq_self_eq_true,beq_eq_false_iff_ne,Bool.not_eq_true',ne_eq,ite_not,Dl.sz0,Dl.sz1,Dl.sz2,Dl.sz4]
  refine use_drawn hl (by decide) (by decide) fun b hbb0 hbb1=>?_
  try simp only [Dl.dSeq,Dl.dSetD,Dl.xDGet,Dl.dDPut,Dl.dDPop,Dl.dDIn,Dl.dctOf,Dl.dctR,Dl.fzOf,Dl.keyD,Dl.diItems,Dl.dFz,Dl.pinO,Dl.pinS,Dl.dMeth,Dl.dMake,Dl.aNil,Dl.aCons,Dl.atsOf,Dl.inA,Dl.dX,Dl.xVar,Dl.xFld,Dl.dSetF,Dl.fldOf,Dl.putAt,Dl.fewOf,Dl.setO,Dl.upA_a,Dl.startO,Dl.entO,Dl.slA,Dl.outO,Dl.outA_a,Dl.outA_b,List.head?_cons,decide_true,Bool.and_self,and_self,Dl.dSeq,Dl.dNext,Dl.dIfS,Dl.dB,Dl.dOp,Dl.dVar,Dl.dC,Dl.dLst,Dl.dTup,Dl.dNil,Dl.dCons,Dl.dRet,Dl.dCall,Dl.cMax,Dl.cMin,Dl.dDrop,Dl.dSet,Dl.dOwn,Dl.dFrz,Dl.dAnd,Dl.dOr,Dl.dNot,Dl.dIf,Dl.dNever,Dl.rII,Dl.rIC,Dl.rEqD,Dl.rNeD,Dl.rIsN,Dl.rNotN,Dl.gdTup2,Dl.dExt,Dl.cSorted,Dl.cMinL,Dl.dLstRng,Dl.dYes,Dl.dropOw,Dl.gdName,Dl.startD,List.map_cons,List.map_nil,List.length_cons,List.length_nil,List.cons_append,List.nil_append,List.replicate_zero,List.replicate_succ,Nat.reduceAdd,Nat.reduceSub,List.getElem?_cons_zero,List.getElem?_cons_succ,List.set_cons_zero,List.set_cons_succ,Bool.not_true,Bool.not_false,if_true,if_false,reduceCtorEq,Bool.false_eq_true,Dl.rF,Dl.cLenF,Dl.diSeqF,Dl.dTruF,Option.some.injEq,Dl.eqD_int_int,Dl.eqD_str_str,Dl.eqD_tup_tup,Dl.eqD_lst_lst,Dl.eqDL_nil_nil,Dl.eqDL_cons_nil,Dl.eqDL_cons_cons,Dl.isNonD_non,Dl.isNonD_int,Dl.addF_int,Dl.addF_lst,Dl.ixF_tup,Dl.ixF_lst,Dl.seqF_lst,Dl.truF_bl,Dl.truF_lst,exists_eq_left',Dl.atI_0,Dl.atI_1,Dl.atI_2,Dl.atI_3,decide_eq_true_eq,true_and,Bool.true_and,Dl.okEq_int_int,beq_iff_eq,beq_self_eq_true,beq_eq_false_iff_ne,Bool.not_eq_true',ne_eq,ite_not,Dl.sz0,Dl.sz1,Dl.sz2,Dl.sz4]
  refine use_drawn hl (by decide) (by decide) fun f hf0 hf1=>?_
  simp only [Dl.dSeq,Dl.dSetD,Dl.xDGet,Dl.dDPut,Dl.dDPop,Dl.dDIn,Dl.dctOf,Dl.dctR,Dl.fzOf,Dl.keyD,Dl.diItems,Dl.dFz,Dl.pinO,Dl.pinS,Dl.dMeth,Dl.dMake,Dl.aNil,Dl.aCons,Dl.atsOf,Dl.inA,Dl.dX,Dl.xVar,Dl.xFld,Dl.dSetF,Dl.fldOf,Dl.putAt,Dl.fewOf,Dl.setO,Dl.upA_a,Dl.startO,Dl.entO,Dl.slA,Dl.outO,Dl.outA_a,Dl.outA_b,List.head?_cons,decide_true,Bool.and_self,and_self,Dl.dSeq,Dl.dNext,Dl.dIfS,Dl.dB,Dl.dOp,Dl.dVar,Dl.dC,Dl.dLst,Dl.dTup,Dl.dNil,Dl.dCons,Dl.dRet,Dl.dCall,Dl.cMax,Dl.cMin,Dl.dDrop,Dl.dSet,Dl.dOwn,Dl.dFrz,Dl.dAnd,Dl.dOr,Dl.dNot,Dl.dIf,Dl.dNever,Dl.rII,Dl.rIC,Dl.rEqD,Dl.rNeD,Dl.rIsN,Dl.rNotN,Dl.gdTup2,Dl.dExt,Dl.cSorted,Dl.cMinL,Dl.dLstRng,Dl.dYes,Dl.dropOw,Dl.gdName,Dl.startD,List.map_cons,List.map_nil,List.length_cons,List.length_nil,List.cons_append,List.nil_append,List.replicate_zero,List.replicate_succ,Nat.reduceAdd,Nat.reduceSub,List.getElem?_cons_zero,List.getElem?_cons_succ,List.set_cons_zero,List.set_cons_succ,Bool.not_true,Bool.not_false,if_true,if_false,reduceCtorEq,Bool.false_eq_true,Dl.rF,Dl.cLenF,Dl.diSeqF,Dl.dTruF,Option.some.injEq,Dl.eqD_int_int,Dl.eqD_str_str,Dl.eqD_tup_tup,Dl.eqD_lst_lst,Dl.eqDL_nil_nil,Dl.eqDL_cons_nil,Dl.eqDL_cons_cons,Dl.isNonD_non,Dl.isNonD_int,Dl.addF_int,Dl.addF_lst,Dl.ixF_tup,Dl.ixF_lst,Dl.seqF_lst,Dl.truF_bl,Dl.truF_lst,exists_eq_left',Dl.atI_0,Dl.atI_1,Dl.atI_2,Dl.atI_3,decide_eq_true_eq,true_and,Bool.true_and,Dl.okEq_int_int,beq_iff_eq,beq_self_eq_true,beq_eq_false_iff_ne,Bool.not_eq_true',ne_eq,ite_not,Dl.sz0,Dl.sz1,Dl.sz2,Dl.sz4]
  refine ⟨0,rfl,?_⟩
  simp only [Hs.m_put,nd1,Dl.dSetD,Dl.xDGet,Dl.dDPut,Dl.dDPop,Dl.dDIn,Dl.dctOf,Dl.dctR,Dl.fzOf,Dl.keyD,Dl.diItems,Dl.dFz,Dl.pinO,Dl.pinS,Dl.dMeth,Dl.dMake,Dl.aNil,Dl.aCons,Dl.atsOf,Dl.inA,Dl.dX,Dl.xVar,Dl.xFld,Dl.dSetF,Dl.fldOf,Dl.putAt,Dl.fewOf,Dl.setO,Dl.upA_a,Dl.startO,Dl.entO,Dl.slA,Dl.outO,Dl.outA_a,Dl.outA_b,List.head?_cons,decide_true,Bool.and_self,and_self,Dl.dSeq,Dl.dNext,Dl.dIfS,Dl.dB,Dl.dOp,Dl.dVar,Dl.dC,Dl.dLst,Dl.dTup,Dl.dNil,Dl.dCons,Dl.dRet,Dl.dCall,Dl.cMax,Dl.cMin,Dl.dDrop,Dl.dSet,Dl.dOwn,Dl.dFrz,Dl.dAnd,Dl.dOr,Dl.dNot,Dl.dIf,Dl.dNever,Dl.rII,Dl.rIC,Dl.rEqD,Dl.rNeD,Dl.rIsN,Dl.rNotN,Dl.gdTup2,Dl.dExt,Dl.cSorted,Dl.cMinL,Dl.dLstRng,Dl.dYes,Dl.dropOw,Dl.gdName,Dl.startD,List.map_cons,List.map_nil,List.length_cons,List.length_nil,List.cons_append,List.nil_append,List.replicate_zero,List.replicate_succ,Nat.reduceAdd,Nat.reduceSub,List.getElem?_cons_zero,List.getElem?_cons_succ,List.set_cons_zero,List.set_cons_succ,Bool.not_true,Bool.not_false,if_true,if_false,reduceCtorEq,Bool.false_eq_true,Dl.rF,Dl.cLenF,Dl.diSeqF,Dl.dTruF,Option.some.injEq,Dl.eqD_int_int,Dl.eqD_str_str,Dl.eqD_tup_tup,Dl.eqD_lst_lst,Dl.eqDL_nil_nil,Dl.eqDL_cons_nil,Dl.eqDL_cons_cons,Dl.isNonD_non,Dl.isNonD_int,Dl.addF_int,Dl.addF_lst,Dl.ixF_tup,Dl.ixF_lst,Dl.seqF_lst,Dl.truF_bl,Dl.truF_lst,exists_eq_left',Dl.atI_0,Dl.atI_1,Dl.atI_2,Dl.atI_3,decide_eq_true_eq,true_and,Bool.true_and,Dl.okEq_int_int,beq_iff_eq,beq_self_eq_true,beq_eq_false_iff_ne,Bool.not_eq_true',ne_eq,ite_not,Dl.sz0,Dl.sz1,Dl.sz2,Dl.sz4]
  refine use_put (c1:=.ev b (1 + f) none) (by simp) ?_
  rw [pE]
  simp only [t_law_5,Hs.m_put,nd1,Dl.dSetD,Dl.xDGet,Dl.dDPut,Dl.dDPop,Dl.dDIn,Dl.dctOf,Dl.dctR,Dl.fzOf,Dl.keyD,Dl.diItems,Dl.dFz,Dl.pinO,Dl.pinS,Dl.dMeth,Dl.dMake,Dl.aNil,Dl.aCons,Dl.atsOf,Dl.inA,Dl.dX,Dl.xVar,Dl.xFld,Dl.dSetF,Dl.fldOf,Dl.putAt,Dl.fewOf,Dl.setO,Dl.upA_a,Dl.startO,Dl.entO,Dl.slA,Dl.outO,Dl.outA_a,Dl.outA_b,List.head?_cons,decide_true,Bool.and_self,and_self,Dl.dSeq,Dl.dNext,Dl.dIfS,Dl.dB,Dl.dOp,Dl.dVar,Dl.dC,Dl.dLst,Dl.dTup,Dl.dNil,Dl.dCons,Dl.dRet,Dl.dCall,Dl.cMax,Dl.cMin,Dl.dDrop,Dl.dSet,Dl.dOwn,Dl.dFrz,Dl.dAnd,Dl.dOr,Dl.dNot,Dl.dIf,Dl.dNever,Dl.rII,Dl.rIC,Dl.rEqD,Dl.rNeD,Dl.rIsN,Dl.rNotN,Dl.gdTup2,Dl.dExt,Dl.cSorted,Dl.cMinL,Dl.dLstRng,Dl.dYes,Dl.dropOw,Dl.gdName,Dl.startD,List.map_cons,List.map_nil,List.length_cons,List.length_nil,List.cons_append,List.nil_append,List.replicate_zero,List.replicate_succ,Nat.reduceAdd,Nat.reduceSub,List.getElem?_cons_zero,List.getElem?_cons_succ,List.set_cons_zero,List.set_cons_succ,Bool.not_true,Bool.not_false,if_true,if_false,reduceCtorEq,Bool.false_eq_true,Dl.rF,Dl.cLenF,Dl.diSeqF,Dl.dTruF,Option.some.injEq,Dl.eqD_int_int,Dl.eqD_str_str,Dl.eqD_tup_tup,Dl.eqD_lst_lst,Dl.eqDL_nil_nil,Dl.eqDL_cons_nil,Dl.eqDL_cons_cons,Dl.isNonD_non,Dl.isNonD_int,Dl.addF_int,Dl.addF_lst,Dl.ixF_tup,Dl.ixF_lst,Dl.seqF_lst,Dl.truF_bl,Dl.truF_lst,exists_eq_left',Dl.atI_0,Dl.atI_1,Dl.atI_2,Dl.atI_3,decide_eq_true_eq,true_and,Bool.true_and,Dl.okEq_int_int,beq_iff_eq,beq_self_eq_true,beq_eq_false_iff_ne,Bool.not_eq_true',ne_eq,ite_not,Dl.sz0,Dl.sz1,Dl.sz2,Dl.sz4]
  generalize hsz:1 + x = size
  refine ⟨size,rfl,?_⟩
  refine ⟨size,size,none,0,rfl,okAt_none,?_⟩
  refine use_put (c1:=.tm size size (some 0)) (by simp) ?_
  rw [pT]
  simp only [t_law_6,t_law_7,Dl.dSetD,Dl.xDGet,Dl.dDPut,Dl.dDPop,Dl.dDIn,Dl.dctOf,Dl.dctR,Dl.fzOf,Dl.keyD,Dl.diItems,Dl.dFz,Dl.pinO,Dl.pinS,Dl.dMeth,Dl.dMake,Dl.aNil,Dl.aCons,Dl.atsOf,Dl.inA,Dl.dX,Dl.xVar,Dl.xFld,Dl.dSetF,Dl.fldOf,Dl.putAt,Dl.fewOf,Dl.setO,Dl.upA_a,Dl.startO,Dl.entO,Dl.slA,Dl.outO,Dl.outA_a,Dl.outA_b,List.head?_cons,decide_true,Bool.and_self,and_self,Dl.dSeq,Dl.dNext,Dl.dIfS,Dl.dB,Dl.dOp,Dl.dVar,Dl.dC,Dl.dLst,Dl.dTup,Dl.dNil,Dl.dCons,Dl.dRet,Dl.dCall,Dl.cMax,Dl.cMin,Dl.dDrop,Dl.dSet,Dl.dOwn,Dl.dFrz,Dl.dAnd,Dl.dOr,Dl.dNot,Dl.dIf,Dl.dNever,Dl.rII,Dl.rIC,Dl.rEqD,Dl.rNeD,Dl.rIsN,Dl.rNotN,Dl.gdTup2,Dl.dExt,Dl.cSorted,Dl.cMinL,Dl.dLstRng,Dl.dYes,Dl.dropOw,Dl.gdName,Dl.startD,List.map_cons,List.map_nil,List.length_cons,List.length_nil,List.cons_append,List.nil_append,List.replicate_zero,List.replicate_succ,Nat.reduceAdd,Nat.reduceSub,List.getElem?_cons_zero,List.getElem?_cons_succ,List.set_cons_zero,List.set_cons_succ,Bool.not_true,Bool.not_false,if_true,if_false,reduceCtorEq,Bool.false_eq_true,Dl.rF,Dl.cLenF,Dl.diSeqF,Dl.dTruF,Option.some.injEq,Dl.eqD_int_int,Dl.eqD_str_str,Dl.eqD_tup_tup,Dl.eqD_lst_lst,Dl.eqDL_nil_nil,Dl.eqDL_cons_nil,Dl.eqDL_cons_cons,Dl.isNonD_non,Dl.isNonD_int,Dl.addF_int,Dl.addF_lst,Dl.ixF_tup,Dl.ixF_lst,Dl.seqF_lst,Dl.truF_bl,Dl.truF_lst,exists_eq_left',Dl.atI_0,Dl.atI_1,Dl.atI_2,Dl.atI_3,decide_eq_true_eq,true_and,Bool.true_and,Dl.okEq_int_int,beq_iff_eq,beq_self_eq_true,beq_eq_false_iff_ne,Bool.not_eq_true',ne_eq,ite_not,Dl.sz0,Dl.sz1,Dl.sz2,Dl.sz4]
  refine use_drawn hl (by decide) (by decide) fun z hz0 hz1=>?_
  simp only [Hs.m_tick,nd1,Dl.dSetD,Dl.xDGet,Dl.dDPut,Dl.dDPop,Dl.dDIn,Dl.dctOf,Dl.dctR,Dl.fzOf,Dl.keyD,Dl.diItems,Dl.dFz,Dl.pinO,Dl.pinS,Dl.dMeth,Dl.dMake,Dl.aNil,Dl.aCons,Dl.atsOf,Dl.inA,Dl.dX,Dl.xVar,Dl.xFld,Dl.dSetF,Dl.fldOf,Dl.putAt,Dl.fewOf,Dl.setO,Dl.upA_a,Dl.startO,Dl.entO,Dl.slA,Dl.outO,Dl.outA_a,Dl.outA_b,List.head?_cons,decide_true,Bool.and_self,and_self,Dl.dSeq,Dl.dNext,Dl.dIfS,Dl.dB,Dl.dOp,Dl.dVar,Dl.dC,Dl.dLst,Dl.dTup,Dl.dNil,Dl.dCons,Dl.dRet,Dl.dCall,Dl.cMax,Dl.cMin,Dl.dDrop,Dl.dSet,Dl.dOwn,Dl.dFrz,Dl.dAnd,Dl.dOr,Dl.dNot,Dl.dIf,Dl.dNever,Dl.rII,Dl.rIC,Dl.rEqD,Dl.rNeD,Dl.rIsN,Dl.rNotN,Dl.gdTup2,Dl.dExt,Dl.cSorted,Dl.cMinL,Dl.dLstRng,Dl.dYes,Dl.dropOw,Dl.gdName,Dl.startD,List.map_cons,List.map_nil,List.length_cons,List.length_nil,List.cons_append,List.nil_append,List.replicate_zero,List.replicate_succ,Nat.reduceAdd,Nat.reduceSub,List.getElem?_cons_zero,List.getElem?_cons_succ,List.set_cons_zero,List.set_cons_succ,Bool.not_true,Bool.not_false,if_true,if_false,reduceCtorEq,Bool.false_eq_true,Dl.rF,Dl.cLenF,Dl.diSeqF,Dl.dTruF,Option.some.injEq,Dl.eqD_int_int,Dl.eqD_str_str,Dl.eqD_tup_tup,Dl.eqD_lst_lst,Dl.eqDL_nil_nil,Dl.eqDL_cons_nil,Dl.eqDL_cons_cons,Dl.isNonD_non,Dl.isNonD_int,Dl.addF_int,Dl.addF_lst,Dl.ixF_tup,Dl.ixF_lst,Dl.seqF_lst,Dl.truF_bl,Dl.truF_lst,exists_eq_left',Dl.atI_0,Dl.atI_1,Dl.atI_2,Dl.atI_3,decide_eq_true_eq,true_and,Bool.true_and,Dl.okEq_int_int,beq_iff_eq,beq_self_eq_true,beq_eq_false_iff_ne,Bool.not_eq_true',ne_eq,ite_not,Dl.sz0,Dl.sz1,Dl.sz2,Dl.sz4]
  have okE:Ok (.ev b (1 + f) none):=⟨by omega,by omega,by omega,by omega,fun k e=>by cases e⟩
  have okT:Ok (.tm size size (some 0)):=⟨by omega,by omega,fun s e=>by cases e; omega⟩
  obtain ⟨l1,hr1⟩:=rings_exist (.ev b (1 + f) none) 0 (size + z)
  have ll1:=rings_len hr1
  have ht1:RingsOf (.tm size size (some 0)) 0 (size + z) [size]:=by have:=tm_one (size:=size) (left:=size) (s:=0) (a:=0) (e:=size + z) (by omega) (by omega); simpa using this
  refine use_tick2 (by omega) (by omega) okE okT hr1 ht1 (by simp; omega) fun rows hp hs=>?_
  obtain ⟨fe,ft,ln,ok1⟩:=rows_et hp hs hr1.rise ht1.rise
  clear hp hs
  simp only [t_law_8,Dl.dSetD,Dl.xDGet,Dl.dDPut,Dl.dDPop,Dl.dDIn,Dl.dctOf,Dl.dctR,Dl.fzOf,Dl.keyD,Dl.diItems,Dl.dFz,Dl.pinO,Dl.pinS,Dl.dMeth,Dl.dMake,Dl.aNil,Dl.aCons,Dl.atsOf,Dl.inA,Dl.dX,Dl.xVar,Dl.xFld,Dl.dSetF,Dl.fldOf,Dl.putAt,Dl.fewOf,Dl.setO,Dl.upA_a,Dl.startO,Dl.entO,Dl.slA,Dl.outO,Dl.outA_a,Dl.outA_b,List.head?_cons,decide_true,Bool.and_self,and_self,Dl.dSeq,Dl.dNext,Dl.dIfS,Dl.dB,Dl.dOp,Dl.dVar,Dl.dC,Dl.dLst,Dl.dTup,Dl.dNil,Dl.dCons,Dl.dRet,Dl.dCall,Dl.cMax,Dl.cMin,Dl.dDrop,Dl.dSet,Dl.dOwn,Dl.dFrz,Dl.dAnd,Dl.dOr,Dl.dNot,Dl.dIf,Dl.dNever,Dl.rII,Dl.rIC,Dl.rEqD,Dl.rNeD,Dl.rIsN,Dl.rNotN,Dl.gdTup2,Dl.dExt,Dl.cSorted,Dl.cMinL,Dl.dLstRng,Dl.dYes,Dl.dropOw,Dl.gdName,Dl.startD,List.map_cons,List.map_nil,List.length_cons,List.length_nil,List.cons_append,List.nil_append,List.replicate_zero,List.replicate_succ,Nat.reduceAdd,Nat.reduceSub,List.getElem?_cons_zero,List.getElem?_cons_succ,List.set_cons_zero,List.set_cons_succ,Bool.not_true,Bool.not_false,if_true,if_false,reduceCtorEq,Bool.false_eq_true,Dl.rF,Dl.cLenF,Dl.diSeqF,Dl.dTruF,Option.some.injEq,Dl.eqD_int_int,Dl.eqD_str_str,Dl.eqD_tup_tup,Dl.eqD_lst_lst,Dl.eqDL_nil_nil,Dl.eqDL_cons_nil,Dl.eqDL_cons_cons,Dl.isNonD_non,Dl.isNonD_int,Dl.addF_int,Dl.addF_lst,Dl.ixF_tup,Dl.ixF_lst,Dl.seqF_lst,Dl.truF_bl,Dl.truF_lst,exists_eq_left',Dl.atI_0,Dl.atI_1,Dl.atI_2,Dl.atI_3,decide_eq_true_eq,true_and,Bool.true_and,Dl.okEq_int_int,beq_iff_eq,beq_self_eq_true,beq_eq_false_iff_ne,Bool.not_eq_true',ne_eq,ite_not,Dl.sz0,Dl.sz1,Dl.sz2,Dl.sz4]
  refine comp_mom rfl (fun R h=>by simp only [Dl.dSeq,Dl.dSetD,Dl.xDGet,Dl.dDPut,Dl.dDPop,Dl.dDIn,Dl.dctOf,Dl.dctR,Dl.fzOf,Dl.keyD,Dl.diItems,Dl.dFz,Dl.pinO,Dl.pinS,Dl.dMeth,Dl.dMake,Dl.aNil,Dl.aCons,Dl.atsOf,Dl.inA,Dl.dX,Dl.xVar,Dl.xFld,Dl.dSetF,Dl.fldOf,Dl.putAt,Dl.fewOf,Dl.setO,Dl.upA_a,Dl.startO,Dl.entO,Dl.slA,Dl.outO,Dl.outA_a,Dl.outA_b,List.head?_cons,decide_true,Bool.and_self,and_self,Dl.dSeq,Dl.dNext,Dl.dIfS,Dl.dB,Dl.dOp,Dl.dVar,Dl.dC,Dl.dLst,Dl.dTup,Dl.dNil,Dl.dCons,Dl.dRet,Dl.dCall,Dl.cMax,Dl.cMin,Dl.dDrop,Dl.dSet,Dl.dOwn,Dl.dFrz,Dl.dAnd,Dl.dOr,Dl.dNot,Dl.dIf,Dl.dNever,Dl.rII,Dl.rIC,Dl.rEqD,Dl.rNeD,Dl.rIsN,Dl.rNotN,Dl.gdTup2,Dl.dExt,Dl.cSorted,Dl.cMinL,Dl.dLstRng,Dl.dYes,Dl.dropOw,Dl.gdName,Dl.startD,List.map_cons,List.map_nil,List.length_cons,List.length_nil,List.cons_append,List.nil_append,List.replicate_zero,List.replicate_succ,Nat.reduceAdd,Nat.reduceSub,List.getElem?_cons_zero,List.getElem?_cons_succ,List.set_cons_zero,List.set_cons_succ,Bool.not_true,Bool.not_false,if_true,if_false,reduceCtorEq,Bool.false_eq_true,Dl.rF,Dl.cLenF,Dl.diSeqF,Dl.dTruF,Option.some.injEq,Dl.eqD_int_int,Dl.eqD_str_str,Dl.eqD_tup_tup,Dl.eqD_lst_lst,Dl.eqDL_nil_nil,Dl.eqDL_cons_nil,Dl.eqDL_cons_cons,Dl.isNonD_non,Dl.isNonD_int,Dl.addF_int,Dl.addF_lst,Dl.ixF_tup,Dl.ixF_lst,Dl.seqF_lst,Dl.truF_bl,Dl.truF_lst,exists_eq_left',Dl.atI_0,Dl.atI_1,Dl.atI_2,Dl.atI_3,decide_eq_true_eq,true_and,Bool.true_and,Dl.okEq_int_int,beq_iff_eq,beq_self_eq_true,beq_eq_false_iff_ne,Bool.not_eq_true',ne_eq,ite_not,Dl.sz0,Dl.sz1,Dl.sz2,Dl.sz4]; exact h) (ok_n _ (.inr (.inl rfl))) ok1 (by rw [ln]; simp; omega) ?_
  simp only [ft,Hs.m_tick,nd1,Dl.dSetD,Dl.xDGet,Dl.dDPut,Dl.dDPop,Dl.dDIn,Dl.dctOf,Dl.dctR,Dl.fzOf,Dl.keyD,Dl.diItems,Dl.dFz,Dl.pinO,Dl.pinS,Dl.dMeth,Dl.dMake,Dl.aNil,Dl.aCons,Dl.atsOf,Dl.inA,Dl.dX,Dl.xVar,Dl.xFld,Dl.dSetF,Dl.fldOf,Dl.putAt,Dl.fewOf,Dl.setO,Dl.upA_a,Dl.startO,Dl.entO,Dl.slA,Dl.outO,Dl.outA_a,Dl.outA_b,List.head?_cons,decide_true,Bool.and_self,and_self,Dl.dSeq,Dl.dNext,Dl.dIfS,Dl.dB,Dl.dOp,Dl.dVar,Dl.dC,Dl.dLst,Dl.dTup,Dl.dNil,Dl.dCons,Dl.dRet,Dl.dCall,Dl.cMax,Dl.cMin,Dl.dDrop,Dl.dSet,Dl.dOwn,Dl.dFrz,Dl.dAnd,Dl.dOr,Dl.dNot,Dl.dIf,Dl.dNever,Dl.rII,Dl.rIC,Dl.rEqD,Dl.rNeD,Dl.rIsN,Dl.rNotN,Dl.gdTup2,Dl.dExt,Dl.cSorted,Dl.cMinL,Dl.dLstRng,Dl.dYes,Dl.dropOw,Dl.gdName,Dl.startD,List.map_cons,List.map_nil,List.length_cons,List.length_nil,List.cons_append,List.nil_append,List.replicate_zero,List.replicate_succ,Nat.reduceAdd,Nat.reduceSub,List.getElem?_cons_zero,List.getElem?_cons_succ,List.set_cons_zero,List.set_cons_succ,Bool.not_true,Bool.not_false,if_true,if_false,reduceCtorEq,Bool.false_eq_true,Dl.rF,Dl.cLenF,Dl.diSeqF,Dl.dTruF,Option.some.injEq,Dl.eqD_int_int,Dl.eqD_str_str,Dl.eqD_tup_tup,Dl.eqD_lst_lst,Dl.eqDL_nil_nil,Dl.eqDL_cons_nil,Dl.eqDL_cons_cons,Dl.isNonD_non,Dl.isNonD_int,Dl.addF_int,Dl.addF_lst,Dl.ixF_tup,Dl.ixF_lst,Dl.seqF_lst,Dl.truF_bl,Dl.truF_lst,exists_eq_left',Dl.atI_0,Dl.atI_1,Dl.atI_2,Dl.atI_3,decide_eq_true_eq,true_and,Bool.true_and,Dl.okEq_int_int,beq_iff_eq,beq_self_eq_true,beq_eq_false_iff_ne,Bool.not_eq_true',ne_eq,ite_not,Dl.sz0,Dl.sz1,Dl.sz2,Dl.sz4]
  refine ⟨ok_lstI (l:=[size]) (m:=[size]),?_⟩
  refine use_tick2 (Int.le_refl _) (by omega) okE okT (RingsOf.none (Int.le_refl _)) (RingsOf.none (Int.le_refl _)) (by decide) fun rows0 hp0 _=>?_
  have hr0:rows0 = []:=List.perm_nil.mp (by simpa using hp0)
  subst hr0
  simp only [Dl.dSeq,Dl.dSetD,Dl.xDGet,Dl.dDPut,Dl.dDPop,Dl.dDIn,Dl.dctOf,Dl.dctR,Dl.fzOf,Dl.keyD,Dl.diItems,Dl.dFz,Dl.pinO,Dl.pinS,Dl.dMeth,Dl.dMake,Dl.aNil,Dl.aCons,Dl.atsOf,Dl.inA,Dl.dX,Dl.xVar,Dl.xFld,Dl.dSetF,Dl.fldOf,Dl.putAt,Dl.fewOf,Dl.setO,Dl.upA_a,Dl.startO,Dl.entO,Dl.slA,Dl.outO,Dl.outA_a,Dl.outA_b,List.head?_cons,decide_true,Bool.and_self,and_self,Dl.dSeq,Dl.dNext,Dl.dIfS,Dl.dB,Dl.dOp,Dl.dVar,Dl.dC,Dl.dLst,Dl.dTup,Dl.dNil,Dl.dCons,Dl.dRet,Dl.dCall,Dl.cMax,Dl.cMin,Dl.dDrop,Dl.dSet,Dl.dOwn,Dl.dFrz,Dl.dAnd,Dl.dOr,Dl.dNot,Dl.dIf,Dl.dNever,Dl.rII,Dl.rIC,Dl.rEqD,Dl.rNeD,Dl.rIsN,Dl.rNotN,Dl.gdTup2,Dl.dExt,Dl.cSorted,Dl.cMinL,Dl.dLstRng,Dl.dYes,Dl.dropOw,Dl.gdName,Dl.startD,List.map_cons,List.map_nil,List.length_cons,List.length_nil,List.cons_append,List.nil_append,List.replicate_zero,List.replicate_succ,Nat.reduceAdd,Nat.reduceSub,List.getElem?_cons_zero,List.getElem?_cons_succ,List.set_cons_zero,List.set_cons_succ,Bool.not_true,Bool.not_false,if_true,if_false,reduceCtorEq,Bool.false_eq_true,Dl.rF,Dl.cLenF,Dl.diSeqF,Dl.dTruF,Option.some.injEq,Dl.eqD_int_int,Dl.eqD_str_str,Dl.eqD_tup_tup,Dl.eqD_lst_lst,Dl.eqDL_nil_nil,Dl.eqDL_cons_nil,Dl.eqDL_cons_cons,Dl.isNonD_non,Dl.isNonD_int,Dl.addF_int,Dl.addF_lst,Dl.ixF_tup,Dl.ixF_lst,Dl.seqF_lst,Dl.truF_bl,Dl.truF_lst,exists_eq_left',Dl.atI_0,Dl.atI_1,Dl.atI_2,Dl.atI_3,decide_eq_true_eq,true_and,Bool.true_and,Dl.okEq_int_int,beq_iff_eq,beq_self_eq_true,beq_eq_false_iff_ne,Bool.not_eq_true',ne_eq,ite_not,Dl.sz0,Dl.sz1,Dl.sz2,Dl.sz4]
  refine ⟨ok_lstI (l:=[]) (m:=[]),?_⟩
  generalize hnow:size + z = now at *
  simp only [t_law_9,Hs.m_put,Hs.m_clock,nd1,Dl.dSetD,Dl.xDGet,Dl.dDPut,Dl.dDPop,Dl.dDIn,Dl.dctOf,Dl.dctR,Dl.fzOf,Dl.keyD,Dl.diItems,Dl.dFz,Dl.pinO,Dl.pinS,Dl.dMeth,Dl.dMake,Dl.aNil,Dl.aCons,Dl.atsOf,Dl.inA,Dl.dX,Dl.xVar,Dl.xFld,Dl.dSetF,Dl.fldOf,Dl.putAt,Dl.fewOf,Dl.setO,Dl.upA_a,Dl.startO,Dl.entO,Dl.slA,Dl.outO,Dl.outA_a,Dl.outA_b,List.head?_cons,decide_true,Bool.and_self,and_self,Dl.dSeq,Dl.dNext,Dl.dIfS,Dl.dB,Dl.dOp,Dl.dVar,Dl.dC,Dl.dLst,Dl.dTup,Dl.dNil,Dl.dCons,Dl.dRet,Dl.dCall,Dl.cMax,Dl.cMin,Dl.dDrop,Dl.dSet,Dl.dOwn,Dl.dFrz,Dl.dAnd,Dl.dOr,Dl.dNot,Dl.dIf,Dl.dNever,Dl.rII,Dl.rIC,Dl.rEqD,Dl.rNeD,Dl.rIsN,Dl.rNotN,Dl.gdTup2,Dl.dExt,Dl.cSorted,Dl.cMinL,Dl.dLstRng,Dl.dYes,Dl.dropOw,Dl.gdName,Dl.startD,List.map_cons,List.map_nil,List.length_cons,List.length_nil,List.cons_append,List.nil_append,List.replicate_zero,List.replicate_succ,Nat.reduceAdd,Nat.reduceSub,List.getElem?_cons_zero,List.getElem?_cons_succ,List.set_cons_zero,List.set_cons_succ,Bool.not_true,Bool.not_false,if_true,if_false,reduceCtorEq,Bool.false_eq_true,Dl.rF,Dl.cLenF,Dl.diSeqF,Dl.dTruF,Option.some.injEq,Dl.eqD_int_int,Dl.eqD_str_str,Dl.eqD_tup_tup,Dl.eqD_lst_lst,Dl.eqDL_nil_nil,Dl.eqDL_cons_nil,Dl.eqDL_cons_cons,Dl.isNonD_non,Dl.isNonD_int,Dl.addF_int,Dl.addF_lst,Dl.ixF_tup,Dl.ixF_lst,Dl.seqF_lst,Dl.truF_bl,Dl.truF_lst,exists_eq_left',Dl.atI_0,Dl.atI_1,Dl.atI_2,Dl.atI_3,decide_eq_true_eq,true_and,Bool.true_and,Dl.okEq_int_int,beq_iff_eq,beq_self_eq_true,beq_eq_false_iff_ne,Bool.not_eq_true',ne_eq,ite_not,Dl.sz0,Dl.sz1,Dl.sz2,Dl.sz4]
  refine use_clock vT ?_
  simp only [Dl.dSeq,Dl.dSetD,Dl.xDGet,Dl.dDPut,Dl.dDPop,Dl.dDIn,Dl.dctOf,Dl.dctR,Dl.fzOf,Dl.keyD,Dl.diItems,Dl.dFz,Dl.pinO,Dl.pinS,Dl.dMeth,Dl.dMake,Dl.aNil,Dl.aCons,Dl.atsOf,Dl.inA,Dl.dX,Dl.xVar,Dl.xFld,Dl.dSetF,Dl.fldOf,Dl.putAt,Dl.fewOf,Dl.setO,Dl.upA_a,Dl.startO,Dl.entO,Dl.slA,Dl.outO,Dl.outA_a,Dl.outA_b,List.head?_cons,decide_true,Bool.and_self,and_self,Dl.dSeq,Dl.dNext,Dl.dIfS,Dl.dB,Dl.dOp,Dl.dVar,Dl.dC,Dl.dLst,Dl.dTup,Dl.dNil,Dl.dCons,Dl.dRet,Dl.dCall,Dl.cMax,Dl.cMin,Dl.dDrop,Dl.dSet,Dl.dOwn,Dl.dFrz,Dl.dAnd,Dl.dOr,Dl.dNot,Dl.dIf,Dl.dNever,Dl.rII,Dl.rIC,Dl.rEqD,Dl.rNeD,Dl.rIsN,Dl.rNotN,Dl.gdTup2,Dl.dExt,Dl.cSorted,Dl.cMinL,Dl.dLstRng,Dl.dYes,Dl.dropOw,Dl.gdName,Dl.startD,List.map_cons,List.map_nil,List.length_cons,List.length_nil,List.cons_append,List.nil_append,List.replicate_zero,List.replicate_succ,Nat.reduceAdd,Nat.reduceSub,List.getElem?_cons_zero,List.getElem?_cons_succ,List.set_cons_zero,List.set_cons_succ,Bool.not_true,Bool.not_false,if_true,if_false,reduceCtorEq,Bool.false_eq_true,Dl.rF,Dl.cLenF,Dl.diSeqF,Dl.dTruF,Option.some.injEq,Dl.eqD_int_int,Dl.eqD_str_str,Dl.eqD_tup_tup,Dl.eqD_lst_lst,Dl.eqDL_nil_nil,Dl.eqDL_cons_nil,Dl.eqDL_cons_cons,Dl.isNonD_non,Dl.isNonD_int,Dl.addF_int,Dl.addF_lst,Dl.ixF_tup,Dl.ixF_lst,Dl.seqF_lst,Dl.truF_bl,Dl.truF_lst,exists_eq_left',Dl.atI_0,Dl.atI_1,Dl.atI_2,Dl.atI_3,decide_eq_true_eq,true_and,Bool.true_and,Dl.okEq_int_int,beq_iff_eq,beq_self_eq_true,beq_eq_false_iff_ne,Bool.not_eq_true',ne_eq,ite_not,Dl.sz0,Dl.sz1,Dl.sz2,Dl.sz4]
  refine ⟨size,size,some 0,now,rfl,okAt_some (by omega),?_⟩
  simp only [Dl.dSeq,Dl.dSetD,Dl.xDGet,Dl.dDPut,Dl.dDPop,Dl.dDIn,Dl.dctOf,Dl.dctR,Dl.fzOf,Dl.keyD,Dl.diItems,Dl.dFz,Dl.pinO,Dl.pinS,Dl.dMeth,Dl.dMake,Dl.aNil,Dl.aCons,Dl.atsOf,Dl.inA,Dl.dX,Dl.xVar,Dl.xFld,Dl.dSetF,Dl.fldOf,Dl.putAt,Dl.fewOf,Dl.setO,Dl.upA_a,Dl.startO,Dl.entO,Dl.slA,Dl.outO,Dl.outA_a,Dl.outA_b,List.head?_cons,decide_true,Bool.and_self,and_self,Dl.dSeq,Dl.dNext,Dl.dIfS,Dl.dB,Dl.dOp,Dl.dVar,Dl.dC,Dl.dLst,Dl.dTup,Dl.dNil,Dl.dCons,Dl.dRet,Dl.dCall,Dl.cMax,Dl.cMin,Dl.dDrop,Dl.dSet,Dl.dOwn,Dl.dFrz,Dl.dAnd,Dl.dOr,Dl.dNot,Dl.dIf,Dl.dNever,Dl.rII,Dl.rIC,Dl.rEqD,Dl.rNeD,Dl.rIsN,Dl.rNotN,Dl.gdTup2,Dl.dExt,Dl.cSorted,Dl.cMinL,Dl.dLstRng,Dl.dYes,Dl.dropOw,Dl.gdName,Dl.startD,List.map_cons,List.map_nil,List.length_cons,List.length_nil,List.cons_append,List.nil_append,List.replicate_zero,List.replicate_succ,Nat.reduceAdd,Nat.reduceSub,List.getElem?_cons_zero,List.getElem?_cons_succ,List.set_cons_zero,List.set_cons_succ,Bool.not_true,Bool.not_false,if_true,if_false,reduceCtorEq,Bool.false_eq_true,Dl.rF,Dl.cLenF,Dl.diSeqF,Dl.dTruF,Option.some.injEq,Dl.eqD_int_int,Dl.eqD_str_str,Dl.eqD_tup_tup,Dl.eqD_lst_lst,Dl.eqDL_nil_nil,Dl.eqDL_cons_nil,Dl.eqDL_cons_cons,Dl.isNonD_non,Dl.isNonD_int,Dl.addF_int,Dl.addF_lst,Dl.ixF_tup,Dl.ixF_lst,Dl.seqF_lst,Dl.truF_bl,Dl.truF_lst,exists_eq_left',Dl.atI_0,Dl.atI_1,Dl.atI_2,Dl.atI_3,decide_eq_true_eq,true_and,Bool.true_and,Dl.okEq_int_int,beq_iff_eq,beq_self_eq_true,beq_eq_false_iff_ne,Bool.not_eq_true',ne_eq,ite_not,Dl.sz0,Dl.sz1,Dl.sz2,Dl.sz4]
  refine use_put (c1:=.tm size size (some now)) (by simp) ?_
  rw [pTT]
  simp only [t_law_10,Hs.m_clock,nd1,Dl.dSetD,Dl.xDGet,Dl.dDPut,Dl.dDPop,Dl.dDIn,Dl.dctOf,Dl.dctR,Dl.fzOf,Dl.keyD,Dl.diItems,Dl.dFz,Dl.pinO,Dl.pinS,Dl.dMeth,Dl.dMake,Dl.aNil,Dl.aCons,Dl.atsOf,Dl.inA,Dl.dX,Dl.xVar,Dl.xFld,Dl.dSetF,Dl.fldOf,Dl.putAt,Dl.fewOf,Dl.setO,Dl.upA_a,Dl.startO,Dl.entO,Dl.slA,Dl.outO,Dl.outA_a,Dl.outA_b,List.head?_cons,decide_true,Bool.and_self,and_self,Dl.dSeq,Dl.dNext,Dl.dIfS,Dl.dB,Dl.dOp,Dl.dVar,Dl.dC,Dl.dLst,Dl.dTup,Dl.dNil,Dl.dCons,Dl.dRet,Dl.dCall,Dl.cMax,Dl.cMin,Dl.dDrop,Dl.dSet,Dl.dOwn,Dl.dFrz,Dl.dAnd,Dl.dOr,Dl.dNot,Dl.dIf,Dl.dNever,Dl.rII,Dl.rIC,Dl.rEqD,Dl.rNeD,Dl.rIsN,Dl.rNotN,Dl.gdTup2,Dl.dExt,Dl.cSorted,Dl.cMinL,Dl.dLstRng,Dl.dYes,Dl.dropOw,Dl.gdName,Dl.startD,List.map_cons,List.map_nil,List.length_cons,List.length_nil,List.cons_append,List.nil_append,List.replicate_zero,List.replicate_succ,Nat.reduceAdd,Nat.reduceSub,List.getElem?_cons_zero,List.getElem?_cons_succ,List.set_cons_zero,List.set_cons_succ,Bool.not_true,Bool.not_false,if_true,if_false,reduceCtorEq,Bool.false_eq_true,Dl.rF,Dl.cLenF,Dl.diSeqF,Dl.dTruF,Option.some.injEq,Dl.eqD_int_int,Dl.eqD_str_str,Dl.eqD_tup_tup,Dl.eqD_lst_lst,Dl.eqDL_nil_nil,Dl.eqDL_cons_nil,Dl.eqDL_cons_cons,Dl.isNonD_non,Dl.isNonD_int,Dl.addF_int,Dl.addF_lst,Dl.ixF_tup,Dl.ixF_lst,Dl.seqF_lst,Dl.truF_bl,Dl.truF_lst,exists_eq_left',Dl.atI_0,Dl.atI_1,Dl.atI_2,Dl.atI_3,decide_eq_true_eq,true_and,Bool.true_and,Dl.okEq_int_int,beq_iff_eq,beq_self_eq_true,beq_eq_false_iff_ne,Bool.not_eq_true',ne_eq,ite_not,Dl.sz0,Dl.sz1,Dl.sz2,Dl.sz4]
  refine use_clock vT ?_
  simp only [Dl.dSeq,Dl.dSetD,Dl.xDGet,Dl.dDPut,Dl.dDPop,Dl.dDIn,Dl.dctOf,Dl.dctR,Dl.fzOf,Dl.keyD,Dl.diItems,Dl.dFz,Dl.pinO,Dl.pinS,Dl.dMeth,Dl.dMake,Dl.aNil,Dl.aCons,Dl.atsOf,Dl.inA,Dl.dX,Dl.xVar,Dl.xFld,Dl.dSetF,Dl.fldOf,Dl.putAt,Dl.fewOf,Dl.setO,Dl.upA_a,Dl.startO,Dl.entO,Dl.slA,Dl.outO,Dl.outA_a,Dl.outA_b,List.head?_cons,decide_true,Bool.and_self,and_self,Dl.dSeq,Dl.dNext,Dl.dIfS,Dl.dB,Dl.dOp,Dl.dVar,Dl.dC,Dl.dLst,Dl.dTup,Dl.dNil,Dl.dCons,Dl.dRet,Dl.dCall,Dl.cMax,Dl.cMin,Dl.dDrop,Dl.dSet,Dl.dOwn,Dl.dFrz,Dl.dAnd,Dl.dOr,Dl.dNot,Dl.dIf,Dl.dNever,Dl.rII,Dl.rIC,Dl.rEqD,Dl.rNeD,Dl.rIsN,Dl.rNotN,Dl.gdTup2,Dl.dExt,Dl.cSorted,Dl.cMinL,Dl.dLstRng,Dl.dYes,Dl.dropOw,Dl.gdName,Dl.startD,List.map_cons,List.map_nil,List.length_cons,List.length_nil,List.cons_append,List.nil_append,List.replicate_zero,List.replicate_succ,Nat.reduceAdd,Nat.reduceSub,List.getElem?_cons_zero,List.getElem?_cons_succ,List.set_cons_zero,List.set_cons_succ,Bool.not_true,Bool.not_false,if_true,if_false,reduceCtorEq,Bool.false_eq_true,Dl.rF,Dl.cLenF,Dl.diSeqF,Dl.dTruF,Option.some.injEq,Dl.eqD_int_int,Dl.eqD_str_str,Dl.eqD_tup_tup,Dl.eqD_lst_lst,Dl.eqDL_nil_nil,Dl.eqDL_cons_nil,Dl.eqDL_cons_cons,Dl.isNonD_non,Dl.isNonD_int,Dl.addF_int,Dl.addF_lst,Dl.ixF_tup,Dl.ixF_lst,Dl.seqF_lst,Dl.truF_bl,Dl.truF_lst,exists_eq_left',Dl.atI_0,Dl.atI_1,Dl.atI_2,Dl.atI_3,decide_eq_true_eq,true_and,Bool.true_and,Dl.okEq_int_int,beq_iff_eq,beq_self_eq_true,beq_eq_false_iff_ne,Bool.not_eq_true',ne_eq,ite_not,Dl.sz0,Dl.sz1,Dl.sz2,Dl.sz4]
  refine ⟨size,size,some now,now,rfl,okAt_some (Int.le_refl _),?_⟩
  simp only [leftAt,Dl.dSetD,Dl.xDGet,Dl.dDPut,Dl.dDPop,Dl.dDIn,Dl.dctOf,Dl.dctR,Dl.fzOf,Dl.keyD,Dl.diItems,Dl.dFz,Dl.pinO,Dl.pinS,Dl.dMeth,Dl.dMake,Dl.aNil,Dl.aCons,Dl.atsOf,Dl.inA,Dl.dX,Dl.xVar,Dl.xFld,Dl.dSetF,Dl.fldOf,Dl.putAt,Dl.fewOf,Dl.setO,Dl.upA_a,Dl.startO,Dl.entO,Dl.slA,Dl.outO,Dl.outA_a,Dl.outA_b,List.head?_cons,decide_true,Bool.and_self,and_self,Dl.dSeq,Dl.dNext,Dl.dIfS,Dl.dB,Dl.dOp,Dl.dVar,Dl.dC,Dl.dLst,Dl.dTup,Dl.dNil,Dl.dCons,Dl.dRet,Dl.dCall,Dl.cMax,Dl.cMin,Dl.dDrop,Dl.dSet,Dl.dOwn,Dl.dFrz,Dl.dAnd,Dl.dOr,Dl.dNot,Dl.dIf,Dl.dNever,Dl.rII,Dl.rIC,Dl.rEqD,Dl.rNeD,Dl.rIsN,Dl.rNotN,Dl.gdTup2,Dl.dExt,Dl.cSorted,Dl.cMinL,Dl.dLstRng,Dl.dYes,Dl.dropOw,Dl.gdName,Dl.startD,List.map_cons,List.map_nil,List.length_cons,List.length_nil,List.cons_append,List.nil_append,List.replicate_zero,List.replicate_succ,Nat.reduceAdd,Nat.reduceSub,List.getElem?_cons_zero,List.getElem?_cons_succ,List.set_cons_zero,List.set_cons_succ,Bool.not_true,Bool.not_false,if_true,if_false,reduceCtorEq,Bool.false_eq_true,Dl.rF,Dl.cLenF,Dl.diSeqF,Dl.dTruF,Option.some.injEq,Dl.eqD_int_int,Dl.eqD_str_str,Dl.eqD_tup_tup,Dl.eqD_lst_lst,Dl.eqDL_nil_nil,Dl.eqDL_cons_nil,Dl.eqDL_cons_cons,Dl.isNonD_non,Dl.isNonD_int,Dl.addF_int,Dl.addF_lst,Dl.ixF_tup,Dl.ixF_lst,Dl.seqF_lst,Dl.truF_bl,Dl.truF_lst,exists_eq_left',Dl.atI_0,Dl.atI_1,Dl.atI_2,Dl.atI_3,decide_eq_true_eq,true_and,Bool.true_and,Dl.okEq_int_int,beq_iff_eq,beq_self_eq_true,beq_eq_false_iff_ne,Bool.not_eq_true',ne_eq,ite_not,Dl.sz0,Dl.sz1,Dl.sz2,Dl.sz4]
  rw [if_pos (by omega)]
  simp only [t_law_11,Dl.dSetD,Dl.xDGet,Dl.dDPut,Dl.dDPop,Dl.dDIn,Dl.dctOf,Dl.dctR,Dl.fzOf,Dl.keyD,Dl.diItems,Dl.dFz,Dl.pinO,Dl.pinS,Dl.dMeth,Dl.dMake,Dl.aNil,Dl.aCons,Dl.atsOf,Dl.inA,Dl.dX,Dl.xVar,Dl.xFld,Dl.dSetF,Dl.fldOf,Dl.putAt,Dl.fewOf,Dl.setO,Dl.upA_a,Dl.startO,Dl.entO,Dl.slA,Dl.outO,Dl.outA_a,Dl.outA_b,List.head?_cons,decide_true,Bool.and_self,and_self,Dl.dSeq,Dl.dNext,Dl.dIfS,Dl.dB,Dl.dOp,Dl.dVar,Dl.dC,Dl.dLst,Dl.dTup,Dl.dNil,Dl.dCons,Dl.dRet,Dl.dCall,Dl.cMax,Dl.cMin,Dl.dDrop,Dl.dSet,Dl.dOwn,Dl.dFrz,Dl.dAnd,Dl.dOr,Dl.dNot,Dl.dIf,Dl.dNever,Dl.rII,Dl.rIC,Dl.rEqD,Dl.rNeD,Dl.rIsN,Dl.rNotN,Dl.gdTup2,Dl.dExt,Dl.cSorted,Dl.cMinL,Dl.dLstRng,Dl.dYes,Dl.dropOw,Dl.gdName,Dl.startD,List.map_cons,List.map_nil,List.length_cons,List.length_nil,List.cons_append,List.nil_append,List.replicate_zero,List.replicate_succ,Nat.reduceAdd,Nat.reduceSub,List.getElem?_cons_zero,List.getElem?_cons_succ,List.set_cons_zero,List.set_cons_succ,Bool.not_true,Bool.not_false,if_true,if_false,reduceCtorEq,Bool.false_eq_true,Dl.rF,Dl.cLenF,Dl.diSeqF,Dl.dTruF,Option.some.injEq,Dl.eqD_int_int,Dl.eqD_str_str,Dl.eqD_tup_tup,Dl.eqD_lst_lst,Dl.eqDL_nil_nil,Dl.eqDL_cons_nil,Dl.eqDL_cons_cons,Dl.isNonD_non,Dl.isNonD_int,Dl.addF_int,Dl.addF_lst,Dl.ixF_tup,Dl.ixF_lst,Dl.seqF_lst,Dl.truF_bl,Dl.truF_lst,exists_eq_left',Dl.atI_0,Dl.atI_1,Dl.atI_2,Dl.atI_3,decide_eq_true_eq,true_and,Bool.true_and,Dl.okEq_int_int,beq_iff_eq,beq_self_eq_true,beq_eq_false_iff_ne,Bool.not_eq_true',ne_eq,ite_not,Dl.sz0,Dl.sz1,Dl.sz2,Dl.sz4]
  refine use_drawn hl (by decide) (by omega) fun d hd0 hd1=>?_
  simp only [t_law_12,Hs.m_tick,nd1,Dl.dSetD,Dl.xDGet,Dl.dDPut,Dl.dDPop,Dl.dDIn,Dl.dctOf,Dl.dctR,Dl.fzOf,Dl.keyD,Dl.diItems,Dl.dFz,Dl.pinO,Dl.pinS,Dl.dMeth,Dl.dMake,Dl.aNil,Dl.aCons,Dl.atsOf,Dl.inA,Dl.dX,Dl.xVar,Dl.xFld,Dl.dSetF,Dl.fldOf,Dl.putAt,Dl.fewOf,Dl.setO,Dl.upA_a,Dl.startO,Dl.entO,Dl.slA,Dl.outO,Dl.outA_a,Dl.outA_b,List.head?_cons,decide_true,Bool.and_self,and_self,Dl.dSeq,Dl.dNext,Dl.dIfS,Dl.dB,Dl.dOp,Dl.dVar,Dl.dC,Dl.dLst,Dl.dTup,Dl.dNil,Dl.dCons,Dl.dRet,Dl.dCall,Dl.cMax,Dl.cMin,Dl.dDrop,Dl.dSet,Dl.dOwn,Dl.dFrz,Dl.dAnd,Dl.dOr,Dl.dNot,Dl.dIf,Dl.dNever,Dl.rII,Dl.rIC,Dl.rEqD,Dl.rNeD,Dl.rIsN,Dl.rNotN,Dl.gdTup2,Dl.dExt,Dl.cSorted,Dl.cMinL,Dl.dLstRng,Dl.dYes,Dl.dropOw,Dl.gdName,Dl.startD,List.map_cons,List.map_nil,List.length_cons,List.length_nil,List.cons_append,List.nil_append,List.replicate_zero,List.replicate_succ,Nat.reduceAdd,Nat.reduceSub,List.getElem?_cons_zero,List.getElem?_cons_succ,List.set_cons_zero,List.set_cons_succ,Bool.not_true,Bool.not_false,if_true,if_false,reduceCtorEq,Bool.false_eq_true,Dl.rF,Dl.cLenF,Dl.diSeqF,Dl.dTruF,Option.some.injEq,Dl.eqD_int_int,Dl.eqD_str_str,Dl.eqD_tup_tup,Dl.eqD_lst_lst,Dl.eqDL_nil_nil,Dl.eqDL_cons_nil,Dl.eqDL_cons_cons,Dl.isNonD_non,Dl.isNonD_int,Dl.addF_int,Dl.addF_lst,Dl.ixF_tup,Dl.ixF_lst,Dl.seqF_lst,Dl.truF_bl,Dl.truF_lst,exists_eq_left',Dl.atI_0,Dl.atI_1,Dl.atI_2,Dl.atI_3,decide_eq_true_eq,true_and,Bool.true_and,Dl.okEq_int_int,beq_iff_eq,beq_self_eq_true,beq_eq_false_iff_ne,Bool.not_eq_true',ne_eq,ite_not,Dl.sz0,Dl.sz1,Dl.sz2,Dl.sz4]
  obtain ⟨l2,hr2⟩:=rings_exist (.ev b (1 + f) none) now (now + d)
  have ll2:=rings_len hr2
  have okT2:Ok (.tm size size (some now)):=⟨by omega,by omega,fun s e=>by cases e; omega⟩
  refine use_tick2 (by omega) (by omega) okE okT2 hr2 (tm_no (by omega)) (by simp; omega) fun rows2 hp2 hs2=>?_
  obtain ⟨fe2,ft2,ln2,ok2⟩:=rows_et hp2 hs2 hr2.rise List.Pairwise.nil
  clear hp2 hs2
  simp only [Dl.dSeq,Dl.dSetD,Dl.xDGet,Dl.dDPut,Dl.dDPop,Dl.dDIn,Dl.dctOf,Dl.dctR,Dl.fzOf,Dl.keyD,Dl.diItems,Dl.dFz,Dl.pinO,Dl.pinS,Dl.dMeth,Dl.dMake,Dl.aNil,Dl.aCons,Dl.atsOf,Dl.inA,Dl.dX,Dl.xVar,Dl.xFld,Dl.dSetF,Dl.fldOf,Dl.putAt,Dl.fewOf,Dl.setO,Dl.upA_a,Dl.startO,Dl.entO,Dl.slA,Dl.outO,Dl.outA_a,Dl.outA_b,List.head?_cons,decide_true,Bool.and_self,and_self,Dl.dSeq,Dl.dNext,Dl.dIfS,Dl.dB,Dl.dOp,Dl.dVar,Dl.dC,Dl.dLst,Dl.dTup,Dl.dNil,Dl.dCons,Dl.dRet,Dl.dCall,Dl.cMax,Dl.cMin,Dl.dDrop,Dl.dSet,Dl.dOwn,Dl.dFrz,Dl.dAnd,Dl.dOr,Dl.dNot,Dl.dIf,Dl.dNever,Dl.rII,Dl.rIC,Dl.rEqD,Dl.rNeD,Dl.rIsN,Dl.rNotN,Dl.gdTup2,Dl.dExt,Dl.cSorted,Dl.cMinL,Dl.dLstRng,Dl.dYes,Dl.dropOw,Dl.gdName,Dl.startD,List.map_cons,List.map_nil,List.length_cons,List.length_nil,List.cons_append,List.nil_append,List.replicate_zero,List.replicate_succ,Nat.reduceAdd,Nat.reduceSub,List.getElem?_cons_zero,List.getElem?_cons_succ,List.set_cons_zero,List.set_cons_succ,Bool.not_true,Bool.not_false,if_true,if_false,reduceCtorEq,Bool.false_eq_true,Dl.rF,Dl.cLenF,Dl.diSeqF,Dl.dTruF,Option.some.injEq,Dl.eqD_int_int,Dl.eqD_str_str,Dl.eqD_tup_tup,Dl.eqD_lst_lst,Dl.eqDL_nil_nil,Dl.eqDL_cons_nil,Dl.eqDL_cons_cons,Dl.isNonD_non,Dl.isNonD_int,Dl.addF_int,Dl.addF_lst,Dl.ixF_tup,Dl.ixF_lst,Dl.seqF_lst,Dl.truF_bl,Dl.truF_lst,exists_eq_left',Dl.atI_0,Dl.atI_1,Dl.atI_2,Dl.atI_3,decide_eq_true_eq,true_and,Bool.true_and,Dl.okEq_int_int,beq_iff_eq,beq_self_eq_true,beq_eq_false_iff_ne,Bool.not_eq_true',ne_eq,ite_not,Dl.sz0,Dl.sz1,Dl.sz2,Dl.sz4]
  refine ⟨.lst ((rows ++ rows2).map rowD),by rw [if_pos (by rw [List.length_map,List.length_map,ln,ln2]; have:=sizeLine_big (n:=200) (by decide); simp; omega),List.map_append],?_⟩
  have fe3:filt "e" (rows ++ rows2) = l1 ++ l2:=by rw [filt_app,fe,fe2]
  have ft3:filt "t" (rows ++ rows2) = [size]:=by rw [filt_app,ft,ft2]; rfl
  have ok3:∀ r ∈ rows ++ rows2,PyData.strOk r.2 = true:=fun r hr=>(List.mem_append.mp hr).elim (ok1 r) (ok2 r)
  have ln3:(rows ++ rows2).length ≤ 100:=by rw [List.length_append,ln,ln2]; simp; omega
  have hr3:=hr1.append hr2 (by omega) (by omega)
  generalize rows ++ rows2 = rowsA at *
  simp only [t_law_13,Hs.m_put,Hs.m_clock,nd1,Dl.dSetD,Dl.xDGet,Dl.dDPut,Dl.dDPop,Dl.dDIn,Dl.dctOf,Dl.dctR,Dl.fzOf,Dl.keyD,Dl.diItems,Dl.dFz,Dl.pinO,Dl.pinS,Dl.dMeth,Dl.dMake,Dl.aNil,Dl.aCons,Dl.atsOf,Dl.inA,Dl.dX,Dl.xVar,Dl.xFld,Dl.dSetF,Dl.fldOf,Dl.putAt,Dl.fewOf,Dl.setO,Dl.upA_a,Dl.startO,Dl.entO,Dl.slA,Dl.outO,Dl.outA_a,Dl.outA_b,List.head?_cons,decide_true,Bool.and_self,and_self,Dl.dSeq,Dl.dNext,Dl.dIfS,Dl.dB,Dl.dOp,Dl.dVar,Dl.dC,Dl.dLst,Dl.dTup,Dl.dNil,Dl.dCons,Dl.dRet,Dl.dCall,Dl.cMax,Dl.cMin,Dl.dDrop,Dl.dSet,Dl.dOwn,Dl.dFrz,Dl.dAnd,Dl.dOr,Dl.dNot,Dl.dIf,Dl.dNever,Dl.rII,Dl.rIC,Dl.rEqD,Dl.rNeD,Dl.rIsN,Dl.rNotN,Dl.gdTup2,Dl.dExt,Dl.cSorted,Dl.cMinL,Dl.dLstRng,Dl.dYes,Dl.dropOw,Dl.gdName,Dl.startD,List.map_cons,List.map_nil,List.length_cons,List.length_nil,List.cons_append,List.nil_append,List.replicate_zero,List.replicate_succ,Nat.reduceAdd,Nat.reduceSub,List.getElem?_cons_zero,List.getElem?_cons_succ,List.set_cons_zero,List.set_cons_succ,Bool.not_true,Bool.not_false,if_true,if_false,reduceCtorEq,Bool.false_eq_true,Dl.rF,Dl.cLenF,Dl.diSeqF,Dl.dTruF,Option.some.injEq,Dl.eqD_int_int,Dl.eqD_str_str,Dl.eqD_tup_tup,Dl.eqD_lst_lst,Dl.eqDL_nil_nil,Dl.eqDL_cons_nil,Dl.eqDL_cons_cons,Dl.isNonD_non,Dl.isNonD_int,Dl.addF_int,Dl.addF_lst,Dl.ixF_tup,Dl.ixF_lst,Dl.seqF_lst,Dl.truF_bl,Dl.truF_lst,exists_eq_left',Dl.atI_0,Dl.atI_1,Dl.atI_2,Dl.atI_3,decide_eq_true_eq,true_and,Bool.true_and,Dl.okEq_int_int,beq_iff_eq,beq_self_eq_true,beq_eq_false_iff_ne,Bool.not_eq_true',ne_eq,ite_not,Dl.sz0,Dl.sz1,Dl.sz2,Dl.sz4]
  refine use_clock vT ?_
  simp only [Dl.dSeq,Dl.dSetD,Dl.xDGet,Dl.dDPut,Dl.dDPop,Dl.dDIn,Dl.dctOf,Dl.dctR,Dl.fzOf,Dl.keyD,Dl.diItems,Dl.dFz,Dl.pinO,Dl.pinS,Dl.dMeth,Dl.dMake,Dl.aNil,Dl.aCons,Dl.atsOf,Dl.inA,Dl.dX,Dl.xVar,Dl.xFld,Dl.dSetF,Dl.fldOf,Dl.putAt,Dl.fewOf,Dl.setO,Dl.upA_a,Dl.startO,Dl.entO,Dl.slA,Dl.outO,Dl.outA_a,Dl.outA_b,List.head?_cons,decide_true,Bool.and_self,and_self,Dl.dSeq,Dl.dNext,Dl.dIfS,Dl.dB,Dl.dOp,Dl.dVar,Dl.dC,Dl.dLst,Dl.dTup,Dl.dNil,Dl.dCons,Dl.dRet,Dl.dCall,Dl.cMax,Dl.cMin,Dl.dDrop,Dl.dSet,Dl.dOwn,Dl.dFrz,Dl.dAnd,Dl.dOr,Dl.dNot,Dl.dIf,Dl.dNever,Dl.rII,Dl.rIC,Dl.rEqD,Dl.rNeD,Dl.rIsN,Dl.rNotN,Dl.gdTup2,Dl.dExt,Dl.cSorted,Dl.cMinL,Dl.dLstRng,Dl.dYes,Dl.dropOw,Dl.gdName,Dl.startD,List.map_cons,List.map_nil,List.length_cons,List.length_nil,List.cons_append,List.nil_append,List.replicate_zero,List.replicate_succ,Nat.reduceAdd,Nat.reduceSub,List.getElem?_cons_zero,List.getElem?_cons_succ,List.set_cons_zero,List.set_cons_succ,Bool.not_true,Bool.not_false,if_true,if_false,reduceCtorEq,Bool.false_eq_true,Dl.rF,Dl.cLenF,Dl.diSeqF,Dl.dTruF,Option.some.injEq,Dl.eqD_int_int,Dl.eqD_str_str,Dl.eqD_tup_tup,Dl.eqD_lst_lst,Dl.eqDL_nil_nil,Dl.eqDL_cons_nil,Dl.eqDL_cons_cons,Dl.isNonD_non,Dl.isNonD_int,Dl.addF_int,Dl.addF_lst,Dl.ixF_tup,Dl.ixF_lst,Dl.seqF_lst,Dl.truF_bl,Dl.truF_lst,exists_eq_left',Dl.atI_0,Dl.atI_1,Dl.atI_2,Dl.atI_3,decide_eq_true_eq,true_and,Bool.true_and,Dl.okEq_int_int,beq_iff_eq,beq_self_eq_true,beq_eq_false_iff_ne,Bool.not_eq_true',ne_eq,ite_not,Dl.sz0,Dl.sz1,Dl.sz2,Dl.sz4]
  refine ⟨size,size,some now,by_,now + d,rfl,okAt_some (by omega),?_⟩
  simp only [Dl.dSeq,Dl.dSetD,Dl.xDGet,Dl.dDPut,Dl.dDPop,Dl.dDIn,Dl.dctOf,Dl.dctR,Dl.fzOf,Dl.keyD,Dl.diItems,Dl.dFz,Dl.pinO,Dl.pinS,Dl.dMeth,Dl.dMake,Dl.aNil,Dl.aCons,Dl.atsOf,Dl.inA,Dl.dX,Dl.xVar,Dl.xFld,Dl.dSetF,Dl.fldOf,Dl.putAt,Dl.fewOf,Dl.setO,Dl.upA_a,Dl.startO,Dl.entO,Dl.slA,Dl.outO,Dl.outA_a,Dl.outA_b,List.head?_cons,decide_true,Bool.and_self,and_self,Dl.dSeq,Dl.dNext,Dl.dIfS,Dl.dB,Dl.dOp,Dl.dVar,Dl.dC,Dl.dLst,Dl.dTup,Dl.dNil,Dl.dCons,Dl.dRet,Dl.dCall,Dl.cMax,Dl.cMin,Dl.dDrop,Dl.dSet,Dl.dOwn,Dl.dFrz,Dl.dAnd,Dl.dOr,Dl.dNot,Dl.dIf,Dl.dNever,Dl.rII,Dl.rIC,Dl.rEqD,Dl.rNeD,Dl.rIsN,Dl.rNotN,Dl.gdTup2,Dl.dExt,Dl.cSorted,Dl.cMinL,Dl.dLstRng,Dl.dYes,Dl.dropOw,Dl.gdName,Dl.startD,List.map_cons,List.map_nil,List.length_cons,List.length_nil,List.cons_append,List.nil_append,List.replicate_zero,List.replicate_succ,Nat.reduceAdd,Nat.reduceSub,List.getElem?_cons_zero,List.getElem?_cons_succ,List.set_cons_zero,List.set_cons_succ,Bool.not_true,Bool.not_false,if_true,if_false,reduceCtorEq,Bool.false_eq_true,Dl.rF,Dl.cLenF,Dl.diSeqF,Dl.dTruF,Option.some.injEq,Dl.eqD_int_int,Dl.eqD_str_str,Dl.eqD_tup_tup,Dl.eqD_lst_lst,Dl.eqDL_nil_nil,Dl.eqDL_cons_nil,Dl.eqDL_cons_cons,Dl.isNonD_non,Dl.isNonD_int,Dl.addF_int,Dl.addF_lst,Dl.ixF_tup,Dl.ixF_lst,Dl.seqF_lst,Dl.truF_bl,Dl.truF_lst,exists_eq_left',Dl.atI_0,Dl.atI_1,Dl.atI_2,Dl.atI_3,decide_eq_true_eq,true_and,Bool.true_and,Dl.okEq_int_int,beq_iff_eq,beq_self_eq_true,beq_eq_false_iff_ne,Bool.not_eq_true',ne_eq,ite_not,Dl.sz0,Dl.sz1,Dl.sz2,Dl.sz4]
  have e1:max 0 (leftAt size (some now) (now + d) + by_) = size - d + by_:=by simp only [leftAt]; omega
  rw [e1]
  refine use_put (c1:=.tm size (size - d + by_) (some (now + d))) (by simp) ?_
  rw [pTT]
  simp only [t_law_14,t_law_15,Hs.m_tick,nd1,Dl.dSetD,Dl.xDGet,Dl.dDPut,Dl.dDPop,Dl.dDIn,Dl.dctOf,Dl.dctR,Dl.fzOf,Dl.keyD,Dl.diItems,Dl.dFz,Dl.pinO,Dl.pinS,Dl.dMeth,Dl.dMake,Dl.aNil,Dl.aCons,Dl.atsOf,Dl.inA,Dl.dX,Dl.xVar,Dl.xFld,Dl.dSetF,Dl.fldOf,Dl.putAt,Dl.fewOf,Dl.setO,Dl.upA_a,Dl.startO,Dl.entO,Dl.slA,Dl.outO,Dl.outA_a,Dl.outA_b,List.head?_cons,decide_true,Bool.and_self,and_self,Dl.dSeq,Dl.dNext,Dl.dIfS,Dl.dB,Dl.dOp,Dl.dVar,Dl.dC,Dl.dLst,Dl.dTup,Dl.dNil,Dl.dCons,Dl.dRet,Dl.dCall,Dl.cMax,Dl.cMin,Dl.dDrop,Dl.dSet,Dl.dOwn,Dl.dFrz,Dl.dAnd,Dl.dOr,Dl.dNot,Dl.dIf,Dl.dNever,Dl.rII,Dl.rIC,Dl.rEqD,Dl.rNeD,Dl.rIsN,Dl.rNotN,Dl.gdTup2,Dl.dExt,Dl.cSorted,Dl.cMinL,Dl.dLstRng,Dl.dYes,Dl.dropOw,Dl.gdName,Dl.startD,List.map_cons,List.map_nil,List.length_cons,List.length_nil,List.cons_append,List.nil_append,List.replicate_zero,List.replicate_succ,Nat.reduceAdd,Nat.reduceSub,List.getElem?_cons_zero,List.getElem?_cons_succ,List.set_cons_zero,List.set_cons_succ,Bool.not_true,Bool.not_false,if_true,if_false,reduceCtorEq,Bool.false_eq_true,Dl.rF,Dl.cLenF,Dl.diSeqF,Dl.dTruF,Option.some.injEq,Dl.eqD_int_int,Dl.eqD_str_str,Dl.eqD_tup_tup,Dl.eqD_lst_lst,Dl.eqDL_nil_nil,Dl.eqDL_cons_nil,Dl.eqDL_cons_cons,Dl.isNonD_non,Dl.isNonD_int,Dl.addF_int,Dl.addF_lst,Dl.ixF_tup,Dl.ixF_lst,Dl.seqF_lst,Dl.truF_bl,Dl.truF_lst,exists_eq_left',Dl.atI_0,Dl.atI_1,Dl.atI_2,Dl.atI_3,decide_eq_true_eq,true_and,Bool.true_and,Dl.okEq_int_int,beq_iff_eq,beq_self_eq_true,beq_eq_false_iff_ne,Bool.not_eq_true',ne_eq,ite_not,Dl.sz0,Dl.sz1,Dl.sz2,Dl.sz4]
  generalize hend:now + size + by_ = en
  have okT3:Ok (.tm size (size - d + by_) (some (now + d))):=⟨by omega,by omega,fun s e=>by cases e; omega⟩
  obtain ⟨l4,hr4⟩:=rings_exist (.ev b (1 + f) none) (now + d) (en - 1)
  have ll4:=rings_len hr4
  refine use_tick2 (by omega) (by omega) okE okT3 hr4 (tm_no (by omega)) (by simp; omega) fun rows4 hp4 hs4=>?_
  obtain ⟨fe4,ft4,ln4,ok4⟩:=rows_et hp4 hs4 hr4.rise List.Pairwise.nil
  clear hp4 hs4
  simp only [Dl.dSeq,Dl.dSetD,Dl.xDGet,Dl.dDPut,Dl.dDPop,Dl.dDIn,Dl.dctOf,Dl.dctR,Dl.fzOf,Dl.keyD,Dl.diItems,Dl.dFz,Dl.pinO,Dl.pinS,Dl.dMeth,Dl.dMake,Dl.aNil,Dl.aCons,Dl.atsOf,Dl.inA,Dl.dX,Dl.xVar,Dl.xFld,Dl.dSetF,Dl.fldOf,Dl.putAt,Dl.fewOf,Dl.setO,Dl.upA_a,Dl.startO,Dl.entO,Dl.slA,Dl.outO,Dl.outA_a,Dl.outA_b,List.head?_cons,decide_true,Bool.and_self,and_self,Dl.dSeq,Dl.dNext,Dl.dIfS,Dl.dB,Dl.dOp,Dl.dVar,Dl.dC,Dl.dLst,Dl.dTup,Dl.dNil,Dl.dCons,Dl.dRet,Dl.dCall,Dl.cMax,Dl.cMin,Dl.dDrop,Dl.dSet,Dl.dOwn,Dl.dFrz,Dl.dAnd,Dl.dOr,Dl.dNot,Dl.dIf,Dl.dNever,Dl.rII,Dl.rIC,Dl.rEqD,Dl.rNeD,Dl.rIsN,Dl.rNotN,Dl.gdTup2,Dl.dExt,Dl.cSorted,Dl.cMinL,Dl.dLstRng,Dl.dYes,Dl.dropOw,Dl.gdName,Dl.startD,List.map_cons,List.map_nil,List.length_cons,List.length_nil,List.cons_append,List.nil_append,List.replicate_zero,List.replicate_succ,Nat.reduceAdd,Nat.reduceSub,List.getElem?_cons_zero,List.getElem?_cons_succ,List.set_cons_zero,List.set_cons_succ,Bool.not_true,Bool.not_false,if_true,if_false,reduceCtorEq,Bool.false_eq_true,Dl.rF,Dl.cLenF,Dl.diSeqF,Dl.dTruF,Option.some.injEq,Dl.eqD_int_int,Dl.eqD_str_str,Dl.eqD_tup_tup,Dl.eqD_lst_lst,Dl.eqDL_nil_nil,Dl.eqDL_cons_nil,Dl.eqDL_cons_cons,Dl.isNonD_non,Dl.isNonD_int,Dl.addF_int,Dl.addF_lst,Dl.ixF_tup,Dl.ixF_lst,Dl.seqF_lst,Dl.truF_bl,Dl.truF_lst,exists_eq_left',Dl.atI_0,Dl.atI_1,Dl.atI_2,Dl.atI_3,decide_eq_true_eq,true_and,Bool.true_and,Dl.okEq_int_int,beq_iff_eq,beq_self_eq_true,beq_eq_false_iff_ne,Bool.not_eq_true',ne_eq,ite_not,Dl.sz0,Dl.sz1,Dl.sz2,Dl.sz4]
  refine ⟨.lst ((rowsA ++ rows4).map rowD),by rw [if_pos (by rw [List.length_map,List.length_map,ln4]; have:=sizeLine_big (n:=300) (by decide); simp; omega),List.map_append],?_⟩
  have fe5:filt "e" (rowsA ++ rows4) = (l1 ++ l2) ++ l4:=by rw [filt_app,fe3,fe4]
  have ft5:filt "t" (rowsA ++ rows4) = [size]:=by rw [filt_app,ft3,ft4]; rfl
  have ok5:∀ r ∈ rowsA ++ rows4,PyData.strOk r.2 = true:=fun r hr=>(List.mem_append.mp hr).elim (ok3 r) (ok4 r)
  have ln5:(rowsA ++ rows4).length ≤ 200:=by rw [List.length_append,ln4]; simp; omega
  have hr5:=hr3.append hr4 (by omega) (by omega)
  generalize rowsA ++ rows4 = rowsB at *
  simp only [t_law_16,Dl.dSetD,Dl.xDGet,Dl.dDPut,Dl.dDPop,Dl.dDIn,Dl.dctOf,Dl.dctR,Dl.fzOf,Dl.keyD,Dl.diItems,Dl.dFz,Dl.pinO,Dl.pinS,Dl.dMeth,Dl.dMake,Dl.aNil,Dl.aCons,Dl.atsOf,Dl.inA,Dl.dX,Dl.xVar,Dl.xFld,Dl.dSetF,Dl.fldOf,Dl.putAt,Dl.fewOf,Dl.setO,Dl.upA_a,Dl.startO,Dl.entO,Dl.slA,Dl.outO,Dl.outA_a,Dl.outA_b,List.head?_cons,decide_true,Bool.and_self,and_self,Dl.dSeq,Dl.dNext,Dl.dIfS,Dl.dB,Dl.dOp,Dl.dVar,Dl.dC,Dl.dLst,Dl.dTup,Dl.dNil,Dl.dCons,Dl.dRet,Dl.dCall,Dl.cMax,Dl.cMin,Dl.dDrop,Dl.dSet,Dl.dOwn,Dl.dFrz,Dl.dAnd,Dl.dOr,Dl.dNot,Dl.dIf,Dl.dNever,Dl.rII,Dl.rIC,Dl.rEqD,Dl.rNeD,Dl.rIsN,Dl.rNotN,Dl.gdTup2,Dl.dExt,Dl.cSorted,Dl.cMinL,Dl.dLstRng,Dl.dYes,Dl.dropOw,Dl.gdName,Dl.startD,List.map_cons,List.map_nil,List.length_cons,List.length_nil,List.cons_append,List.nil_append,List.replicate_zero,List.replicate_succ,Nat.reduceAdd,Nat.reduceSub,List.getElem?_cons_zero,List.getElem?_cons_succ,List.set_cons_zero,List.set_cons_succ,Bool.not_true,Bool.not_false,if_true,if_false,reduceCtorEq,Bool.false_eq_true,Dl.rF,Dl.cLenF,Dl.diSeqF,Dl.dTruF,Option.some.injEq,Dl.eqD_int_int,Dl.eqD_str_str,Dl.eqD_tup_tup,Dl.eqD_lst_lst,Dl.eqDL_nil_nil,Dl.eqDL_cons_nil,Dl.eqDL_cons_cons,Dl.isNonD_non,Dl.isNonD_int,Dl.addF_int,Dl.addF_lst,Dl.ixF_tup,Dl.ixF_lst,Dl.seqF_lst,Dl.truF_bl,Dl.truF_lst,exists_eq_left',Dl.atI_0,Dl.atI_1,Dl.atI_2,Dl.atI_3,decide_eq_true_eq,true_and,Bool.true_and,Dl.okEq_int_int,beq_iff_eq,beq_self_eq_true,beq_eq_false_iff_ne,Bool.not_eq_true',ne_eq,ite_not,Dl.sz0,Dl.sz1,Dl.sz2,Dl.sz4]
  refine comp_mom rfl (fun R h=>by simp only [Dl.dSeq,Dl.dSetD,Dl.xDGet,Dl.dDPut,Dl.dDPop,Dl.dDIn,Dl.dctOf,Dl.dctR,Dl.fzOf,Dl.keyD,Dl.diItems,Dl.dFz,Dl.pinO,Dl.pinS,Dl.dMeth,Dl.dMake,Dl.aNil,Dl.aCons,Dl.atsOf,Dl.inA,Dl.dX,Dl.xVar,Dl.xFld,Dl.dSetF,Dl.fldOf,Dl.putAt,Dl.fewOf,Dl.setO,Dl.upA_a,Dl.startO,Dl.entO,Dl.slA,Dl.outO,Dl.outA_a,Dl.outA_b,List.head?_cons,decide_true,Bool.and_self,and_self,Dl.dSeq,Dl.dNext,Dl.dIfS,Dl.dB,Dl.dOp,Dl.dVar,Dl.dC,Dl.dLst,Dl.dTup,Dl.dNil,Dl.dCons,Dl.dRet,Dl.dCall,Dl.cMax,Dl.cMin,Dl.dDrop,Dl.dSet,Dl.dOwn,Dl.dFrz,Dl.dAnd,Dl.dOr,Dl.dNot,Dl.dIf,Dl.dNever,Dl.rII,Dl.rIC,Dl.rEqD,Dl.rNeD,Dl.rIsN,Dl.rNotN,Dl.gdTup2,Dl.dExt,Dl.cSorted,Dl.cMinL,Dl.dLstRng,Dl.dYes,Dl.dropOw,Dl.gdName,Dl.startD,List.map_cons,List.map_nil,List.length_cons,List.length_nil,List.cons_append,List.nil_append,List.replicate_zero,List.replicate_succ,Nat.reduceAdd,Nat.reduceSub,List.getElem?_cons_zero,List.getElem?_cons_succ,List.set_cons_zero,List.set_cons_succ,Bool.not_true,Bool.not_false,if_true,if_false,reduceCtorEq,Bool.false_eq_true,Dl.rF,Dl.cLenF,Dl.diSeqF,Dl.dTruF,Option.some.injEq,Dl.eqD_int_int,Dl.eqD_str_str,Dl.eqD_tup_tup,Dl.eqD_lst_lst,Dl.eqDL_nil_nil,Dl.eqDL_cons_nil,Dl.eqDL_cons_cons,Dl.isNonD_non,Dl.isNonD_int,Dl.addF_int,Dl.addF_lst,Dl.ixF_tup,Dl.ixF_lst,Dl.seqF_lst,Dl.truF_bl,Dl.truF_lst,exists_eq_left',Dl.atI_0,Dl.atI_1,Dl.atI_2,Dl.atI_3,decide_eq_true_eq,true_and,Bool.true_and,Dl.okEq_int_int,beq_iff_eq,beq_self_eq_true,beq_eq_false_iff_ne,Bool.not_eq_true',ne_eq,ite_not,Dl.sz0,Dl.sz1,Dl.sz2,Dl.sz4]; exact h) (ok_n _ (.inr (.inl rfl))) ok5 (by omega) ?_
  simp only [ft5,Dl.dSetD,Dl.xDGet,Dl.dDPut,Dl.dDPop,Dl.dDIn,Dl.dctOf,Dl.dctR,Dl.fzOf,Dl.keyD,Dl.diItems,Dl.dFz,Dl.pinO,Dl.pinS,Dl.dMeth,Dl.dMake,Dl.aNil,Dl.aCons,Dl.atsOf,Dl.inA,Dl.dX,Dl.xVar,Dl.xFld,Dl.dSetF,Dl.fldOf,Dl.putAt,Dl.fewOf,Dl.setO,Dl.upA_a,Dl.startO,Dl.entO,Dl.slA,Dl.outO,Dl.outA_a,Dl.outA_b,List.head?_cons,decide_true,Bool.and_self,and_self,Dl.dSeq,Dl.dNext,Dl.dIfS,Dl.dB,Dl.dOp,Dl.dVar,Dl.dC,Dl.dLst,Dl.dTup,Dl.dNil,Dl.dCons,Dl.dRet,Dl.dCall,Dl.cMax,Dl.cMin,Dl.dDrop,Dl.dSet,Dl.dOwn,Dl.dFrz,Dl.dAnd,Dl.dOr,Dl.dNot,Dl.dIf,Dl.dNever,Dl.rII,Dl.rIC,Dl.rEqD,Dl.rNeD,Dl.rIsN,Dl.rNotN,Dl.gdTup2,Dl.dExt,Dl.cSorted,Dl.cMinL,Dl.dLstRng,Dl.dYes,Dl.dropOw,Dl.gdName,Dl.startD,List.map_cons,List.map_nil,List.length_cons,List.length_nil,List.cons_append,List.nil_append,List.replicate_zero,List.replicate_succ,Nat.reduceAdd,Nat.reduceSub,List.getElem?_cons_zero,List.getElem?_cons_succ,List.set_cons_zero,List.set_cons_succ,Bool.not_true,Bool.not_false,if_true,if_false,reduceCtorEq,Bool.false_eq_true,Dl.rF,Dl.cLenF,Dl.diSeqF,Dl.dTruF,Option.some.injEq,Dl.eqD_int_int,Dl.eqD_str_str,Dl.eqD_tup_tup,Dl.eqD_lst_lst,Dl.eqDL_nil_nil,Dl.eqDL_cons_nil,Dl.eqDL_cons_cons,Dl.isNonD_non,Dl.isNonD_int,Dl.addF_int,Dl.addF_lst,Dl.ixF_tup,Dl.ixF_lst,Dl.seqF_lst,Dl.truF_bl,Dl.truF_lst,exists_eq_left',Dl.atI_0,Dl.atI_1,Dl.atI_2,Dl.atI_3,decide_eq_true_eq,true_and,Bool.true_and,Dl.okEq_int_int,beq_iff_eq,beq_self_eq_true,beq_eq_false_iff_ne,Bool.not_eq_true',ne_eq,ite_not,Dl.sz0,Dl.sz1,Dl.sz2,Dl.sz4]
  refine ⟨ok_lstI (l:=[size]) (m:=[size]),?_⟩
  obtain ⟨l6,hr6⟩:=rings_exist (.ev b (1 + f) none) (en - 1) en
  have ll6:=rings_len hr6
  have ht6:RingsOf (.tm size (size - d + by_) (some (now + d))) (en - 1) en [en]:=by have:=tm_one (size:=size) (left:=size - d + by_) (s:=now + d) (a:=en - 1) (e:=en) (by omega) (by omega); rw [show now + d + (size - d + by_) = en by omega] at this; exact this
  simp only [t_law_17,Dl.dSetD,Dl.xDGet,Dl.dDPut,Dl.dDPop,Dl.dDIn,Dl.dctOf,Dl.dctR,Dl.fzOf,Dl.keyD,Dl.diItems,Dl.dFz,Dl.pinO,Dl.pinS,Dl.dMeth,Dl.dMake,Dl.aNil,Dl.aCons,Dl.atsOf,Dl.inA,Dl.dX,Dl.xVar,Dl.xFld,Dl.dSetF,Dl.fldOf,Dl.putAt,Dl.fewOf,Dl.setO,Dl.upA_a,Dl.startO,Dl.entO,Dl.slA,Dl.outO,Dl.outA_a,Dl.outA_b,List.head?_cons,decide_true,Bool.and_self,and_self,Dl.dSeq,Dl.dNext,Dl.dIfS,Dl.dB,Dl.dOp,Dl.dVar,Dl.dC,Dl.dLst,Dl.dTup,Dl.dNil,Dl.dCons,Dl.dRet,Dl.dCall,Dl.cMax,Dl.cMin,Dl.dDrop,Dl.dSet,Dl.dOwn,Dl.dFrz,Dl.dAnd,Dl.dOr,Dl.dNot,Dl.dIf,Dl.dNever,Dl.rII,Dl.rIC,Dl.rEqD,Dl.rNeD,Dl.rIsN,Dl.rNotN,Dl.gdTup2,Dl.dExt,Dl.cSorted,Dl.cMinL,Dl.dLstRng,Dl.dYes,Dl.dropOw,Dl.gdName,Dl.startD,List.map_cons,List.map_nil,List.length_cons,List.length_nil,List.cons_append,List.nil_append,List.replicate_zero,List.replicate_succ,Nat.reduceAdd,Nat.reduceSub,List.getElem?_cons_zero,List.getElem?_cons_succ,List.set_cons_zero,List.set_cons_succ,Bool.not_true,Bool.not_false,if_true,if_false,reduceCtorEq,Bool.false_eq_true,Dl.rF,Dl.cLenF,Dl.diSeqF,Dl.dTruF,Option.some.injEq,Dl.eqD_int_int,Dl.eqD_str_str,Dl.eqD_tup_tup,Dl.eqD_lst_lst,Dl.eqDL_nil_nil,Dl.eqDL_cons_nil,Dl.eqDL_cons_cons,Dl.isNonD_non,Dl.isNonD_int,Dl.addF_int,Dl.addF_lst,Dl.ixF_tup,Dl.ixF_lst,Dl.seqF_lst,Dl.truF_bl,Dl.truF_lst,exists_eq_left',Dl.atI_0,Dl.atI_1,Dl.atI_2,Dl.atI_3,decide_eq_true_eq,true_and,Bool.true_and,Dl.okEq_int_int,beq_iff_eq,beq_self_eq_true,beq_eq_false_iff_ne,Bool.not_eq_true',ne_eq,ite_not,Dl.sz0,Dl.sz1,Dl.sz2,Dl.sz4]
  refine comp_keepG (G:=fun rows6 δ=>filt "t" rows6 = [en]∧rows6.length ≤ 100∧(∀ r ∈ rows6,PyData.strOk r.2 = true)∧δ = [.sh (scr ns),.sh (.int size),.sh (.int by_),.sh (.tup [.str "every",.int b,.int (1 + f),.non]),.ob none C (Hs.fs ⟨en,[("e",.ev b (1 + f) none),("t",.tm size (size - d + by_) (some (now + d)))],false⟩),.sh (.int now),.sh (.lst (rowsB.map rowD)),.sh (.int (now + d)),.sh (.int en),.no]) (fun R hR=>?_) (ok_n _ (.inr (.inl rfl))) ?_
  · simp only [Hs.m_tick,nd1,Dl.dSetD,Dl.xDGet,Dl.dDPut,Dl.dDPop,Dl.dDIn,Dl.dctOf,Dl.dctR,Dl.fzOf,Dl.keyD,Dl.diItems,Dl.dFz,Dl.pinO,Dl.pinS,Dl.dMeth,Dl.dMake,Dl.aNil,Dl.aCons,Dl.atsOf,Dl.inA,Dl.dX,Dl.xVar,Dl.xFld,Dl.dSetF,Dl.fldOf,Dl.putAt,Dl.fewOf,Dl.setO,Dl.upA_a,Dl.startO,Dl.entO,Dl.slA,Dl.outO,Dl.outA_a,Dl.outA_b,List.head?_cons,decide_true,Bool.and_self,and_self,Dl.dSeq,Dl.dNext,Dl.dIfS,Dl.dB,Dl.dOp,Dl.dVar,Dl.dC,Dl.dLst,Dl.dTup,Dl.dNil,Dl.dCons,Dl.dRet,Dl.dCall,Dl.cMax,Dl.cMin,Dl.dDrop,Dl.dSet,Dl.dOwn,Dl.dFrz,Dl.dAnd,Dl.dOr,Dl.dNot,Dl.dIf,Dl.dNever,Dl.rII,Dl.rIC,Dl.rEqD,Dl.rNeD,Dl.rIsN,Dl.rNotN,Dl.gdTup2,Dl.dExt,Dl.cSorted,Dl.cMinL,Dl.dLstRng,Dl.dYes,Dl.dropOw,Dl.gdName,Dl.startD,List.map_cons,List.map_nil,List.length_cons,List.length_nil,List.cons_append,List.nil_append,List.replicate_zero,List.replicate_succ,Nat.reduceAdd,Nat.reduceSub,List.getElem?_cons_zero,List.getElem?_cons_succ,List.set_cons_zero,List.set_cons_succ,Bool.not_true,Bool.not_false,if_true,if_false,reduceCtorEq,Bool.false_eq_true,Dl.rF,Dl.cLenF,Dl.diSeqF,Dl.dTruF,Option.some.injEq,Dl.eqD_int_int,Dl.eqD_str_str,Dl.eqD_tup_tup,Dl.eqD_lst_lst,Dl.eqDL_nil_nil,Dl.eqDL_cons_nil,Dl.eqDL_cons_cons,Dl.isNonD_non,Dl.isNonD_int,Dl.addF_int,Dl.addF_lst,Dl.ixF_tup,Dl.ixF_lst,Dl.seqF_lst,Dl.truF_bl,Dl.truF_lst,exists_eq_left',Dl.atI_0,Dl.atI_1,Dl.atI_2,Dl.atI_3,decide_eq_true_eq,true_and,Bool.true_and,Dl.okEq_int_int,beq_iff_eq,beq_self_eq_true,beq_eq_false_iff_ne,Bool.not_eq_true',ne_eq,ite_not,Dl.sz0,Dl.sz1,Dl.sz2,Dl.sz4]
    refine use_tick2 (by omega) (by omega) okE okT3 hr6 ht6 (by simp; omega) fun rows6 hp6 hs6=>?_
    obtain ⟨fe6,ft6,ln6,ok6⟩:=rows_et hp6 hs6 hr6.rise ht6.rise
    simp only [Dl.dSeq,Dl.dSetD,Dl.xDGet,Dl.dDPut,Dl.dDPop,Dl.dDIn,Dl.dctOf,Dl.dctR,Dl.fzOf,Dl.keyD,Dl.diItems,Dl.dFz,Dl.pinO,Dl.pinS,Dl.dMeth,Dl.dMake,Dl.aNil,Dl.aCons,Dl.atsOf,Dl.inA,Dl.dX,Dl.xVar,Dl.xFld,Dl.dSetF,Dl.fldOf,Dl.putAt,Dl.fewOf,Dl.setO,Dl.upA_a,Dl.startO,Dl.entO,Dl.slA,Dl.outO,Dl.outA_a,Dl.outA_b,List.head?_cons,decide_true,Bool.and_self,and_self,Dl.dSeq,Dl.dNext,Dl.dIfS,Dl.dB,Dl.dOp,Dl.dVar,Dl.dC,Dl.dLst,Dl.dTup,Dl.dNil,Dl.dCons,Dl.dRet,Dl.dCall,Dl.cMax,Dl.cMin,Dl.dDrop,Dl.dSet,Dl.dOwn,Dl.dFrz,Dl.dAnd,Dl.dOr,Dl.dNot,Dl.dIf,Dl.dNever,Dl.rII,Dl.rIC,Dl.rEqD,Dl.rNeD,Dl.rIsN,Dl.rNotN,Dl.gdTup2,Dl.dExt,Dl.cSorted,Dl.cMinL,Dl.dLstRng,Dl.dYes,Dl.dropOw,Dl.gdName,Dl.startD,List.map_cons,List.map_nil,List.length_cons,List.length_nil,List.cons_append,List.nil_append,List.replicate_zero,List.replicate_succ,Nat.reduceAdd,Nat.reduceSub,List.getElem?_cons_zero,List.getElem?_cons_succ,List.set_cons_zero,List.set_cons_succ,Bool.not_true,Bool.not_false,if_true,if_false,reduceCtorEq,Bool.false_eq_true,Dl.rF,Dl.cLenF,Dl.diSeqF,Dl.dTruF,Option.some.injEq,Dl.eqD_int_int,Dl.eqD_str_str,Dl.eqD_tup_tup,Dl.eqD_lst_lst,Dl.eqDL_nil_nil,Dl.eqDL_cons_nil,Dl.eqDL_cons_cons,Dl.isNonD_non,Dl.isNonD_int,Dl.addF_int,Dl.addF_lst,Dl.ixF_tup,Dl.ixF_lst,Dl.seqF_lst,Dl.truF_bl,Dl.truF_lst,exists_eq_left',Dl.atI_0,Dl.atI_1,Dl.atI_2,Dl.atI_3,decide_eq_true_eq,true_and,Bool.true_and,Dl.okEq_int_int,beq_iff_eq,beq_self_eq_true,beq_eq_false_iff_ne,Bool.not_eq_true',ne_eq,ite_not,Dl.sz0,Dl.sz1,Dl.sz2,Dl.sz4]
    exact hR rows6 _ ⟨ft6,by rw [ln6]; simp; omega,ok6,rfl⟩
  rintro rows6 δ ⟨ft6,ln6,ok6,rfl⟩
  refine ⟨rfl,ok6,by omega,?_⟩
  rw [ft6]
  simp only [Dl.dSeq,Dl.dSetD,Dl.xDGet,Dl.dDPut,Dl.dDPop,Dl.dDIn,Dl.dctOf,Dl.dctR,Dl.fzOf,Dl.keyD,Dl.diItems,Dl.dFz,Dl.pinO,Dl.pinS,Dl.dMeth,Dl.dMake,Dl.aNil,Dl.aCons,Dl.atsOf,Dl.inA,Dl.dX,Dl.xVar,Dl.xFld,Dl.dSetF,Dl.fldOf,Dl.putAt,Dl.fewOf,Dl.setO,Dl.upA_a,Dl.startO,Dl.entO,Dl.slA,Dl.outO,Dl.outA_a,Dl.outA_b,List.head?_cons,decide_true,Bool.and_self,and_self,Dl.dSeq,Dl.dNext,Dl.dIfS,Dl.dB,Dl.dOp,Dl.dVar,Dl.dC,Dl.dLst,Dl.dTup,Dl.dNil,Dl.dCons,Dl.dRet,Dl.dCall,Dl.cMax,Dl.cMin,Dl.dDrop,Dl.dSet,Dl.dOwn,Dl.dFrz,Dl.dAnd,Dl.dOr,Dl.dNot,Dl.dIf,Dl.dNever,Dl.rII,Dl.rIC,Dl.rEqD,Dl.rNeD,Dl.rIsN,Dl.rNotN,Dl.gdTup2,Dl.dExt,Dl.cSorted,Dl.cMinL,Dl.dLstRng,Dl.dYes,Dl.dropOw,Dl.gdName,Dl.startD,List.map_cons,List.map_nil,List.length_cons,List.length_nil,List.cons_append,List.nil_append,List.replicate_zero,List.replicate_succ,Nat.reduceAdd,Nat.reduceSub,List.getElem?_cons_zero,List.getElem?_cons_succ,List.set_cons_zero,List.set_cons_succ,Bool.not_true,Bool.not_false,if_true,if_false,reduceCtorEq,Bool.false_eq_true,Dl.rF,Dl.cLenF,Dl.diSeqF,Dl.dTruF,Option.some.injEq,Dl.eqD_int_int,Dl.eqD_str_str,Dl.eqD_tup_tup,Dl.eqD_lst_lst,Dl.eqDL_nil_nil,Dl.eqDL_cons_nil,Dl.eqDL_cons_cons,Dl.isNonD_non,Dl.isNonD_int,Dl.addF_int,Dl.addF_lst,Dl.ixF_tup,Dl.ixF_lst,Dl.seqF_lst,Dl.truF_bl,Dl.truF_lst,exists_eq_left',Dl.atI_0,Dl.atI_1,Dl.atI_2,Dl.atI_3,decide_eq_true_eq,true_and,Bool.true_and,Dl.okEq_int_int,beq_iff_eq,beq_self_eq_true,beq_eq_false_iff_ne,Bool.not_eq_true',ne_eq,ite_not,Dl.sz0,Dl.sz1,Dl.sz2,Dl.sz4]
  refine ⟨okRows (l:=[(en,("t":Str))]) (m:=[(en,("t":Str))]) ok_t1 ok_t1,?_⟩
  clear ft6 ok6 ln6 rows6
  simp only [t_law_18,Dl.dSetD,Dl.xDGet,Dl.dDPut,Dl.dDPop,Dl.dDIn,Dl.dctOf,Dl.dctR,Dl.fzOf,Dl.keyD,Dl.diItems,Dl.dFz,Dl.pinO,Dl.pinS,Dl.dMeth,Dl.dMake,Dl.aNil,Dl.aCons,Dl.atsOf,Dl.inA,Dl.dX,Dl.xVar,Dl.xFld,Dl.dSetF,Dl.fldOf,Dl.putAt,Dl.fewOf,Dl.setO,Dl.upA_a,Dl.startO,Dl.entO,Dl.slA,Dl.outO,Dl.outA_a,Dl.outA_b,List.head?_cons,decide_true,Bool.and_self,and_self,Dl.dSeq,Dl.dNext,Dl.dIfS,Dl.dB,Dl.dOp,Dl.dVar,Dl.dC,Dl.dLst,Dl.dTup,Dl.dNil,Dl.dCons,Dl.dRet,Dl.dCall,Dl.cMax,Dl.cMin,Dl.dDrop,Dl.dSet,Dl.dOwn,Dl.dFrz,Dl.dAnd,Dl.dOr,Dl.dNot,Dl.dIf,Dl.dNever,Dl.rII,Dl.rIC,Dl.rEqD,Dl.rNeD,Dl.rIsN,Dl.rNotN,Dl.gdTup2,Dl.dExt,Dl.cSorted,Dl.cMinL,Dl.dLstRng,Dl.dYes,Dl.dropOw,Dl.gdName,Dl.startD,List.map_cons,List.map_nil,List.length_cons,List.length_nil,List.cons_append,List.nil_append,List.replicate_zero,List.replicate_succ,Nat.reduceAdd,Nat.reduceSub,List.getElem?_cons_zero,List.getElem?_cons_succ,List.set_cons_zero,List.set_cons_succ,Bool.not_true,Bool.not_false,if_true,if_false,reduceCtorEq,Bool.false_eq_true,Dl.rF,Dl.cLenF,Dl.diSeqF,Dl.dTruF,Option.some.injEq,Dl.eqD_int_int,Dl.eqD_str_str,Dl.eqD_tup_tup,Dl.eqD_lst_lst,Dl.eqDL_nil_nil,Dl.eqDL_cons_nil,Dl.eqDL_cons_cons,Dl.isNonD_non,Dl.isNonD_int,Dl.addF_int,Dl.addF_lst,Dl.ixF_tup,Dl.ixF_lst,Dl.seqF_lst,Dl.truF_bl,Dl.truF_lst,exists_eq_left',Dl.atI_0,Dl.atI_1,Dl.atI_2,Dl.atI_3,decide_eq_true_eq,true_and,Bool.true_and,Dl.okEq_int_int,beq_iff_eq,beq_self_eq_true,beq_eq_false_iff_ne,Bool.not_eq_true',ne_eq,ite_not,Dl.sz0,Dl.sz1,Dl.sz2,Dl.sz4]
  refine comp_mom rfl (fun R h=>by simp only [Dl.dSeq,Dl.dSetD,Dl.xDGet,Dl.dDPut,Dl.dDPop,Dl.dDIn,Dl.dctOf,Dl.dctR,Dl.fzOf,Dl.keyD,Dl.diItems,Dl.dFz,Dl.pinO,Dl.pinS,Dl.dMeth,Dl.dMake,Dl.aNil,Dl.aCons,Dl.atsOf,Dl.inA,Dl.dX,Dl.xVar,Dl.xFld,Dl.dSetF,Dl.fldOf,Dl.putAt,Dl.fewOf,Dl.setO,Dl.upA_a,Dl.startO,Dl.entO,Dl.slA,Dl.outO,Dl.outA_a,Dl.outA_b,List.head?_cons,decide_true,Bool.and_self,and_self,Dl.dSeq,Dl.dNext,Dl.dIfS,Dl.dB,Dl.dOp,Dl.dVar,Dl.dC,Dl.dLst,Dl.dTup,Dl.dNil,Dl.dCons,Dl.dRet,Dl.dCall,Dl.cMax,Dl.cMin,Dl.dDrop,Dl.dSet,Dl.dOwn,Dl.dFrz,Dl.dAnd,Dl.dOr,Dl.dNot,Dl.dIf,Dl.dNever,Dl.rII,Dl.rIC,Dl.rEqD,Dl.rNeD,Dl.rIsN,Dl.rNotN,Dl.gdTup2,Dl.dExt,Dl.cSorted,Dl.cMinL,Dl.dLstRng,Dl.dYes,Dl.dropOw,Dl.gdName,Dl.startD,List.map_cons,List.map_nil,List.length_cons,List.length_nil,List.cons_append,List.nil_append,List.replicate_zero,List.replicate_succ,Nat.reduceAdd,Nat.reduceSub,List.getElem?_cons_zero,List.getElem?_cons_succ,List.set_cons_zero,List.set_cons_succ,Bool.not_true,Bool.not_false,if_true,if_false,reduceCtorEq,Bool.false_eq_true,Dl.rF,Dl.cLenF,Dl.diSeqF,Dl.dTruF,Option.some.injEq,Dl.eqD_int_int,Dl.eqD_str_str,Dl.eqD_tup_tup,Dl.eqD_lst_lst,Dl.eqDL_nil_nil,Dl.eqDL_cons_nil,Dl.eqDL_cons_cons,Dl.isNonD_non,Dl.isNonD_int,Dl.addF_int,Dl.addF_lst,Dl.ixF_tup,Dl.ixF_lst,Dl.seqF_lst,Dl.truF_bl,Dl.truF_lst,exists_eq_left',Dl.atI_0,Dl.atI_1,Dl.atI_2,Dl.atI_3,decide_eq_true_eq,true_and,Bool.true_and,Dl.okEq_int_int,beq_iff_eq,beq_self_eq_true,beq_eq_false_iff_ne,Bool.not_eq_true',ne_eq,ite_not,Dl.sz0,Dl.sz1,Dl.sz2,Dl.sz4]; exact h) (ok_n _ (.inl rfl)) ok5 (by omega) ?_
  simp only [fe5,Dl.dSetD,Dl.xDGet,Dl.dDPut,Dl.dDPop,Dl.dDIn,Dl.dctOf,Dl.dctR,Dl.fzOf,Dl.keyD,Dl.diItems,Dl.dFz,Dl.pinO,Dl.pinS,Dl.dMeth,Dl.dMake,Dl.aNil,Dl.aCons,Dl.atsOf,Dl.inA,Dl.dX,Dl.xVar,Dl.xFld,Dl.dSetF,Dl.fldOf,Dl.putAt,Dl.fewOf,Dl.setO,Dl.upA_a,Dl.startO,Dl.entO,Dl.slA,Dl.outO,Dl.outA_a,Dl.outA_b,List.head?_cons,decide_true,Bool.and_self,and_self,Dl.dSeq,Dl.dNext,Dl.dIfS,Dl.dB,Dl.dOp,Dl.dVar,Dl.dC,Dl.dLst,Dl.dTup,Dl.dNil,Dl.dCons,Dl.dRet,Dl.dCall,Dl.cMax,Dl.cMin,Dl.dDrop,Dl.dSet,Dl.dOwn,Dl.dFrz,Dl.dAnd,Dl.dOr,Dl.dNot,Dl.dIf,Dl.dNever,Dl.rII,Dl.rIC,Dl.rEqD,Dl.rNeD,Dl.rIsN,Dl.rNotN,Dl.gdTup2,Dl.dExt,Dl.cSorted,Dl.cMinL,Dl.dLstRng,Dl.dYes,Dl.dropOw,Dl.gdName,Dl.startD,List.map_cons,List.map_nil,List.length_cons,List.length_nil,List.cons_append,List.nil_append,List.replicate_zero,List.replicate_succ,Nat.reduceAdd,Nat.reduceSub,List.getElem?_cons_zero,List.getElem?_cons_succ,List.set_cons_zero,List.set_cons_succ,Bool.not_true,Bool.not_false,if_true,if_false,reduceCtorEq,Bool.false_eq_true,Dl.rF,Dl.cLenF,Dl.diSeqF,Dl.dTruF,Option.some.injEq,Dl.eqD_int_int,Dl.eqD_str_str,Dl.eqD_tup_tup,Dl.eqD_lst_lst,Dl.eqDL_nil_nil,Dl.eqDL_cons_nil,Dl.eqDL_cons_cons,Dl.isNonD_non,Dl.isNonD_int,Dl.addF_int,Dl.addF_lst,Dl.ixF_tup,Dl.ixF_lst,Dl.seqF_lst,Dl.truF_bl,Dl.truF_lst,exists_eq_left',Dl.atI_0,Dl.atI_1,Dl.atI_2,Dl.atI_3,decide_eq_true_eq,true_and,Bool.true_and,Dl.okEq_int_int,beq_iff_eq,beq_self_eq_true,beq_eq_false_iff_ne,Bool.not_eq_true',ne_eq,ite_not,Dl.sz0,Dl.sz1,Dl.sz2,Dl.sz4]
  refine ⟨.ev b (1 + f) none,0,en - 1,rfl,okE,by omega,by omega,fun l7 hr7=>?_⟩
  simp only [Dl.dSeq,Dl.dSetD,Dl.xDGet,Dl.dDPut,Dl.dDPop,Dl.dDIn,Dl.dctOf,Dl.dctR,Dl.fzOf,Dl.keyD,Dl.diItems,Dl.dFz,Dl.pinO,Dl.pinS,Dl.dMeth,Dl.dMake,Dl.aNil,Dl.aCons,Dl.atsOf,Dl.inA,Dl.dX,Dl.xVar,Dl.xFld,Dl.dSetF,Dl.fldOf,Dl.putAt,Dl.fewOf,Dl.setO,Dl.upA_a,Dl.startO,Dl.entO,Dl.slA,Dl.outO,Dl.outA_a,Dl.outA_b,List.head?_cons,decide_true,Bool.and_self,and_self,Dl.dSeq,Dl.dNext,Dl.dIfS,Dl.dB,Dl.dOp,Dl.dVar,Dl.dC,Dl.dLst,Dl.dTup,Dl.dNil,Dl.dCons,Dl.dRet,Dl.dCall,Dl.cMax,Dl.cMin,Dl.dDrop,Dl.dSet,Dl.dOwn,Dl.dFrz,Dl.dAnd,Dl.dOr,Dl.dNot,Dl.dIf,Dl.dNever,Dl.rII,Dl.rIC,Dl.rEqD,Dl.rNeD,Dl.rIsN,Dl.rNotN,Dl.gdTup2,Dl.dExt,Dl.cSorted,Dl.cMinL,Dl.dLstRng,Dl.dYes,Dl.dropOw,Dl.gdName,Dl.startD,List.map_cons,List.map_nil,List.length_cons,List.length_nil,List.cons_append,List.nil_append,List.replicate_zero,List.replicate_succ,Nat.reduceAdd,Nat.reduceSub,List.getElem?_cons_zero,List.getElem?_cons_succ,List.set_cons_zero,List.set_cons_succ,Bool.not_true,Bool.not_false,if_true,if_false,reduceCtorEq,Bool.false_eq_true,Dl.rF,Dl.cLenF,Dl.diSeqF,Dl.dTruF,Option.some.injEq,Dl.eqD_int_int,Dl.eqD_str_str,Dl.eqD_tup_tup,Dl.eqD_lst_lst,Dl.eqDL_nil_nil,Dl.eqDL_cons_nil,Dl.eqDL_cons_cons,Dl.isNonD_non,Dl.isNonD_int,Dl.addF_int,Dl.addF_lst,Dl.ixF_tup,Dl.ixF_lst,Dl.seqF_lst,Dl.truF_bl,Dl.truF_lst,exists_eq_left',Dl.atI_0,Dl.atI_1,Dl.atI_2,Dl.atI_3,decide_eq_true_eq,true_and,Bool.true_and,Dl.okEq_int_int,beq_iff_eq,beq_self_eq_true,beq_eq_false_iff_ne,Bool.not_eq_true',ne_eq,ite_not,Dl.sz0,Dl.sz1,Dl.sz2,Dl.sz4]
  rw [hr5.unique hr7]
  refine ⟨ok_lstI,ite2 (fun h=>absurd h (by rw [eqDL_ints]; simp)) fun _=>?_⟩
  simp only [t_law_19,Hs.m_put,Hs.m_clock,nd1,Dl.dSetD,Dl.xDGet,Dl.dDPut,Dl.dDPop,Dl.dDIn,Dl.dctOf,Dl.dctR,Dl.fzOf,Dl.keyD,Dl.diItems,Dl.dFz,Dl.pinO,Dl.pinS,Dl.dMeth,Dl.dMake,Dl.aNil,Dl.aCons,Dl.atsOf,Dl.inA,Dl.dX,Dl.xVar,Dl.xFld,Dl.dSetF,Dl.fldOf,Dl.putAt,Dl.fewOf,Dl.setO,Dl.upA_a,Dl.startO,Dl.entO,Dl.slA,Dl.outO,Dl.outA_a,Dl.outA_b,List.head?_cons,decide_true,Bool.and_self,and_self,Dl.dSeq,Dl.dNext,Dl.dIfS,Dl.dB,Dl.dOp,Dl.dVar,Dl.dC,Dl.dLst,Dl.dTup,Dl.dNil,Dl.dCons,Dl.dRet,Dl.dCall,Dl.cMax,Dl.cMin,Dl.dDrop,Dl.dSet,Dl.dOwn,Dl.dFrz,Dl.dAnd,Dl.dOr,Dl.dNot,Dl.dIf,Dl.dNever,Dl.rII,Dl.rIC,Dl.rEqD,Dl.rNeD,Dl.rIsN,Dl.rNotN,Dl.gdTup2,Dl.dExt,Dl.cSorted,Dl.cMinL,Dl.dLstRng,Dl.dYes,Dl.dropOw,Dl.gdName,Dl.startD,List.map_cons,List.map_nil,List.length_cons,List.length_nil,List.cons_append,List.nil_append,List.replicate_zero,List.replicate_succ,Nat.reduceAdd,Nat.reduceSub,List.getElem?_cons_zero,List.getElem?_cons_succ,List.set_cons_zero,List.set_cons_succ,Bool.not_true,Bool.not_false,if_true,if_false,reduceCtorEq,Bool.false_eq_true,Dl.rF,Dl.cLenF,Dl.diSeqF,Dl.dTruF,Option.some.injEq,Dl.eqD_int_int,Dl.eqD_str_str,Dl.eqD_tup_tup,Dl.eqD_lst_lst,Dl.eqDL_nil_nil,Dl.eqDL_cons_nil,Dl.eqDL_cons_cons,Dl.isNonD_non,Dl.isNonD_int,Dl.addF_int,Dl.addF_lst,Dl.ixF_tup,Dl.ixF_lst,Dl.seqF_lst,Dl.truF_bl,Dl.truF_lst,exists_eq_left',Dl.atI_0,Dl.atI_1,Dl.atI_2,Dl.atI_3,decide_eq_true_eq,true_and,Bool.true_and,Dl.okEq_int_int,beq_iff_eq,beq_self_eq_true,beq_eq_false_iff_ne,Bool.not_eq_true',ne_eq,ite_not,Dl.sz0,Dl.sz1,Dl.sz2,Dl.sz4]
  refine use_clock vT ?_
  simp only [Dl.dSeq,Dl.dSetD,Dl.xDGet,Dl.dDPut,Dl.dDPop,Dl.dDIn,Dl.dctOf,Dl.dctR,Dl.fzOf,Dl.keyD,Dl.diItems,Dl.dFz,Dl.pinO,Dl.pinS,Dl.dMeth,Dl.dMake,Dl.aNil,Dl.aCons,Dl.atsOf,Dl.inA,Dl.dX,Dl.xVar,Dl.xFld,Dl.dSetF,Dl.fldOf,Dl.putAt,Dl.fewOf,Dl.setO,Dl.upA_a,Dl.startO,Dl.entO,Dl.slA,Dl.outO,Dl.outA_a,Dl.outA_b,List.head?_cons,decide_true,Bool.and_self,and_self,Dl.dSeq,Dl.dNext,Dl.dIfS,Dl.dB,Dl.dOp,Dl.dVar,Dl.dC,Dl.dLst,Dl.dTup,Dl.dNil,Dl.dCons,Dl.dRet,Dl.dCall,Dl.cMax,Dl.cMin,Dl.dDrop,Dl.dSet,Dl.dOwn,Dl.dFrz,Dl.dAnd,Dl.dOr,Dl.dNot,Dl.dIf,Dl.dNever,Dl.rII,Dl.rIC,Dl.rEqD,Dl.rNeD,Dl.rIsN,Dl.rNotN,Dl.gdTup2,Dl.dExt,Dl.cSorted,Dl.cMinL,Dl.dLstRng,Dl.dYes,Dl.dropOw,Dl.gdName,Dl.startD,List.map_cons,List.map_nil,List.length_cons,List.length_nil,List.cons_append,List.nil_append,List.replicate_zero,List.replicate_succ,Nat.reduceAdd,Nat.reduceSub,List.getElem?_cons_zero,List.getElem?_cons_succ,List.set_cons_zero,List.set_cons_succ,Bool.not_true,Bool.not_false,if_true,if_false,reduceCtorEq,Bool.false_eq_true,Dl.rF,Dl.cLenF,Dl.diSeqF,Dl.dTruF,Option.some.injEq,Dl.eqD_int_int,Dl.eqD_str_str,Dl.eqD_tup_tup,Dl.eqD_lst_lst,Dl.eqDL_nil_nil,Dl.eqDL_cons_nil,Dl.eqDL_cons_cons,Dl.isNonD_non,Dl.isNonD_int,Dl.addF_int,Dl.addF_lst,Dl.ixF_tup,Dl.ixF_lst,Dl.seqF_lst,Dl.truF_bl,Dl.truF_lst,exists_eq_left',Dl.atI_0,Dl.atI_1,Dl.atI_2,Dl.atI_3,decide_eq_true_eq,true_and,Bool.true_and,Dl.okEq_int_int,beq_iff_eq,beq_self_eq_true,beq_eq_false_iff_ne,Bool.not_eq_true',ne_eq,ite_not,Dl.sz0,Dl.sz1,Dl.sz2,Dl.sz4]
  refine ⟨size,size - d + by_,some (now + d),en,rfl,okAt_some (by omega),?_⟩
  simp only [Dl.dSeq,Dl.dSetD,Dl.xDGet,Dl.dDPut,Dl.dDPop,Dl.dDIn,Dl.dctOf,Dl.dctR,Dl.fzOf,Dl.keyD,Dl.diItems,Dl.dFz,Dl.pinO,Dl.pinS,Dl.dMeth,Dl.dMake,Dl.aNil,Dl.aCons,Dl.atsOf,Dl.inA,Dl.dX,Dl.xVar,Dl.xFld,Dl.dSetF,Dl.fldOf,Dl.putAt,Dl.fewOf,Dl.setO,Dl.upA_a,Dl.startO,Dl.entO,Dl.slA,Dl.outO,Dl.outA_a,Dl.outA_b,List.head?_cons,decide_true,Bool.and_self,and_self,Dl.dSeq,Dl.dNext,Dl.dIfS,Dl.dB,Dl.dOp,Dl.dVar,Dl.dC,Dl.dLst,Dl.dTup,Dl.dNil,Dl.dCons,Dl.dRet,Dl.dCall,Dl.cMax,Dl.cMin,Dl.dDrop,Dl.dSet,Dl.dOwn,Dl.dFrz,Dl.dAnd,Dl.dOr,Dl.dNot,Dl.dIf,Dl.dNever,Dl.rII,Dl.rIC,Dl.rEqD,Dl.rNeD,Dl.rIsN,Dl.rNotN,Dl.gdTup2,Dl.dExt,Dl.cSorted,Dl.cMinL,Dl.dLstRng,Dl.dYes,Dl.dropOw,Dl.gdName,Dl.startD,List.map_cons,List.map_nil,List.length_cons,List.length_nil,List.cons_append,List.nil_append,List.replicate_zero,List.replicate_succ,Nat.reduceAdd,Nat.reduceSub,List.getElem?_cons_zero,List.getElem?_cons_succ,List.set_cons_zero,List.set_cons_succ,Bool.not_true,Bool.not_false,if_true,if_false,reduceCtorEq,Bool.false_eq_true,Dl.rF,Dl.cLenF,Dl.diSeqF,Dl.dTruF,Option.some.injEq,Dl.eqD_int_int,Dl.eqD_str_str,Dl.eqD_tup_tup,Dl.eqD_lst_lst,Dl.eqDL_nil_nil,Dl.eqDL_cons_nil,Dl.eqDL_cons_cons,Dl.isNonD_non,Dl.isNonD_int,Dl.addF_int,Dl.addF_lst,Dl.ixF_tup,Dl.ixF_lst,Dl.seqF_lst,Dl.truF_bl,Dl.truF_lst,exists_eq_left',Dl.atI_0,Dl.atI_1,Dl.atI_2,Dl.atI_3,decide_eq_true_eq,true_and,Bool.true_and,Dl.okEq_int_int,beq_iff_eq,beq_self_eq_true,beq_eq_false_iff_ne,Bool.not_eq_true',ne_eq,ite_not,Dl.sz0,Dl.sz1,Dl.sz2,Dl.sz4]
  refine ⟨size,size,some en,en,rfl,okAt_some (Int.le_refl _),?_⟩
  simp only [Dl.dSeq,Dl.dSetD,Dl.xDGet,Dl.dDPut,Dl.dDPop,Dl.dDIn,Dl.dctOf,Dl.dctR,Dl.fzOf,Dl.keyD,Dl.diItems,Dl.dFz,Dl.pinO,Dl.pinS,Dl.dMeth,Dl.dMake,Dl.aNil,Dl.aCons,Dl.atsOf,Dl.inA,Dl.dX,Dl.xVar,Dl.xFld,Dl.dSetF,Dl.fldOf,Dl.putAt,Dl.fewOf,Dl.setO,Dl.upA_a,Dl.startO,Dl.entO,Dl.slA,Dl.outO,Dl.outA_a,Dl.outA_b,List.head?_cons,decide_true,Bool.and_self,and_self,Dl.dSeq,Dl.dNext,Dl.dIfS,Dl.dB,Dl.dOp,Dl.dVar,Dl.dC,Dl.dLst,Dl.dTup,Dl.dNil,Dl.dCons,Dl.dRet,Dl.dCall,Dl.cMax,Dl.cMin,Dl.dDrop,Dl.dSet,Dl.dOwn,Dl.dFrz,Dl.dAnd,Dl.dOr,Dl.dNot,Dl.dIf,Dl.dNever,Dl.rII,Dl.rIC,Dl.rEqD,Dl.rNeD,Dl.rIsN,Dl.rNotN,Dl.gdTup2,Dl.dExt,Dl.cSorted,Dl.cMinL,Dl.dLstRng,Dl.dYes,Dl.dropOw,Dl.gdName,Dl.startD,List.map_cons,List.map_nil,List.length_cons,List.length_nil,List.cons_append,List.nil_append,List.replicate_zero,List.replicate_succ,Nat.reduceAdd,Nat.reduceSub,List.getElem?_cons_zero,List.getElem?_cons_succ,List.set_cons_zero,List.set_cons_succ,Bool.not_true,Bool.not_false,if_true,if_false,reduceCtorEq,Bool.false_eq_true,Dl.rF,Dl.cLenF,Dl.diSeqF,Dl.dTruF,Option.some.injEq,Dl.eqD_int_int,Dl.eqD_str_str,Dl.eqD_tup_tup,Dl.eqD_lst_lst,Dl.eqDL_nil_nil,Dl.eqDL_cons_nil,Dl.eqDL_cons_cons,Dl.isNonD_non,Dl.isNonD_int,Dl.addF_int,Dl.addF_lst,Dl.ixF_tup,Dl.ixF_lst,Dl.seqF_lst,Dl.truF_bl,Dl.truF_lst,exists_eq_left',Dl.atI_0,Dl.atI_1,Dl.atI_2,Dl.atI_3,decide_eq_true_eq,true_and,Bool.true_and,Dl.okEq_int_int,beq_iff_eq,beq_self_eq_true,beq_eq_false_iff_ne,Bool.not_eq_true',ne_eq,ite_not,Dl.sz0,Dl.sz1,Dl.sz2,Dl.sz4]
  have e2:leftAt size (some en) en = size:=by simp only [leftAt]; omega
  rw [e2]
  refine use_put (c1:=.tm size size none) (by simp) ?_
  rw [pTT]
  simp only [t_law_20,Hs.m_drop,nd1,Dl.dSetD,Dl.xDGet,Dl.dDPut,Dl.dDPop,Dl.dDIn,Dl.dctOf,Dl.dctR,Dl.fzOf,Dl.keyD,Dl.diItems,Dl.dFz,Dl.pinO,Dl.pinS,Dl.dMeth,Dl.dMake,Dl.aNil,Dl.aCons,Dl.atsOf,Dl.inA,Dl.dX,Dl.xVar,Dl.xFld,Dl.dSetF,Dl.fldOf,Dl.putAt,Dl.fewOf,Dl.setO,Dl.upA_a,Dl.startO,Dl.entO,Dl.slA,Dl.outO,Dl.outA_a,Dl.outA_b,List.head?_cons,decide_true,Bool.and_self,and_self,Dl.dSeq,Dl.dNext,Dl.dIfS,Dl.dB,Dl.dOp,Dl.dVar,Dl.dC,Dl.dLst,Dl.dTup,Dl.dNil,Dl.dCons,Dl.dRet,Dl.dCall,Dl.cMax,Dl.cMin,Dl.dDrop,Dl.dSet,Dl.dOwn,Dl.dFrz,Dl.dAnd,Dl.dOr,Dl.dNot,Dl.dIf,Dl.dNever,Dl.rII,Dl.rIC,Dl.rEqD,Dl.rNeD,Dl.rIsN,Dl.rNotN,Dl.gdTup2,Dl.dExt,Dl.cSorted,Dl.cMinL,Dl.dLstRng,Dl.dYes,Dl.dropOw,Dl.gdName,Dl.startD,List.map_cons,List.map_nil,List.length_cons,List.length_nil,List.cons_append,List.nil_append,List.replicate_zero,List.replicate_succ,Nat.reduceAdd,Nat.reduceSub,List.getElem?_cons_zero,List.getElem?_cons_succ,List.set_cons_zero,List.set_cons_succ,Bool.not_true,Bool.not_false,if_true,if_false,reduceCtorEq,Bool.false_eq_true,Dl.rF,Dl.cLenF,Dl.diSeqF,Dl.dTruF,Option.some.injEq,Dl.eqD_int_int,Dl.eqD_str_str,Dl.eqD_tup_tup,Dl.eqD_lst_lst,Dl.eqDL_nil_nil,Dl.eqDL_cons_nil,Dl.eqDL_cons_cons,Dl.isNonD_non,Dl.isNonD_int,Dl.addF_int,Dl.addF_lst,Dl.ixF_tup,Dl.ixF_lst,Dl.seqF_lst,Dl.truF_bl,Dl.truF_lst,exists_eq_left',Dl.atI_0,Dl.atI_1,Dl.atI_2,Dl.atI_3,decide_eq_true_eq,true_and,Bool.true_and,Dl.okEq_int_int,beq_iff_eq,beq_self_eq_true,beq_eq_false_iff_ne,Bool.not_eq_true',ne_eq,ite_not,Dl.sz0,Dl.sz1,Dl.sz2,Dl.sz4]
  refine ⟨⟨en,[("e",.ev b (1 + f) none),("t",.tm size size none)],false⟩,"e",.ev b (1 + f) none,rfl,rfl,vE,?_⟩
  rw [dE]
  simp only [t_law_21,Hs.m_due,Hs.m_tick,nd1,Dl.dSetD,Dl.xDGet,Dl.dDPut,Dl.dDPop,Dl.dDIn,Dl.dctOf,Dl.dctR,Dl.fzOf,Dl.keyD,Dl.diItems,Dl.dFz,Dl.pinO,Dl.pinS,Dl.dMeth,Dl.dMake,Dl.aNil,Dl.aCons,Dl.atsOf,Dl.inA,Dl.dX,Dl.xVar,Dl.xFld,Dl.dSetF,Dl.fldOf,Dl.putAt,Dl.fewOf,Dl.setO,Dl.upA_a,Dl.startO,Dl.entO,Dl.slA,Dl.outO,Dl.outA_a,Dl.outA_b,List.head?_cons,decide_true,Bool.and_self,and_self,Dl.dSeq,Dl.dNext,Dl.dIfS,Dl.dB,Dl.dOp,Dl.dVar,Dl.dC,Dl.dLst,Dl.dTup,Dl.dNil,Dl.dCons,Dl.dRet,Dl.dCall,Dl.cMax,Dl.cMin,Dl.dDrop,Dl.dSet,Dl.dOwn,Dl.dFrz,Dl.dAnd,Dl.dOr,Dl.dNot,Dl.dIf,Dl.dNever,Dl.rII,Dl.rIC,Dl.rEqD,Dl.rNeD,Dl.rIsN,Dl.rNotN,Dl.gdTup2,Dl.dExt,Dl.cSorted,Dl.cMinL,Dl.dLstRng,Dl.dYes,Dl.dropOw,Dl.gdName,Dl.startD,List.map_cons,List.map_nil,List.length_cons,List.length_nil,List.cons_append,List.nil_append,List.replicate_zero,List.replicate_succ,Nat.reduceAdd,Nat.reduceSub,List.getElem?_cons_zero,List.getElem?_cons_succ,List.set_cons_zero,List.set_cons_succ,Bool.not_true,Bool.not_false,if_true,if_false,reduceCtorEq,Bool.false_eq_true,Dl.rF,Dl.cLenF,Dl.diSeqF,Dl.dTruF,Option.some.injEq,Dl.eqD_int_int,Dl.eqD_str_str,Dl.eqD_tup_tup,Dl.eqD_lst_lst,Dl.eqDL_nil_nil,Dl.eqDL_cons_nil,Dl.eqDL_cons_cons,Dl.isNonD_non,Dl.isNonD_int,Dl.addF_int,Dl.addF_lst,Dl.ixF_tup,Dl.ixF_lst,Dl.seqF_lst,Dl.truF_bl,Dl.truF_lst,exists_eq_left',Dl.atI_0,Dl.atI_1,Dl.atI_2,Dl.atI_3,decide_eq_true_eq,true_and,Bool.true_and,Dl.okEq_int_int,beq_iff_eq,beq_self_eq_true,beq_eq_false_iff_ne,Bool.not_eq_true',ne_eq,ite_not,Dl.sz0,Dl.sz1,Dl.sz2,Dl.sz4]
  have okT4:Ok (.tm size size none):=⟨by omega,by omega,fun s e=>by cases e⟩
  refine ⟨⟨en,[("t",.tm size size none)],false⟩,rfl,by show en ≤ _; omega,by simp,fun p hp=>?_,?_⟩
  · have:p = (("t":Str),Ck.tm size size none):=by simpa using hp
    subst this
    exact ⟨okT4,tm_next⟩
  simp only [Hs.m_tick,nd1,Dl.dSetD,Dl.xDGet,Dl.dDPut,Dl.dDPop,Dl.dDIn,Dl.dctOf,Dl.dctR,Dl.fzOf,Dl.keyD,Dl.diItems,Dl.dFz,Dl.pinO,Dl.pinS,Dl.dMeth,Dl.dMake,Dl.aNil,Dl.aCons,Dl.atsOf,Dl.inA,Dl.dX,Dl.xVar,Dl.xFld,Dl.dSetF,Dl.fldOf,Dl.putAt,Dl.fewOf,Dl.setO,Dl.upA_a,Dl.startO,Dl.entO,Dl.slA,Dl.outO,Dl.outA_a,Dl.outA_b,List.head?_cons,decide_true,Bool.and_self,and_self,Dl.dSeq,Dl.dNext,Dl.dIfS,Dl.dB,Dl.dOp,Dl.dVar,Dl.dC,Dl.dLst,Dl.dTup,Dl.dNil,Dl.dCons,Dl.dRet,Dl.dCall,Dl.cMax,Dl.cMin,Dl.dDrop,Dl.dSet,Dl.dOwn,Dl.dFrz,Dl.dAnd,Dl.dOr,Dl.dNot,Dl.dIf,Dl.dNever,Dl.rII,Dl.rIC,Dl.rEqD,Dl.rNeD,Dl.rIsN,Dl.rNotN,Dl.gdTup2,Dl.dExt,Dl.cSorted,Dl.cMinL,Dl.dLstRng,Dl.dYes,Dl.dropOw,Dl.gdName,Dl.startD,List.map_cons,List.map_nil,List.length_cons,List.length_nil,List.cons_append,List.nil_append,List.replicate_zero,List.replicate_succ,Nat.reduceAdd,Nat.reduceSub,List.getElem?_cons_zero,List.getElem?_cons_succ,List.set_cons_zero,List.set_cons_succ,Bool.not_true,Bool.not_false,if_true,if_false,reduceCtorEq,Bool.false_eq_true,Dl.rF,Dl.cLenF,Dl.diSeqF,Dl.dTruF,Option.some.injEq,Dl.eqD_int_int,Dl.eqD_str_str,Dl.eqD_tup_tup,Dl.eqD_lst_lst,Dl.eqDL_nil_nil,Dl.eqDL_cons_nil,Dl.eqDL_cons_cons,Dl.isNonD_non,Dl.isNonD_int,Dl.addF_int,Dl.addF_lst,Dl.ixF_tup,Dl.ixF_lst,Dl.seqF_lst,Dl.truF_bl,Dl.truF_lst,exists_eq_left',Dl.atI_0,Dl.atI_1,Dl.atI_2,Dl.atI_3,decide_eq_true_eq,true_and,Bool.true_and,Dl.okEq_int_int,beq_iff_eq,beq_self_eq_true,beq_eq_false_iff_ne,Bool.not_eq_true',ne_eq,ite_not,Dl.sz0,Dl.sz1,Dl.sz2,Dl.sz4]
  refine use_tick1 (by omega) (by omega) okT4 tm_none ?_
  simp only [Dl.dSeq,Dl.dSetD,Dl.xDGet,Dl.dDPut,Dl.dDPop,Dl.dDIn,Dl.dctOf,Dl.dctR,Dl.fzOf,Dl.keyD,Dl.diItems,Dl.dFz,Dl.pinO,Dl.pinS,Dl.dMeth,Dl.dMake,Dl.aNil,Dl.aCons,Dl.atsOf,Dl.inA,Dl.dX,Dl.xVar,Dl.xFld,Dl.dSetF,Dl.fldOf,Dl.putAt,Dl.fewOf,Dl.setO,Dl.upA_a,Dl.startO,Dl.entO,Dl.slA,Dl.outO,Dl.outA_a,Dl.outA_b,List.head?_cons,decide_true,Bool.and_self,and_self,Dl.dSeq,Dl.dNext,Dl.dIfS,Dl.dB,Dl.dOp,Dl.dVar,Dl.dC,Dl.dLst,Dl.dTup,Dl.dNil,Dl.dCons,Dl.dRet,Dl.dCall,Dl.cMax,Dl.cMin,Dl.dDrop,Dl.dSet,Dl.dOwn,Dl.dFrz,Dl.dAnd,Dl.dOr,Dl.dNot,Dl.dIf,Dl.dNever,Dl.rII,Dl.rIC,Dl.rEqD,Dl.rNeD,Dl.rIsN,Dl.rNotN,Dl.gdTup2,Dl.dExt,Dl.cSorted,Dl.cMinL,Dl.dLstRng,Dl.dYes,Dl.dropOw,Dl.gdName,Dl.startD,List.map_cons,List.map_nil,List.length_cons,List.length_nil,List.cons_append,List.nil_append,List.replicate_zero,List.replicate_succ,Nat.reduceAdd,Nat.reduceSub,List.getElem?_cons_zero,List.getElem?_cons_succ,List.set_cons_zero,List.set_cons_succ,Bool.not_true,Bool.not_false,if_true,if_false,reduceCtorEq,Bool.false_eq_true,Dl.rF,Dl.cLenF,Dl.diSeqF,Dl.dTruF,Option.some.injEq,Dl.eqD_int_int,Dl.eqD_str_str,Dl.eqD_tup_tup,Dl.eqD_lst_lst,Dl.eqDL_nil_nil,Dl.eqDL_cons_nil,Dl.eqDL_cons_cons,Dl.isNonD_non,Dl.isNonD_int,Dl.addF_int,Dl.addF_lst,Dl.ixF_tup,Dl.ixF_lst,Dl.seqF_lst,Dl.truF_bl,Dl.truF_lst,exists_eq_left',Dl.atI_0,Dl.atI_1,Dl.atI_2,Dl.atI_3,decide_eq_true_eq,true_and,Bool.true_and,Dl.okEq_int_int,beq_iff_eq,beq_self_eq_true,beq_eq_false_iff_ne,Bool.not_eq_true',ne_eq,ite_not,Dl.sz0,Dl.sz1,Dl.sz2,Dl.sz4]
  refine ⟨ok_lstI (l:=[]) (m:=[]),?_⟩
  simp only [t_law_22,Hs.m_put,nd1,Dl.dSetD,Dl.xDGet,Dl.dDPut,Dl.dDPop,Dl.dDIn,Dl.dctOf,Dl.dctR,Dl.fzOf,Dl.keyD,Dl.diItems,Dl.dFz,Dl.pinO,Dl.pinS,Dl.dMeth,Dl.dMake,Dl.aNil,Dl.aCons,Dl.atsOf,Dl.inA,Dl.dX,Dl.xVar,Dl.xFld,Dl.dSetF,Dl.fldOf,Dl.putAt,Dl.fewOf,Dl.setO,Dl.upA_a,Dl.startO,Dl.entO,Dl.slA,Dl.outO,Dl.outA_a,Dl.outA_b,List.head?_cons,decide_true,Bool.and_self,and_self,Dl.dSeq,Dl.dNext,Dl.dIfS,Dl.dB,Dl.dOp,Dl.dVar,Dl.dC,Dl.dLst,Dl.dTup,Dl.dNil,Dl.dCons,Dl.dRet,Dl.dCall,Dl.cMax,Dl.cMin,Dl.dDrop,Dl.dSet,Dl.dOwn,Dl.dFrz,Dl.dAnd,Dl.dOr,Dl.dNot,Dl.dIf,Dl.dNever,Dl.rII,Dl.rIC,Dl.rEqD,Dl.rNeD,Dl.rIsN,Dl.rNotN,Dl.gdTup2,Dl.dExt,Dl.cSorted,Dl.cMinL,Dl.dLstRng,Dl.dYes,Dl.dropOw,Dl.gdName,Dl.startD,List.map_cons,List.map_nil,List.length_cons,List.length_nil,List.cons_append,List.nil_append,List.replicate_zero,List.replicate_succ,Nat.reduceAdd,Nat.reduceSub,List.getElem?_cons_zero,List.getElem?_cons_succ,List.set_cons_zero,List.set_cons_succ,Bool.not_true,Bool.not_false,if_true,if_false,reduceCtorEq,Bool.false_eq_true,Dl.rF,Dl.cLenF,Dl.diSeqF,Dl.dTruF,Option.some.injEq,Dl.eqD_int_int,Dl.eqD_str_str,Dl.eqD_tup_tup,Dl.eqD_lst_lst,Dl.eqDL_nil_nil,Dl.eqDL_cons_nil,Dl.eqDL_cons_cons,Dl.isNonD_non,Dl.isNonD_int,Dl.addF_int,Dl.addF_lst,Dl.ixF_tup,Dl.ixF_lst,Dl.seqF_lst,Dl.truF_bl,Dl.truF_lst,exists_eq_left',Dl.atI_0,Dl.atI_1,Dl.atI_2,Dl.atI_3,decide_eq_true_eq,true_and,Bool.true_and,Dl.okEq_int_int,beq_iff_eq,beq_self_eq_true,beq_eq_false_iff_ne,Bool.not_eq_true',ne_eq,ite_not,Dl.sz0,Dl.sz1,Dl.sz2,Dl.sz4]
  refine use_put (c1:=.ev (en + 99) 5 (some 2)) (by simp) ?_
  rw [pF]
  simp only [t_law_23,Hs.m_put,Hs.m_clock,nd1,Dl.dSetD,Dl.xDGet,Dl.dDPut,Dl.dDPop,Dl.dDIn,Dl.dctOf,Dl.dctR,Dl.fzOf,Dl.keyD,Dl.diItems,Dl.dFz,Dl.pinO,Dl.pinS,Dl.dMeth,Dl.dMake,Dl.aNil,Dl.aCons,Dl.atsOf,Dl.inA,Dl.dX,Dl.xVar,Dl.xFld,Dl.dSetF,Dl.fldOf,Dl.putAt,Dl.fewOf,Dl.setO,Dl.upA_a,Dl.startO,Dl.entO,Dl.slA,Dl.outO,Dl.outA_a,Dl.outA_b,List.head?_cons,decide_true,Bool.and_self,and_self,Dl.dSeq,Dl.dNext,Dl.dIfS,Dl.dB,Dl.dOp,Dl.dVar,Dl.dC,Dl.dLst,Dl.dTup,Dl.dNil,Dl.dCons,Dl.dRet,Dl.dCall,Dl.cMax,Dl.cMin,Dl.dDrop,Dl.dSet,Dl.dOwn,Dl.dFrz,Dl.dAnd,Dl.dOr,Dl.dNot,Dl.dIf,Dl.dNever,Dl.rII,Dl.rIC,Dl.rEqD,Dl.rNeD,Dl.rIsN,Dl.rNotN,Dl.gdTup2,Dl.dExt,Dl.cSorted,Dl.cMinL,Dl.dLstRng,Dl.dYes,Dl.dropOw,Dl.gdName,Dl.startD,List.map_cons,List.map_nil,List.length_cons,List.length_nil,List.cons_append,List.nil_append,List.replicate_zero,List.replicate_succ,Nat.reduceAdd,Nat.reduceSub,List.getElem?_cons_zero,List.getElem?_cons_succ,List.set_cons_zero,List.set_cons_succ,Bool.not_true,Bool.not_false,if_true,if_false,reduceCtorEq,Bool.false_eq_true,Dl.rF,Dl.cLenF,Dl.diSeqF,Dl.dTruF,Option.some.injEq,Dl.eqD_int_int,Dl.eqD_str_str,Dl.eqD_tup_tup,Dl.eqD_lst_lst,Dl.eqDL_nil_nil,Dl.eqDL_cons_nil,Dl.eqDL_cons_cons,Dl.isNonD_non,Dl.isNonD_int,Dl.addF_int,Dl.addF_lst,Dl.ixF_tup,Dl.ixF_lst,Dl.seqF_lst,Dl.truF_bl,Dl.truF_lst,exists_eq_left',Dl.atI_0,Dl.atI_1,Dl.atI_2,Dl.atI_3,decide_eq_true_eq,true_and,Bool.true_and,Dl.okEq_int_int,beq_iff_eq,beq_self_eq_true,beq_eq_false_iff_ne,Bool.not_eq_true',ne_eq,ite_not,Dl.sz0,Dl.sz1,Dl.sz2,Dl.sz4]
  refine use_clock vTF ?_
  simp only [Dl.dSeq,Dl.dSetD,Dl.xDGet,Dl.dDPut,Dl.dDPop,Dl.dDIn,Dl.dctOf,Dl.dctR,Dl.fzOf,Dl.keyD,Dl.diItems,Dl.dFz,Dl.pinO,Dl.pinS,Dl.dMeth,Dl.dMake,Dl.aNil,Dl.aCons,Dl.atsOf,Dl.inA,Dl.dX,Dl.xVar,Dl.xFld,Dl.dSetF,Dl.fldOf,Dl.putAt,Dl.fewOf,Dl.setO,Dl.upA_a,Dl.startO,Dl.entO,Dl.slA,Dl.outO,Dl.outA_a,Dl.outA_b,List.head?_cons,decide_true,Bool.and_self,and_self,Dl.dSeq,Dl.dNext,Dl.dIfS,Dl.dB,Dl.dOp,Dl.dVar,Dl.dC,Dl.dLst,Dl.dTup,Dl.dNil,Dl.dCons,Dl.dRet,Dl.dCall,Dl.cMax,Dl.cMin,Dl.dDrop,Dl.dSet,Dl.dOwn,Dl.dFrz,Dl.dAnd,Dl.dOr,Dl.dNot,Dl.dIf,Dl.dNever,Dl.rII,Dl.rIC,Dl.rEqD,Dl.rNeD,Dl.rIsN,Dl.rNotN,Dl.gdTup2,Dl.dExt,Dl.cSorted,Dl.cMinL,Dl.dLstRng,Dl.dYes,Dl.dropOw,Dl.gdName,Dl.startD,List.map_cons,List.map_nil,List.length_cons,List.length_nil,List.cons_append,List.nil_append,List.replicate_zero,List.replicate_succ,Nat.reduceAdd,Nat.reduceSub,List.getElem?_cons_zero,List.getElem?_cons_succ,List.set_cons_zero,List.set_cons_succ,Bool.not_true,Bool.not_false,if_true,if_false,reduceCtorEq,Bool.false_eq_true,Dl.rF,Dl.cLenF,Dl.diSeqF,Dl.dTruF,Option.some.injEq,Dl.eqD_int_int,Dl.eqD_str_str,Dl.eqD_tup_tup,Dl.eqD_lst_lst,Dl.eqDL_nil_nil,Dl.eqDL_cons_nil,Dl.eqDL_cons_cons,Dl.isNonD_non,Dl.isNonD_int,Dl.addF_int,Dl.addF_lst,Dl.ixF_tup,Dl.ixF_lst,Dl.seqF_lst,Dl.truF_bl,Dl.truF_lst,exists_eq_left',Dl.atI_0,Dl.atI_1,Dl.atI_2,Dl.atI_3,decide_eq_true_eq,true_and,Bool.true_and,Dl.okEq_int_int,beq_iff_eq,beq_self_eq_true,beq_eq_false_iff_ne,Bool.not_eq_true',ne_eq,ite_not,Dl.sz0,Dl.sz1,Dl.sz2,Dl.sz4]
  refine ⟨size,size,none,en + 99,rfl,okAt_none,?_⟩
  simp only [Dl.dSeq,Dl.dSetD,Dl.xDGet,Dl.dDPut,Dl.dDPop,Dl.dDIn,Dl.dctOf,Dl.dctR,Dl.fzOf,Dl.keyD,Dl.diItems,Dl.dFz,Dl.pinO,Dl.pinS,Dl.dMeth,Dl.dMake,Dl.aNil,Dl.aCons,Dl.atsOf,Dl.inA,Dl.dX,Dl.xVar,Dl.xFld,Dl.dSetF,Dl.fldOf,Dl.putAt,Dl.fewOf,Dl.setO,Dl.upA_a,Dl.startO,Dl.entO,Dl.slA,Dl.outO,Dl.outA_a,Dl.outA_b,List.head?_cons,decide_true,Bool.and_self,and_self,Dl.dSeq,Dl.dNext,Dl.dIfS,Dl.dB,Dl.dOp,Dl.dVar,Dl.dC,Dl.dLst,Dl.dTup,Dl.dNil,Dl.dCons,Dl.dRet,Dl.dCall,Dl.cMax,Dl.cMin,Dl.dDrop,Dl.dSet,Dl.dOwn,Dl.dFrz,Dl.dAnd,Dl.dOr,Dl.dNot,Dl.dIf,Dl.dNever,Dl.rII,Dl.rIC,Dl.rEqD,Dl.rNeD,Dl.rIsN,Dl.rNotN,Dl.gdTup2,Dl.dExt,Dl.cSorted,Dl.cMinL,Dl.dLstRng,Dl.dYes,Dl.dropOw,Dl.gdName,Dl.startD,List.map_cons,List.map_nil,List.length_cons,List.length_nil,List.cons_append,List.nil_append,List.replicate_zero,List.replicate_succ,Nat.reduceAdd,Nat.reduceSub,List.getElem?_cons_zero,List.getElem?_cons_succ,List.set_cons_zero,List.set_cons_succ,Bool.not_true,Bool.not_false,if_true,if_false,reduceCtorEq,Bool.false_eq_true,Dl.rF,Dl.cLenF,Dl.diSeqF,Dl.dTruF,Option.some.injEq,Dl.eqD_int_int,Dl.eqD_str_str,Dl.eqD_tup_tup,Dl.eqD_lst_lst,Dl.eqDL_nil_nil,Dl.eqDL_cons_nil,Dl.eqDL_cons_cons,Dl.isNonD_non,Dl.isNonD_int,Dl.addF_int,Dl.addF_lst,Dl.ixF_tup,Dl.ixF_lst,Dl.seqF_lst,Dl.truF_bl,Dl.truF_lst,exists_eq_left',Dl.atI_0,Dl.atI_1,Dl.atI_2,Dl.atI_3,decide_eq_true_eq,true_and,Bool.true_and,Dl.okEq_int_int,beq_iff_eq,beq_self_eq_true,beq_eq_false_iff_ne,Bool.not_eq_true',ne_eq,ite_not,Dl.sz0,Dl.sz1,Dl.sz2,Dl.sz4]
  refine use_put (c1:=.tm size size (some (en + 99))) (by simp) ?_
  rw [pTF]
  simp only [t_law_24,Dl.dSetD,Dl.xDGet,Dl.dDPut,Dl.dDPop,Dl.dDIn,Dl.dctOf,Dl.dctR,Dl.fzOf,Dl.keyD,Dl.diItems,Dl.dFz,Dl.pinO,Dl.pinS,Dl.dMeth,Dl.dMake,Dl.aNil,Dl.aCons,Dl.atsOf,Dl.inA,Dl.dX,Dl.xVar,Dl.xFld,Dl.dSetF,Dl.fldOf,Dl.putAt,Dl.fewOf,Dl.setO,Dl.upA_a,Dl.startO,Dl.entO,Dl.slA,Dl.outO,Dl.outA_a,Dl.outA_b,List.head?_cons,decide_true,Bool.and_self,and_self,Dl.dSeq,Dl.dNext,Dl.dIfS,Dl.dB,Dl.dOp,Dl.dVar,Dl.dC,Dl.dLst,Dl.dTup,Dl.dNil,Dl.dCons,Dl.dRet,Dl.dCall,Dl.cMax,Dl.cMin,Dl.dDrop,Dl.dSet,Dl.dOwn,Dl.dFrz,Dl.dAnd,Dl.dOr,Dl.dNot,Dl.dIf,Dl.dNever,Dl.rII,Dl.rIC,Dl.rEqD,Dl.rNeD,Dl.rIsN,Dl.rNotN,Dl.gdTup2,Dl.dExt,Dl.cSorted,Dl.cMinL,Dl.dLstRng,Dl.dYes,Dl.dropOw,Dl.gdName,Dl.startD,List.map_cons,List.map_nil,List.length_cons,List.length_nil,List.cons_append,List.nil_append,List.replicate_zero,List.replicate_succ,Nat.reduceAdd,Nat.reduceSub,List.getElem?_cons_zero,List.getElem?_cons_succ,List.set_cons_zero,List.set_cons_succ,Bool.not_true,Bool.not_false,if_true,if_false,reduceCtorEq,Bool.false_eq_true,Dl.rF,Dl.cLenF,Dl.diSeqF,Dl.dTruF,Option.some.injEq,Dl.eqD_int_int,Dl.eqD_str_str,Dl.eqD_tup_tup,Dl.eqD_lst_lst,Dl.eqDL_nil_nil,Dl.eqDL_cons_nil,Dl.eqDL_cons_cons,Dl.isNonD_non,Dl.isNonD_int,Dl.addF_int,Dl.addF_lst,Dl.ixF_tup,Dl.ixF_lst,Dl.seqF_lst,Dl.truF_bl,Dl.truF_lst,exists_eq_left',Dl.atI_0,Dl.atI_1,Dl.atI_2,Dl.atI_3,decide_eq_true_eq,true_and,Bool.true_and,Dl.okEq_int_int,beq_iff_eq,beq_self_eq_true,beq_eq_false_iff_ne,Bool.not_eq_true',ne_eq,ite_not,Dl.sz0,Dl.sz1,Dl.sz2,Dl.sz4]
  refine ⟨[rowK (en + 104,("f":Str)),rowK (en + 99 + size,("t":Str))],[false,true],rfl,fun k hk=>?_,by decide,by simp,fun ms hpm hsm=>?_⟩
  · have:k = rowK (en + 104,("f":Str))∨k = rowK (en + 99 + size,("t":Str)):=by simpa using hk
    rcases this with rfl | rfl <;> rfl
  obtain ⟨due,rfl,hpd⟩:=rows_of (rs:=[(en + 104,("f" : Str)),(en + 99 + size,("t" : Str))]) hpm
  have hsd:Srt due:=List.pairwise_map.mp hsm
  rw [← rowK_D]
  simp only [t_law_25,Hs.m_tick,nd1,Dl.dSetD,Dl.xDGet,Dl.dDPut,Dl.dDPop,Dl.dDIn,Dl.dctOf,Dl.dctR,Dl.fzOf,Dl.keyD,Dl.diItems,Dl.dFz,Dl.pinO,Dl.pinS,Dl.dMeth,Dl.dMake,Dl.aNil,Dl.aCons,Dl.atsOf,Dl.inA,Dl.dX,Dl.xVar,Dl.xFld,Dl.dSetF,Dl.fldOf,Dl.putAt,Dl.fewOf,Dl.setO,Dl.upA_a,Dl.startO,Dl.entO,Dl.slA,Dl.outO,Dl.outA_a,Dl.outA_b,List.head?_cons,decide_true,Bool.and_self,and_self,Dl.dSeq,Dl.dNext,Dl.dIfS,Dl.dB,Dl.dOp,Dl.dVar,Dl.dC,Dl.dLst,Dl.dTup,Dl.dNil,Dl.dCons,Dl.dRet,Dl.dCall,Dl.cMax,Dl.cMin,Dl.dDrop,Dl.dSet,Dl.dOwn,Dl.dFrz,Dl.dAnd,Dl.dOr,Dl.dNot,Dl.dIf,Dl.dNever,Dl.rII,Dl.rIC,Dl.rEqD,Dl.rNeD,Dl.rIsN,Dl.rNotN,Dl.gdTup2,Dl.dExt,Dl.cSorted,Dl.cMinL,Dl.dLstRng,Dl.dYes,Dl.dropOw,Dl.gdName,Dl.startD,List.map_cons,List.map_nil,List.length_cons,List.length_nil,List.cons_append,List.nil_append,List.replicate_zero,List.replicate_succ,Nat.reduceAdd,Nat.reduceSub,List.getElem?_cons_zero,List.getElem?_cons_succ,List.set_cons_zero,List.set_cons_succ,Bool.not_true,Bool.not_false,if_true,if_false,reduceCtorEq,Bool.false_eq_true,Dl.rF,Dl.cLenF,Dl.diSeqF,Dl.dTruF,Option.some.injEq,Dl.eqD_int_int,Dl.eqD_str_str,Dl.eqD_tup_tup,Dl.eqD_lst_lst,Dl.eqDL_nil_nil,Dl.eqDL_cons_nil,Dl.eqDL_cons_cons,Dl.isNonD_non,Dl.isNonD_int,Dl.addF_int,Dl.addF_lst,Dl.ixF_tup,Dl.ixF_lst,Dl.seqF_lst,Dl.truF_bl,Dl.truF_lst,exists_eq_left',Dl.atI_0,Dl.atI_1,Dl.atI_2,Dl.atI_3,decide_eq_true_eq,true_and,Bool.true_and,Dl.okEq_int_int,beq_iff_eq,beq_self_eq_true,beq_eq_false_iff_ne,Bool.not_eq_true',ne_eq,ite_not,Dl.sz0,Dl.sz1,Dl.sz2,Dl.sz4]
  have okT5:Ok (.tm size size (some (en + 99))):=⟨by omega,by omega,fun s e=>by cases e; omega⟩
  have okF:Ok (.ev (en + 99) 5 (some 2)):=⟨by omega,by omega,by omega,by omega,fun k e=>by cases e; omega⟩
  have hrF:RingsOf (.ev (en + 99) 5 (some 2)) (en + 99) (en + 999) [en + 104]:=by have:=ev_two (b:=en + 99) (e:=en + 999) (by omega); rw [show en + 99 + 5 = en + 104 by omega] at this; exact this
  refine use_tick2 (by omega) (by omega) okT5 okF (tm_one (by omega) (by omega)) hrF (by simp) fun rows9 hp9 hs9=>?_
  have pp:rows9.Perm due:=by
    refine hp9.trans (List.Perm.trans ?_ hpd.symm)
    exact List.Perm.swap _ _ _
  have e9:=srt_unique pp hs9 hsd
  subst e9
  have okd:∀ r ∈ rows9,PyData.strOk r.2 = true:=fun r hr=>ok_ft r (hpd.mem_iff.mp hr)
  simp only [Dl.dSeq,Dl.dSetD,Dl.xDGet,Dl.dDPut,Dl.dDPop,Dl.dDIn,Dl.dctOf,Dl.dctR,Dl.fzOf,Dl.keyD,Dl.diItems,Dl.dFz,Dl.pinO,Dl.pinS,Dl.dMeth,Dl.dMake,Dl.aNil,Dl.aCons,Dl.atsOf,Dl.inA,Dl.dX,Dl.xVar,Dl.xFld,Dl.dSetF,Dl.fldOf,Dl.putAt,Dl.fewOf,Dl.setO,Dl.upA_a,Dl.startO,Dl.entO,Dl.slA,Dl.outO,Dl.outA_a,Dl.outA_b,List.head?_cons,decide_true,Bool.and_self,and_self,Dl.dSeq,Dl.dNext,Dl.dIfS,Dl.dB,Dl.dOp,Dl.dVar,Dl.dC,Dl.dLst,Dl.dTup,Dl.dNil,Dl.dCons,Dl.dRet,Dl.dCall,Dl.cMax,Dl.cMin,Dl.dDrop,Dl.dSet,Dl.dOwn,Dl.dFrz,Dl.dAnd,Dl.dOr,Dl.dNot,Dl.dIf,Dl.dNever,Dl.rII,Dl.rIC,Dl.rEqD,Dl.rNeD,Dl.rIsN,Dl.rNotN,Dl.gdTup2,Dl.dExt,Dl.cSorted,Dl.cMinL,Dl.dLstRng,Dl.dYes,Dl.dropOw,Dl.gdName,Dl.startD,List.map_cons,List.map_nil,List.length_cons,List.length_nil,List.cons_append,List.nil_append,List.replicate_zero,List.replicate_succ,Nat.reduceAdd,Nat.reduceSub,List.getElem?_cons_zero,List.getElem?_cons_succ,List.set_cons_zero,List.set_cons_succ,Bool.not_true,Bool.not_false,if_true,if_false,reduceCtorEq,Bool.false_eq_true,Dl.rF,Dl.cLenF,Dl.diSeqF,Dl.dTruF,Option.some.injEq,Dl.eqD_int_int,Dl.eqD_str_str,Dl.eqD_tup_tup,Dl.eqD_lst_lst,Dl.eqDL_nil_nil,Dl.eqDL_cons_nil,Dl.eqDL_cons_cons,Dl.isNonD_non,Dl.isNonD_int,Dl.addF_int,Dl.addF_lst,Dl.ixF_tup,Dl.ixF_lst,Dl.seqF_lst,Dl.truF_bl,Dl.truF_lst,exists_eq_left',Dl.atI_0,Dl.atI_1,Dl.atI_2,Dl.atI_3,decide_eq_true_eq,true_and,Bool.true_and,Dl.okEq_int_int,beq_iff_eq,beq_self_eq_true,beq_eq_false_iff_ne,Bool.not_eq_true',ne_eq,ite_not,Dl.sz0,Dl.sz1,Dl.sz2,Dl.sz4]
  refine ⟨okRows okd okd,?_⟩
  rw [eqDL_rows]
  exact q
end Law
namespace Law
open PySem L2 Dl
noncomputable def top (i:Nat):Stmt:=PySem.Challenge.pw_latebells_k52_whole_set_anew.main.body.getD i (.Pass ⟨0,0,0,0⟩)
noncomputable abbrev s_law_cell:Stmt:=top 38
noncomputable abbrev s_law_drawn:Stmt:=top 39
noncomputable abbrev s_House_init:Stmt:=inClass (top 36) 0
noncomputable abbrev s_House_refuse_asleep:Stmt:=inClass (top 36) 10
noncomputable abbrev s_House_put:Stmt:=inClass (top 36) 1
noncomputable abbrev s_refuse_early:Stmt:=top 9
noncomputable abbrev s_begun:Stmt:=top 15
noncomputable abbrev s_timer:Stmt:=top 13
noncomputable abbrev s_next_of_timer:Stmt:=top 21
noncomputable abbrev s_rung_of_every:Stmt:=top 32
noncomputable abbrev s_next_of_every:Stmt:=top 22
noncomputable abbrev s_next_ring:Stmt:=top 20
noncomputable abbrev s_rung_by:Stmt:=top 31
noncomputable abbrev s_last_ring:Stmt:=top 26
noncomputable abbrev s_rings:Stmt:=top 29
noncomputable abbrev s_House_tick:Stmt:=inClass (top 36) 5
noncomputable abbrev s_now_if_running:Stmt:=top 19
noncomputable abbrev s_anew:Stmt:=top 18
noncomputable abbrev s_House_refuse_unknown:Stmt:=inClass (top 36) 11
noncomputable abbrev s_House_clock:Stmt:=inClass (top 36) 3
noncomputable abbrev s_left_at:Stmt:=top 14
noncomputable abbrev s_longer:Stmt:=top 17
noncomputable abbrev s_stopped:Stmt:=top 16
noncomputable abbrev s_House_drop:Stmt:=inClass (top 36) 2
noncomputable abbrev s_House_next_due:Stmt:=inClass (top 36) 9
noncomputable abbrev s_law:Stmt:=top 40
theorem sc_law_cell:FnScope ["_law_script","_law_k"] ["_law_script","_law_k"] (defScope s_law_cell):=⟨rfl,rfl,rfl,by decide +kernel,rfl,by decide +kernel,by decide +kernel⟩
theorem sc_law_drawn:FnScope ["_law_script","_law_k","_law_many","_law_cell_here"] ["_law_script","_law_k","_law_many"] (defScope s_law_drawn):=⟨rfl,rfl,rfl,by decide +kernel,rfl,by decide +kernel,by decide +kernel⟩
theorem sc_House_init:FnScope ["self","now"] ["self","now"] (defScope s_House_init):=⟨rfl,rfl,rfl,by decide +kernel,rfl,by decide +kernel,by decide +kernel⟩
theorem sc_House_refuse_asleep:FnScope ["self"] ["self"] (defScope s_House_refuse_asleep):=⟨rfl,rfl,rfl,by decide +kernel,rfl,by decide +kernel,by decide +kernel⟩
theorem sc_House_put:FnScope ["self","name","clock"] ["self","name","clock"] (defScope s_House_put):=⟨rfl,rfl,rfl,by decide +kernel,rfl,by decide +kernel,by decide +kernel⟩
theorem sc_refuse_early:FnScope ["earlier","now"] ["earlier","now"] (defScope s_refuse_early):=⟨rfl,rfl,rfl,by decide +kernel,rfl,by decide +kernel,by decide +kernel⟩
theorem sc_begun:FnScope ["clock","now"] ["clock","now"] (defScope s_begun):=⟨rfl,rfl,rfl,by decide +kernel,rfl,by decide +kernel,by decide +kernel⟩
theorem sc_timer:FnScope ["size"] ["size"] (defScope s_timer):=⟨rfl,rfl,rfl,by decide +kernel,rfl,by decide +kernel,by decide +kernel⟩
theorem sc_next_of_timer:FnScope ["clock","now"] ["clock","now"] (defScope s_next_of_timer):=⟨rfl,rfl,rfl,by decide +kernel,rfl,by decide +kernel,by decide +kernel⟩
theorem sc_rung_of_every:FnScope ["clock","moment","rung"] ["clock","moment"] (defScope s_rung_of_every):=⟨rfl,rfl,rfl,by decide +kernel,rfl,by decide +kernel,by decide +kernel⟩
theorem sc_next_of_every:FnScope ["clock","now","rung"] ["clock","now"] (defScope s_next_of_every):=⟨rfl,rfl,rfl,by decide +kernel,rfl,by decide +kernel,by decide +kernel⟩
theorem sc_next_ring:FnScope ["clock","now"] ["clock","now"] (defScope s_next_ring):=⟨rfl,rfl,rfl,by decide +kernel,rfl,by decide +kernel,by decide +kernel⟩
theorem sc_rung_by:FnScope ["clock","moment"] ["clock","moment"] (defScope s_rung_by):=⟨rfl,rfl,rfl,by decide +kernel,rfl,by decide +kernel,by decide +kernel⟩
theorem sc_last_ring:FnScope ["clock","now","rung"] ["clock","now"] (defScope s_last_ring):=⟨rfl,rfl,rfl,by decide +kernel,rfl,by decide +kernel,by decide +kernel⟩
theorem sc_rings:FnScope ["clock","start","end","first"] ["clock","start","end"] (defScope s_rings):=⟨rfl,rfl,rfl,by decide +kernel,rfl,by decide +kernel,by decide +kernel⟩
theorem sc_House_tick:FnScope ["self","now","told","name","clock"] ["self","now"] (defScope s_House_tick):=⟨rfl,rfl,rfl,by decide +kernel,rfl,by decide +kernel,by decide +kernel⟩
theorem sc_now_if_running:FnScope ["clock","now"] ["clock","now"] (defScope s_now_if_running):=⟨rfl,rfl,rfl,by decide +kernel,rfl,by decide +kernel,by decide +kernel⟩
theorem sc_anew:FnScope ["clock","now"] ["clock","now"] (defScope s_anew):=⟨rfl,rfl,rfl,by decide +kernel,rfl,by decide +kernel,by decide +kernel⟩
theorem sc_House_refuse_unknown:FnScope ["self","name"] ["self","name"] (defScope s_House_refuse_unknown):=⟨rfl,rfl,rfl,by decide +kernel,rfl,by decide +kernel,by decide +kernel⟩
theorem sc_House_clock:FnScope ["self","name"] ["self","name"] (defScope s_House_clock):=⟨rfl,rfl,rfl,by decide +kernel,rfl,by decide +kernel,by decide +kernel⟩
theorem sc_left_at:FnScope ["clock","now"] ["clock","now"] (defScope s_left_at):=⟨rfl,rfl,rfl,by decide +kernel,rfl,by decide +kernel,by decide +kernel⟩
theorem sc_longer:FnScope ["clock","by","now"] ["clock","by","now"] (defScope s_longer):=⟨rfl,rfl,rfl,by decide +kernel,rfl,by decide +kernel,by decide +kernel⟩
theorem sc_stopped:FnScope ["clock","now"] ["clock","now"] (defScope s_stopped):=⟨rfl,rfl,rfl,by decide +kernel,rfl,by decide +kernel,by decide +kernel⟩
theorem sc_House_drop:FnScope ["self","name"] ["self","name"] (defScope s_House_drop):=⟨rfl,rfl,rfl,by decide +kernel,rfl,by decide +kernel,by decide +kernel⟩
theorem sc_House_next_due:FnScope ["self","rows","dues","first"] ["self"] (defScope s_House_next_due):=⟨rfl,rfl,rfl,by decide +kernel,rfl,by decide +kernel,by decide +kernel⟩
theorem sc_law:FnScope ["_law_script","_law_size","_law_by","_law_every","_law_house","_law_now","_law_rows","_law_middle","_law_end","_law_due"] ["_law_script"] (defScope s_law):=⟨rfl,rfl,rfl,by decide +kernel,rfl,by decide +kernel,by decide +kernel⟩
theorem us1 {P:List Value→Prop} (h:∀ a0,P [a0]):∀ us:List Value,us.length = 1→P us
  | [a0],_=>h a0
theorem us2 {P:List Value→Prop} (h:∀ a0 a1,P [a0,a1]):∀ us:List Value,us.length = 2→P us
  | [a0,a1],_=>h a0 a1
theorem us3 {P:List Value→Prop} (h:∀ a0 a1 a2,P [a0,a1,a2]):∀ us:List Value,us.length = 3→P us
  | [a0,a1,a2],_=>h a0 a1 a2
set_option genInjectivity false in
set_option genSizeOf false in
structure Ad where
  a_law_cell:Addr
  g_law_cell:FuncData
  a_law_drawn:Addr
  g_law_drawn:FuncData
  a_House_init:Addr
  g_House_init:FuncData
  a_House_refuse_asleep:Addr
  g_House_refuse_asleep:FuncData
  a_House_put:Addr
  g_House_put:FuncData
  a_refuse_early:Addr
  g_refuse_early:FuncData
  a_begun:Addr
  g_begun:FuncData
  a_timer:Addr
  g_timer:FuncData
  a_next_of_timer:Addr
  g_next_of_timer:FuncData
  a_rung_of_every:Addr
  g_rung_of_every:FuncData
  a_next_of_every:Addr
  g_next_of_every:FuncData
  a_next_ring:Addr
  g_next_ring:FuncData
  a_rung_by:Addr
  g_rung_by:FuncData
  a_last_ring:Addr
  g_last_ring:FuncData
  a_rings:Addr
  g_rings:FuncData
  a_House_tick:Addr
  g_House_tick:FuncData
  a_now_if_running:Addr
  g_now_if_running:FuncData
  a_anew:Addr
  g_anew:FuncData
  a_House_refuse_unknown:Addr
  g_House_refuse_unknown:FuncData
  a_House_clock:Addr
  g_House_clock:FuncData
  a_left_at:Addr
  g_left_at:FuncData
  a_longer:Addr
  g_longer:FuncData
  a_stopped:Addr
  g_stopped:FuncData
  a_House_drop:Addr
  g_House_drop:FuncData
  a_House_next_due:Addr
  g_House_next_due:FuncData
  a_law:Addr
  g_law:FuncData
  c_House:Addr
structure Tx (K:PySem.W.Frag) (mg:Str→Option Value) (t:Ad):Prop where
  u_law_cell:Fun K "_law_cell" "_law_cell" s_law_cell t.a_law_cell t.g_law_cell
  d_law_cell:Binds K t.g_law_cell ["_law_script","_law_k"] []
  m_law_cell:mg "_law_cell" = some (.ref t.a_law_cell)
  u_law_drawn:Fun K "_law_drawn" "_law_drawn" s_law_drawn t.a_law_drawn t.g_law_drawn
  d_law_drawn:Binds K t.g_law_drawn ["_law_script","_law_k","_law_many"] []
  m_law_drawn:mg "_law_drawn" = some (.ref t.a_law_drawn)
  u_House_init:Fun K "__init__" "House.__init__" s_House_init t.a_House_init t.g_House_init
  d_House_init:Binds K t.g_House_init ["self","now"] []
  h_House_init:Meth K t.c_House "__init__" t.a_House_init
  u_House_refuse_asleep:Fun K "refuse_asleep" "House.refuse_asleep" s_House_refuse_asleep t.a_House_refuse_asleep t.g_House_refuse_asleep
  d_House_refuse_asleep:Binds K t.g_House_refuse_asleep ["self"] []
  h_House_refuse_asleep:Meth K t.c_House "refuse_asleep" t.a_House_refuse_asleep
  u_House_put:Fun K "put" "House.put" s_House_put t.a_House_put t.g_House_put
  d_House_put:Binds K t.g_House_put ["self","name","clock"] []
  h_House_put:Meth K t.c_House "put" t.a_House_put
  u_refuse_early:Fun K "refuse_early" "refuse_early" s_refuse_early t.a_refuse_early t.g_refuse_early
  d_refuse_early:Binds K t.g_refuse_early ["earlier","now"] []
  m_refuse_early:mg "refuse_early" = some (.ref t.a_refuse_early)
  u_begun:Fun K "begun" "begun" s_begun t.a_begun t.g_begun
  d_begun:Binds K t.g_begun ["clock","now"] []
  m_begun:mg "begun" = some (.ref t.a_begun)
  u_timer:Fun K "timer" "timer" s_timer t.a_timer t.g_timer
  d_timer:Binds K t.g_timer ["size"] []
  m_timer:mg "timer" = some (.ref t.a_timer)
  u_next_of_timer:Fun K "next_of_timer" "next_of_timer" s_next_of_timer t.a_next_of_timer t.g_next_of_timer
  d_next_of_timer:Binds K t.g_next_of_timer ["clock","now"] []
  m_next_of_timer:mg "next_of_timer" = some (.ref t.a_next_of_timer)
  u_rung_of_every:Fun K "rung_of_every" "rung_of_every" s_rung_of_every t.a_rung_of_every t.g_rung_of_every
  d_rung_of_every:Binds K t.g_rung_of_every ["clock","moment"] []
  m_rung_of_every:mg "rung_of_every" = some (.ref t.a_rung_of_every)
  u_next_of_every:Fun K "next_of_every" "next_of_every" s_next_of_every t.a_next_of_every t.g_next_of_every
  d_next_of_every:Binds K t.g_next_of_every ["clock","now"] []
  m_next_of_every:mg "next_of_every" = some (.ref t.a_next_of_every)
  u_next_ring:Fun K "next_ring" "next_ring" s_next_ring t.a_next_ring t.g_next_ring
  d_next_ring:Binds K t.g_next_ring ["clock","now"] []
  m_next_ring:mg "next_ring" = some (.ref t.a_next_ring)
  u_rung_by:Fun K "rung_by" "rung_by" s_rung_by t.a_rung_by t.g_rung_by
  d_rung_by:Binds K t.g_rung_by ["clock","moment"] []
  m_rung_by:mg "rung_by" = some (.ref t.a_rung_by)
  u_last_ring:Fun K "last_ring" "last_ring" s_last_ring t.a_last_ring t.g_last_ring
  d_last_ring:Binds K t.g_last_ring ["clock","now"] []
  m_last_ring:mg "last_ring" = some (.ref t.a_last_ring)
  u_rings:Fun K "rings" "rings" s_rings t.a_rings t.g_rings
  d_rings:Binds K t.g_rings ["clock","start","end"] []
  m_rings:mg "rings" = some (.ref t.a_rings)
  u_House_tick:Fun K "tick" "House.tick" s_House_tick t.a_House_tick t.g_House_tick
  d_House_tick:Binds K t.g_House_tick ["self","now"] []
  h_House_tick:Meth K t.c_House "tick" t.a_House_tick
  u_now_if_running:Fun K "now_if_running" "now_if_running" s_now_if_running t.a_now_if_running t.g_now_if_running
  d_now_if_running:Binds K t.g_now_if_running ["clock","now"] []
  m_now_if_running:mg "now_if_running" = some (.ref t.a_now_if_running)
  u_anew:Fun K "anew" "anew" s_anew t.a_anew t.g_anew
  d_anew:Binds K t.g_anew ["clock","now"] []
  m_anew:mg "anew" = some (.ref t.a_anew)
  u_House_refuse_unknown:Fun K "refuse_unknown" "House.refuse_unknown" s_House_refuse_unknown t.a_House_refuse_unknown t.g_House_refuse_unknown
  d_House_refuse_unknown:Binds K t.g_House_refuse_unknown ["self","name"] []
  h_House_refuse_unknown:Meth K t.c_House "refuse_unknown" t.a_House_refuse_unknown
  u_House_clock:Fun K "clock" "House.clock" s_House_clock t.a_House_clock t.g_House_clock
  d_House_clock:Binds K t.g_House_clock ["self","name"] []
  h_House_clock:Meth K t.c_House "clock" t.a_House_clock
  u_left_at:Fun K "left_at" "left_at" s_left_at t.a_left_at t.g_left_at
  d_left_at:Binds K t.g_left_at ["clock","now"] []
  m_left_at:mg "left_at" = some (.ref t.a_left_at)
  u_longer:Fun K "longer" "longer" s_longer t.a_longer t.g_longer
  d_longer:Binds K t.g_longer ["clock","by","now"] []
  m_longer:mg "longer" = some (.ref t.a_longer)
  u_stopped:Fun K "stopped" "stopped" s_stopped t.a_stopped t.g_stopped
  d_stopped:Binds K t.g_stopped ["clock","now"] []
  m_stopped:mg "stopped" = some (.ref t.a_stopped)
  u_House_drop:Fun K "drop" "House.drop" s_House_drop t.a_House_drop t.g_House_drop
  d_House_drop:Binds K t.g_House_drop ["self","name"] []
  h_House_drop:Meth K t.c_House "drop" t.a_House_drop
  u_House_next_due:Fun K "next_due" "House.next_due" s_House_next_due t.a_House_next_due t.g_House_next_due
  d_House_next_due:Binds K t.g_House_next_due ["self"] []
  h_House_next_due:Meth K t.c_House "next_due" t.a_House_next_due
  u_law:Fun K "law" "law" s_law t.a_law t.g_law
  d_law:Binds K t.g_law ["_law_script"] []
  m_law:mg "law" = some (.ref t.a_law)
  b_len:mg "len" = none
  b_list:mg "list" = none
  b_max:mg "max" = none
  b_min:mg "min" = none
  b_range:mg "range" = none
  b_sorted:mg "sorted" = none
  K_House:Cls K t.c_House
  n_House_asleep:NoAttr K t.c_House "asleep"
  n_House_clocks:NoAttr K t.c_House "clocks"
  n_House_reached:NoAttr K t.c_House "reached"
  M_House:Mk K t.c_House t.a_House_init
  m_House:mg "House" = some (.ref t.c_House)
section
variable {P:Program} {w:World} {K:PySem.W.Frag} {mg:Str→Option Value} {base:Heap} {t:Ad}
theorem ok_law_cell (T:Tx K mg t)  :FnOk P w K mg base CX0 1 t.a_law_cell t.g_law_cell ["_law_script","_law_k"] (spOf K S_law_cell):=by
  refine fnD (k:=0) T.u_law_cell sc_law_cell l_law_cell fun cdv A outer s H E hr=>⟨t_law_cell,?_,r_law_cell⟩
  have nd:=(sc_law_cell).nd
  exact (dss_cons (ds_if (dt_eq hr.units (dv 0) (de_lst da_nil)) (dss_one (ds_ret (de_mul de_int (dv 1)))) dss_nil) (dss_one (ds_ret (de_addF (de_ixF (dv 0) (de_mod (dv 1) (de_lenF T.b_len (da_cons (dv 0) da_nil)))) (de_mul de_int (de_fdiv (dv 1) (de_lenF T.b_len (da_cons (dv 0) da_nil))))))))
theorem ok_law_drawn (T:Tx K mg t) (G_law_cell:FnOk P w K mg base CX0 1 t.a_law_cell t.g_law_cell ["_law_script","_law_k"] (spOf K S_law_cell)) :FnOk P w K mg base CX0 2 t.a_law_drawn t.g_law_drawn ["_law_script","_law_k","_law_many"] (spOf K S_law_drawn):=by
  refine fnD (k:=1) T.u_law_drawn sc_law_drawn l_law_drawn fun cdv A outer s H E hr=>⟨t_law_drawn,?_,r_law_drawn⟩
  have nd:=(sc_law_drawn).nd
  exact (dss_cons (ds_set 3 nd (de_mod (de_addF (de_mul (de_mod (de_call G_law_cell (hr.mono (by decide)) T.m_law_cell T.u_law_cell.kp T.d_law_cell (da_cons (dv 0) (da_cons (dv 1) da_nil))) de_int) de_int) (de_mul de_int (de_addF (dv 1) de_int))) de_int)) (dss_cons (ds_set 3 nd (de_mod (de_addF (de_mul (dv 3) (dv 3)) (de_fdiv (dv 3) de_int)) de_int)) (dss_one (ds_ret (de_mod (de_fdiv (de_mod (de_addF (de_mul (dv 3) (dv 3)) (de_fdiv (dv 3) de_int)) de_int) de_int) (dv 2))))))
theorem ok_House_init (T:Tx K mg t)  :FnOk P w K mg base CX0 1 t.a_House_init t.g_House_init ["self","now"] (spO K (S_House_init t.c_House)):=by
  refine fnO (k:=0) T.u_House_init sc_House_init (l_House_init _) fun cdv A outer s H E hr=>⟨t_House_init t.c_House,?_,r_House_init t.c_House⟩
  have nd:=(sc_House_init).nd
  exact (dss_cons (ds_setF 0 T.K_House T.n_House_reached (dv 1)) (dss_cons (ds_setD 0 T.K_House T.n_House_clocks) (dss_one (ds_setF 0 T.K_House T.n_House_asleep de_bl))))
theorem ok_House_refuse_asleep (T:Tx K mg t)  :FnOk P w K mg base CX0 1 t.a_House_refuse_asleep t.g_House_refuse_asleep ["self"] (spO K (S_House_refuse_asleep t.c_House)):=by
  refine fnO (k:=0) T.u_House_refuse_asleep sc_House_refuse_asleep (l_House_refuse_asleep _) fun cdv A outer s H E hr=>⟨t_House_refuse_asleep t.c_House,?_,r_House_refuse_asleep t.c_House⟩
  have nd:=(sc_House_refuse_asleep).nd
  exact (dss_one (ds_if (dt_truF (dx_de (dx_fld 0 T.K_House T.n_House_asleep))) (dss_one ds_never) dss_nil))
theorem ok_House_put (T:Tx K mg t) (G_House_refuse_asleep:FnOk P w K mg base CX0 1 t.a_House_refuse_asleep t.g_House_refuse_asleep ["self"] (spO K (S_House_refuse_asleep t.c_House))) :FnOk P w K mg base CX0 2 t.a_House_put t.g_House_put ["self","name","clock"] (spO K (S_House_put t.c_House)):=by
  refine fnO (k:=1) T.u_House_put sc_House_put (l_House_put _) fun cdv A outer s H E hr=>⟨t_House_put t.c_House,?_,r_House_put t.c_House⟩
  have nd:=(sc_House_put).nd
  exact (dss_cons (ds_expr (de_meth0 0 T.K_House T.h_House_refuse_asleep G_House_refuse_asleep (hr.mono (by decide)) T.d_House_refuse_asleep)) (dss_one (ds_dput 0 (by exact units1d hr) T.K_House T.n_House_clocks (dx_var 2) (dx_var 1))))
theorem ok_refuse_early (T:Tx K mg t)  :FnOk P w K mg base CX0 1 t.a_refuse_early t.g_refuse_early ["earlier","now"] (spOf K S_refuse_early):=by
  refine fnD (k:=0) T.u_refuse_early sc_refuse_early l_refuse_early fun cdv A outer s H E hr=>⟨t_refuse_early,?_,r_refuse_early⟩
  have nd:=(sc_refuse_early).nd
  exact (dss_one (ds_if (dt_w (dw_and (dt_isnot (dv 0) de_non) (dw_and1 (dt_lt (dv 1) (dv 0))))) (dss_one ds_never) dss_nil))
theorem ok_begun (T:Tx K mg t) (G_refuse_early:FnOk P w K mg base CX0 1 t.a_refuse_early t.g_refuse_early ["earlier","now"] (spOf K S_refuse_early)) :FnOk P w K mg base CX0 2 t.a_begun t.g_begun ["clock","now"] (spOf K S_begun):=by
  refine fnD (k:=1) T.u_begun sc_begun l_begun fun cdv A outer s H E hr=>⟨t_begun,?_,r_begun⟩
  have nd:=(sc_begun).nd
  exact (dss_cons (ds_expr (de_call G_refuse_early (hr.mono (by decide)) T.m_refuse_early T.u_refuse_early.kp T.d_refuse_early (da_cons (de_ixF (dv 0) de_int) (da_cons (dv 1) da_nil)))) (dss_cons (ds_if (dt_isnot (de_ixF (dv 0) de_int) de_non) (dss_one (ds_ret (dv 0))) dss_nil) (dss_one (ds_ret (de_tup (da_cons de_str (da_cons (de_ixF (dv 0) de_int) (da_cons (de_ixF (dv 0) de_int) (da_cons (dv 1) da_nil)))))))))
theorem ok_timer (T:Tx K mg t)  :FnOk P w K mg base CX0 1 t.a_timer t.g_timer ["size"] (spOf K S_timer):=by
  refine fnD (k:=0) T.u_timer sc_timer l_timer fun cdv A outer s H E hr=>⟨t_timer,?_,r_timer⟩
  have nd:=(sc_timer).nd
  exact (dss_one (ds_ret (de_tup (da_cons de_str (da_cons (dv 0) (da_cons (dv 0) (da_cons de_non da_nil)))))))
theorem ok_next_of_timer (T:Tx K mg t)  :FnOk P w K mg base CX0 1 t.a_next_of_timer t.g_next_of_timer ["clock","now"] (spOf K S_next_of_timer):=by
  refine fnD (k:=0) T.u_next_of_timer sc_next_of_timer l_next_of_timer fun cdv A outer s H E hr=>⟨t_next_of_timer,?_,r_next_of_timer⟩
  have nd:=(sc_next_of_timer).nd
  exact (dss_cons (ds_if (dt_w (dw_or (dt_is (de_ixF (dv 0) de_int) de_non) (dw_or1 (dt_le (de_addF (de_ixF (dv 0) de_int) (de_ixF (dv 0) de_int)) (dv 1))))) (dss_one (ds_ret de_non)) dss_nil) (dss_one (ds_ret (de_addF (de_ixF (dv 0) de_int) (de_ixF (dv 0) de_int)))))
theorem ok_rung_of_every (T:Tx K mg t)  :FnOk P w K mg base CX0 1 t.a_rung_of_every t.g_rung_of_every ["clock","moment"] (spOf K S_rung_of_every):=by
  refine fnD (k:=0) T.u_rung_of_every sc_rung_of_every l_rung_of_every fun cdv A outer s H E hr=>⟨t_rung_of_every,?_,r_rung_of_every⟩
  have nd:=(sc_rung_of_every).nd
  exact (dss_cons (ds_set 2 nd (de_max rfl T.b_max (da_cons de_int (da_cons (de_addF (de_fdiv (de_sub (dv 1) (de_ixF (dv 0) de_int)) (de_ixF (dv 0) de_int)) de_int) da_nil)))) (dss_one (ds_ret (de_if (dt_is (de_ixF (dv 0) de_int) de_non) (dv 2) (de_min rfl T.b_min (da_cons (dv 2) (da_cons (de_ixF (dv 0) de_int) da_nil)))))))
theorem ok_next_of_every (T:Tx K mg t) (G_rung_of_every:FnOk P w K mg base CX0 1 t.a_rung_of_every t.g_rung_of_every ["clock","moment"] (spOf K S_rung_of_every)) :FnOk P w K mg base CX0 2 t.a_next_of_every t.g_next_of_every ["clock","now"] (spOf K S_next_of_every):=by
  refine fnD (k:=1) T.u_next_of_every sc_next_of_every l_next_of_every fun cdv A outer s H E hr=>⟨t_next_of_every,?_,r_next_of_every⟩
  have nd:=(sc_next_of_every).nd
  exact (dss_cons (ds_set 2 nd (de_call G_rung_of_every (hr.mono (by decide)) T.m_rung_of_every T.u_rung_of_every.kp T.d_rung_of_every (da_cons (dv 0) (da_cons (dv 1) da_nil)))) (dss_cons (ds_if (dt_w (dw_and (dt_isnot (de_ixF (dv 0) de_int) de_non) (dw_and1 (dt_eq hr.units (dv 2) (de_ixF (dv 0) de_int))))) (dss_one (ds_ret de_non)) dss_nil) (dss_one (ds_ret (de_addF (de_ixF (dv 0) de_int) (de_mul (dv 2) (de_ixF (dv 0) de_int)))))))
theorem ok_next_ring (T:Tx K mg t) (G_next_of_timer:FnOk P w K mg base CX0 1 t.a_next_of_timer t.g_next_of_timer ["clock","now"] (spOf K S_next_of_timer)) (G_next_of_every:FnOk P w K mg base CX0 2 t.a_next_of_every t.g_next_of_every ["clock","now"] (spOf K S_next_of_every)) :FnOk P w K mg base CX0 3 t.a_next_ring t.g_next_ring ["clock","now"] (spOf K S_next_ring):=by
  refine fnD (k:=2) T.u_next_ring sc_next_ring l_next_ring fun cdv A outer s H E hr=>⟨t_next_ring,?_,r_next_ring⟩
  have nd:=(sc_next_ring).nd
  exact (dss_cons (ds_if (dt_eq hr.units (de_ixF (dv 0) de_int) de_str) (dss_one (ds_ret (de_call G_next_of_timer (hr.mono (by decide)) T.m_next_of_timer T.u_next_of_timer.kp T.d_next_of_timer (da_cons (dv 0) (da_cons (dv 1) da_nil))))) dss_nil) (dss_cons (ds_if (dt_eq hr.units (de_ixF (dv 0) de_int) de_str) (dss_one (ds_ret (de_call G_next_of_every (hr.mono (by decide)) T.m_next_of_every T.u_next_of_every.kp T.d_next_of_every (da_cons (dv 0) (da_cons (dv 1) da_nil))))) dss_nil) (dss_one ds_never)))
theorem ok_rung_by (T:Tx K mg t) (G_rung_of_every:FnOk P w K mg base CX0 1 t.a_rung_of_every t.g_rung_of_every ["clock","moment"] (spOf K S_rung_of_every)) :FnOk P w K mg base CX0 2 t.a_rung_by t.g_rung_by ["clock","moment"] (spOf K S_rung_by):=by
  refine fnD (k:=1) T.u_rung_by sc_rung_by l_rung_by fun cdv A outer s H E hr=>⟨t_rung_by,?_,r_rung_by⟩
  have nd:=(sc_rung_by).nd
  exact (dss_cons (ds_if (dt_eq hr.units (de_ixF (dv 0) de_int) de_str) (dss_one (ds_ret (de_if (dt_w (dw_and (dt_isnot (de_ixF (dv 0) de_int) de_non) (dw_and1 (dt_le (de_addF (de_ixF (dv 0) de_int) (de_ixF (dv 0) de_int)) (dv 1))))) de_int de_int))) dss_nil) (dss_cons (ds_if (dt_eq hr.units (de_ixF (dv 0) de_int) de_str) (dss_one (ds_ret (de_call G_rung_of_every (hr.mono (by decide)) T.m_rung_of_every T.u_rung_of_every.kp T.d_rung_of_every (da_cons (dv 0) (da_cons (dv 1) da_nil))))) dss_nil) (dss_one ds_never)))
theorem ok_last_ring (T:Tx K mg t) (G_rung_by:FnOk P w K mg base CX0 2 t.a_rung_by t.g_rung_by ["clock","moment"] (spOf K S_rung_by)) :FnOk P w K mg base CX0 3 t.a_last_ring t.g_last_ring ["clock","now"] (spOf K S_last_ring):=by
  refine fnD (k:=2) T.u_last_ring sc_last_ring l_last_ring fun cdv A outer s H E hr=>⟨t_last_ring,?_,r_last_ring⟩
  have nd:=(sc_last_ring).nd
  exact (dss_cons (ds_if (dt_eq hr.units (de_ixF (dv 0) de_int) de_str) (dss_one ds_never) dss_nil) (dss_cons (ds_set 2 nd (de_call G_rung_by (hr.mono (by decide)) T.m_rung_by T.u_rung_by.kp T.d_rung_by (da_cons (dv 0) (da_cons (dv 1) da_nil)))) (dss_cons (ds_if (dt_eq hr.units (dv 2) de_int) (dss_one (ds_ret de_non)) dss_nil) (dss_cons (ds_if (dt_eq hr.units (de_ixF (dv 0) de_int) de_str) (dss_one (ds_ret (de_addF (de_ixF (dv 0) de_int) (de_ixF (dv 0) de_int)))) dss_nil) (dss_one (ds_ret (de_addF (de_ixF (dv 0) de_int) (de_mul (de_sub (dv 2) de_int) (de_ixF (dv 0) de_int)))))))))
theorem ok_rings (T:Tx K mg t) (G_next_ring:FnOk P w K mg base CX0 3 t.a_next_ring t.g_next_ring ["clock","now"] (spOf K S_next_ring)) (G_last_ring:FnOk P w K mg base CX0 3 t.a_last_ring t.g_last_ring ["clock","now"] (spOf K S_last_ring)) :FnOk P w K mg base CX0 4 t.a_rings t.g_rings ["clock","start","end"] (spOf K S_rings):=by
  refine fnD (k:=3) T.u_rings sc_rings l_rings fun cdv A outer s H E hr=>⟨t_rings,?_,r_rings⟩
  have nd:=(sc_rings).nd
  exact (dss_cons (ds_set 3 nd (de_call G_next_ring (hr.mono (by decide)) T.m_next_ring T.u_next_ring.kp T.d_next_ring (da_cons (dv 0) (da_cons (dv 1) da_nil)))) (dss_cons (ds_if (dt_w (dw_or (dt_is (dv 3) de_non) (dw_or1 (dt_gt (dv 3) (dv 2))))) (dss_one (ds_ret (de_lst da_nil))) dss_nil) (dss_cons (ds_if (dt_eq hr.units (de_ixF (dv 0) de_int) de_str) (dss_one (ds_ret (de_lst (da_cons (dv 3) da_nil)))) dss_nil) (dss_cons (ds_if (dt_eq hr.units (de_ixF (dv 0) de_int) de_str) (dss_one (ds_ret (de_list_range rfl T.b_list T.b_range (da_cons (dv 3) (da_cons (de_addF (de_call G_last_ring (hr.mono (by decide)) T.m_last_ring T.u_last_ring.kp T.d_last_ring (da_cons (dv 0) (da_cons (dv 2) da_nil))) de_int) (da_cons (de_ixF (dv 0) de_int) da_nil)))))) dss_nil) (dss_one ds_never)))))
theorem ok_House_tick (T:Tx K mg t) (G_House_refuse_asleep:FnOk P w K mg base CX0 1 t.a_House_refuse_asleep t.g_House_refuse_asleep ["self"] (spO K (S_House_refuse_asleep t.c_House))) (G_refuse_early:FnOk P w K mg base CX0 1 t.a_refuse_early t.g_refuse_early ["earlier","now"] (spOf K S_refuse_early)) (G_rings:FnOk P w K mg base CX0 4 t.a_rings t.g_rings ["clock","start","end"] (spOf K S_rings)) :FnOk P w K mg base CX0 5 t.a_House_tick t.g_House_tick ["self","now"] (spO K (S_House_tick t.c_House)):=by
  refine fnO (k:=4) T.u_House_tick sc_House_tick (l_House_tick _) fun cdv A outer s H E hr=>⟨t_House_tick t.c_House,?_,r_House_tick t.c_House⟩
  have nd:=(sc_House_tick).nd
  exact (dss_cons (ds_expr (de_meth0 0 T.K_House T.h_House_refuse_asleep G_House_refuse_asleep (hr.mono (by decide)) T.d_House_refuse_asleep)) (dss_cons (ds_expr (de_call G_refuse_early (hr.mono (by decide)) T.m_refuse_early T.u_refuse_early.kp T.d_refuse_early (da_cons (dx_de (dx_fld 0 T.K_House T.n_House_reached)) (da_cons (dv 1) da_nil)))) (dss_cons (ds_own 2 nd da_nil) (dss_cons (ds_fz 0 (ds_for PassesOwn.never rfl (di_items 0 T.K_House T.n_House_clocks) (dg_tup2 3 4 rfl nd) (dss_one (ds_extend 2 (de_compK ["self","now","told","name","clock","moment"] 1 rfl (di_seqF (de_call G_rings (hr.mono (by decide)) T.m_rings T.u_rings.kp T.d_rings (da_cons (dv 4) (da_cons (dx_de (dx_fld 0 T.K_House T.n_House_reached)) (da_cons (dv 1) da_nil))))) (fun cl C ex s H=>⟨(dg_name 5 (show List.Nodup (α:=Str) ["self","now","told","name","clock","moment"] by decide +kernel)),dts_nil,(de_tup (da_cons (dv 5) (da_cons (dv 3) da_nil)))⟩) (by show compOk ["self","now","told","name","clock"] (defScope s_House_tick) ["self","now","told","name","clock","moment"] _ 1 = true; decide +kernel) (by intro _; rfl)))))) (dss_frz 2 (dss_cons (ds_setF 0 T.K_House T.n_House_reached (dv 1)) (dss_one (ds_ret (de_sortedK T.b_sorted (da_cons (dv 2) da_nil))))))))))
theorem ok_now_if_running (T:Tx K mg t)  :FnOk P w K mg base CX0 1 t.a_now_if_running t.g_now_if_running ["clock","now"] (spOf K S_now_if_running):=by
  refine fnD (k:=0) T.u_now_if_running sc_now_if_running l_now_if_running fun cdv A outer s H E hr=>⟨t_now_if_running,?_,r_now_if_running⟩
  have nd:=(sc_now_if_running).nd
  exact (dss_one (ds_ret (de_if (dt_is (de_ixF (dv 0) de_int) de_non) de_non (dv 1))))
theorem ok_anew (T:Tx K mg t) (G_refuse_early:FnOk P w K mg base CX0 1 t.a_refuse_early t.g_refuse_early ["earlier","now"] (spOf K S_refuse_early)) (G_now_if_running:FnOk P w K mg base CX0 1 t.a_now_if_running t.g_now_if_running ["clock","now"] (spOf K S_now_if_running)) :FnOk P w K mg base CX0 2 t.a_anew t.g_anew ["clock","now"] (spOf K S_anew):=by
  refine fnD (k:=1) T.u_anew sc_anew l_anew fun cdv A outer s H E hr=>⟨t_anew,?_,r_anew⟩
  have nd:=(sc_anew).nd
  exact (dss_cons (ds_expr (de_call G_refuse_early (hr.mono (by decide)) T.m_refuse_early T.u_refuse_early.kp T.d_refuse_early (da_cons (de_ixF (dv 0) de_int) (da_cons (dv 1) da_nil)))) (dss_one (ds_ret (de_tup (da_cons de_str (da_cons (de_ixF (dv 0) de_int) (da_cons (de_ixF (dv 0) de_int) (da_cons (de_call G_now_if_running (hr.mono (by decide)) T.m_now_if_running T.u_now_if_running.kp T.d_now_if_running (da_cons (dv 0) (da_cons (dv 1) da_nil))) da_nil))))))))
theorem ok_House_refuse_unknown (T:Tx K mg t)  :FnOk P w K mg base CX0 1 t.a_House_refuse_unknown t.g_House_refuse_unknown ["self","name"] (spO K (S_House_refuse_unknown t.c_House)):=by
  refine fnO (k:=0) T.u_House_refuse_unknown sc_House_refuse_unknown (l_House_refuse_unknown _) fun cdv A outer s H E hr=>⟨t_House_refuse_unknown t.c_House,?_,r_House_refuse_unknown t.c_House⟩
  have nd:=(sc_House_refuse_unknown).nd
  exact (dss_one (ds_if (dt_dnotin 0 (by exact units1d hr) T.K_House T.n_House_clocks (dx_var 1)) (dss_one ds_never) dss_nil))
theorem ok_House_clock (T:Tx K mg t) (G_House_refuse_unknown:FnOk P w K mg base CX0 1 t.a_House_refuse_unknown t.g_House_refuse_unknown ["self","name"] (spO K (S_House_refuse_unknown t.c_House))) :FnOk P w K mg base CX0 2 t.a_House_clock t.g_House_clock ["self","name"] (spO K (S_House_clock t.c_House)):=by
  refine fnO (k:=1) T.u_House_clock sc_House_clock (l_House_clock _) fun cdv A outer s H E hr=>⟨t_House_clock t.c_House,?_,r_House_clock t.c_House⟩
  have nd:=(sc_House_clock).nd
  exact (dss_cons (ds_expr (de_meth 0 T.K_House T.h_House_refuse_unknown G_House_refuse_unknown (hr.mono (by decide)) T.d_House_refuse_unknown (dao_cons (dv 1) dao_nil))) (dss_one (ds_ret (dx_de (dx_dget 0 (by exact units1d hr) T.K_House T.n_House_clocks (dx_var 1))))))
theorem ok_left_at (T:Tx K mg t) (G_refuse_early:FnOk P w K mg base CX0 1 t.a_refuse_early t.g_refuse_early ["earlier","now"] (spOf K S_refuse_early)) :FnOk P w K mg base CX0 2 t.a_left_at t.g_left_at ["clock","now"] (spOf K S_left_at):=by
  refine fnD (k:=1) T.u_left_at sc_left_at l_left_at fun cdv A outer s H E hr=>⟨t_left_at,?_,r_left_at⟩
  have nd:=(sc_left_at).nd
  exact (dss_cons (ds_expr (de_call G_refuse_early (hr.mono (by decide)) T.m_refuse_early T.u_refuse_early.kp T.d_refuse_early (da_cons (de_ixF (dv 0) de_int) (da_cons (dv 1) da_nil)))) (dss_cons (ds_if (dt_is (de_ixF (dv 0) de_int) de_non) (dss_one (ds_ret (de_ixF (dv 0) de_int))) dss_nil) (dss_one (ds_ret (de_max rfl T.b_max (da_cons de_int (da_cons (de_sub (de_ixF (dv 0) de_int) (de_sub (dv 1) (de_ixF (dv 0) de_int))) da_nil)))))))
theorem ok_longer (T:Tx K mg t) (G_left_at:FnOk P w K mg base CX0 2 t.a_left_at t.g_left_at ["clock","now"] (spOf K S_left_at)) (G_now_if_running:FnOk P w K mg base CX0 1 t.a_now_if_running t.g_now_if_running ["clock","now"] (spOf K S_now_if_running)) :FnOk P w K mg base CX0 3 t.a_longer t.g_longer ["clock","by","now"] (spOf K S_longer):=by
  refine fnD (k:=2) T.u_longer sc_longer l_longer fun cdv A outer s H E hr=>⟨t_longer,?_,r_longer⟩
  have nd:=(sc_longer).nd
  exact (dss_one (ds_ret (de_tup (da_cons de_str (da_cons (de_ixF (dv 0) de_int) (da_cons (de_max rfl T.b_max (da_cons de_int (da_cons (de_addF (de_call G_left_at (hr.mono (by decide)) T.m_left_at T.u_left_at.kp T.d_left_at (da_cons (dv 0) (da_cons (dv 2) da_nil))) (dv 1)) da_nil))) (da_cons (de_call G_now_if_running (hr.mono (by decide)) T.m_now_if_running T.u_now_if_running.kp T.d_now_if_running (da_cons (dv 0) (da_cons (dv 2) da_nil))) da_nil)))))))
theorem ok_stopped (T:Tx K mg t) (G_left_at:FnOk P w K mg base CX0 2 t.a_left_at t.g_left_at ["clock","now"] (spOf K S_left_at)) :FnOk P w K mg base CX0 3 t.a_stopped t.g_stopped ["clock","now"] (spOf K S_stopped):=by
  refine fnD (k:=2) T.u_stopped sc_stopped l_stopped fun cdv A outer s H E hr=>⟨t_stopped,?_,r_stopped⟩
  have nd:=(sc_stopped).nd
  exact (dss_one (ds_ret (de_tup (da_cons de_str (da_cons (de_ixF (dv 0) de_int) (da_cons (de_call G_left_at (hr.mono (by decide)) T.m_left_at T.u_left_at.kp T.d_left_at (da_cons (dv 0) (da_cons (dv 1) da_nil))) (da_cons de_non da_nil)))))))
theorem ok_House_drop (T:Tx K mg t) (G_House_refuse_asleep:FnOk P w K mg base CX0 1 t.a_House_refuse_asleep t.g_House_refuse_asleep ["self"] (spO K (S_House_refuse_asleep t.c_House))) (G_House_refuse_unknown:FnOk P w K mg base CX0 1 t.a_House_refuse_unknown t.g_House_refuse_unknown ["self","name"] (spO K (S_House_refuse_unknown t.c_House))) :FnOk P w K mg base CX0 2 t.a_House_drop t.g_House_drop ["self","name"] (spO K (S_House_drop t.c_House)):=by
  refine fnO (k:=1) T.u_House_drop sc_House_drop (l_House_drop _) fun cdv A outer s H E hr=>⟨t_House_drop t.c_House,?_,r_House_drop t.c_House⟩
  have nd:=(sc_House_drop).nd
  exact (dss_cons (ds_expr (de_meth0 0 T.K_House T.h_House_refuse_asleep G_House_refuse_asleep (hr.mono (by decide)) T.d_House_refuse_asleep)) (dss_cons (ds_expr (de_meth 0 T.K_House T.h_House_refuse_unknown G_House_refuse_unknown (hr.mono (by decide)) T.d_House_refuse_unknown (dao_cons (dv 1) dao_nil))) (dss_one (ds_dpop 0 T.K_House T.n_House_clocks (dx_var 1)))))
theorem ok_House_next_due (T:Tx K mg t) (G_next_ring:FnOk P w K mg base CX0 3 t.a_next_ring t.g_next_ring ["clock","now"] (spOf K S_next_ring)) :FnOk P w K mg base CX0 4 t.a_House_next_due t.g_House_next_due ["self"] (spO K (S_House_next_due t.c_House)):=by
  refine fnO (k:=3) T.u_House_next_due sc_House_next_due (l_House_next_due _) fun cdv A outer s H E hr=>⟨t_House_next_due t.c_House,?_,r_House_next_due t.c_House⟩
  have nd:=(sc_House_next_due).nd
  exact (dss_cons (ds_fz 0 (ds_compKO ["self","rows","dues","first","name","clock"] 2 1 rfl (di_items 0 T.K_House T.n_House_clocks) (fun cl C ex s H=>⟨(dg_tup2 4 5 rfl (show List.Nodup (α:=Str) ["self","rows","dues","first","name","clock"] by decide +kernel)),dts_nil,(de_tup (da_cons (de_call (by exact G_next_ring) (by exact hr.mono (by decide)) (by exact T.m_next_ring) (by exact T.u_next_ring.kp) (by exact T.d_next_ring) (da_cons (dv 5) (da_cons (dx_de (dx_fld 0 (by exact T.K_House) (by exact T.n_House_reached))) da_nil))) (da_cons (dv 4) da_nil)))⟩) (by show compOk ["self","rows","dues","first"] (defScope s_House_next_due) ["self","rows","dues","first","name","clock"] _ 2 = true; decide +kernel) (by intro _; rfl) nd rfl (by first | exact Or.inl rfl | exact Or.inr rfl) rfl (by first | exact .inl rfl | exact .inr rfl | assumption))) (dss_cons (ds_compK ["self","rows","dues","first","row"] 1 2 rfl (di_seqF (dv 1)) (fun cl C ex s H=>⟨(dg_name 4 (show List.Nodup (α:=Str) ["self","rows","dues","first","row"] by decide +kernel)),(dts_one (dt_isnot (de_ixF (dv 4) de_int) de_non)),(dv 4)⟩) (by show compOk ["self","rows","dues","first"] (defScope s_House_next_due) ["self","rows","dues","first","row"] _ 1 = true; decide +kernel) (by intro _; rfl) nd rfl (by first | exact Or.inl rfl | exact Or.inr rfl) rfl (by first | exact .inl rfl | exact .inr rfl | assumption)) (dss_cons (ds_if (dt_not (dt_truF (dv 2))) (dss_one (ds_ret de_non)) dss_nil) (dss_cons (ds_set 3 nd (de_minL rfl T.b_min (da_cons (de_compK ["self","rows","dues","first","moment","name"] 2 rfl (di_seqF (dv 2)) (fun cl C ex s H=>⟨(dg_tup2 4 5 rfl (show List.Nodup (α:=Str) ["self","rows","dues","first","moment","name"] by decide +kernel)),dts_nil,(dv 4)⟩) (by show compOk ["self","rows","dues","first"] (defScope s_House_next_due) ["self","rows","dues","first","moment","name"] _ 2 = true; decide +kernel) (by intro _; rfl)) da_nil)) rfl (by first | exact Or.inl rfl | exact Or.inr rfl) rfl (by first | exact .inl rfl | exact .inr rfl | assumption)) (dss_one (ds_ret (de_tup (da_cons (dv 3) (da_cons (de_sorted rfl T.b_sorted (da_cons (de_compK ["self","rows","dues","first","moment","name"] 2 rfl (di_seqF (dv 2)) (fun cl C ex s H=>⟨(dg_tup2 4 5 rfl (show List.Nodup (α:=Str) ["self","rows","dues","first","moment","name"] by decide +kernel)),(dts_one (dt_eq (by exact hr.units) (dv 4) (dv 3))),(dv 5)⟩) (by show compOk ["self","rows","dues","first"] (defScope s_House_next_due) ["self","rows","dues","first","moment","name"] _ 2 = true; decide +kernel) (by intro _; rfl)) da_nil)) da_nil)))))))))
theorem ok_law (T:Tx K mg t) (G_law_drawn:FnOk P w K mg base CX0 2 t.a_law_drawn t.g_law_drawn ["_law_script","_law_k","_law_many"] (spOf K S_law_drawn)) (G_House_init:FnOk P w K mg base CX0 1 t.a_House_init t.g_House_init ["self","now"] (spO K (S_House_init t.c_House))) (G_House_put:FnOk P w K mg base CX0 2 t.a_House_put t.g_House_put ["self","name","clock"] (spO K (S_House_put t.c_House))) (G_begun:FnOk P w K mg base CX0 2 t.a_begun t.g_begun ["clock","now"] (spOf K S_begun)) (G_timer:FnOk P w K mg base CX0 1 t.a_timer t.g_timer ["size"] (spOf K S_timer)) (G_House_tick:FnOk P w K mg base CX0 5 t.a_House_tick t.g_House_tick ["self","now"] (spO K (S_House_tick t.c_House))) (G_anew:FnOk P w K mg base CX0 2 t.a_anew t.g_anew ["clock","now"] (spOf K S_anew)) (G_House_clock:FnOk P w K mg base CX0 2 t.a_House_clock t.g_House_clock ["self","name"] (spO K (S_House_clock t.c_House))) (G_left_at:FnOk P w K mg base CX0 2 t.a_left_at t.g_left_at ["clock","now"] (spOf K S_left_at)) (G_longer:FnOk P w K mg base CX0 3 t.a_longer t.g_longer ["clock","by","now"] (spOf K S_longer)) (G_rings:FnOk P w K mg base CX0 4 t.a_rings t.g_rings ["clock","start","end"] (spOf K S_rings)) (G_stopped:FnOk P w K mg base CX0 3 t.a_stopped t.g_stopped ["clock","now"] (spOf K S_stopped)) (G_House_drop:FnOk P w K mg base CX0 2 t.a_House_drop t.g_House_drop ["self","name"] (spO K (S_House_drop t.c_House))) (G_House_next_due:FnOk P w K mg base CX0 4 t.a_House_next_due t.g_House_next_due ["self"] (spO K (S_House_next_due t.c_House))) :FnOk P w K mg base CX0 6 t.a_law t.g_law ["_law_script"] (spOf K S_law):=by
  refine fnD (k:=5) T.u_law sc_law l_law fun cdv A outer s H E hr=>⟨t_law t.c_House,?_,r_law t.c_House⟩
  have nd:=(sc_law).nd
  exact (dss_cons (ds_set 1 nd (de_addF de_int (de_call G_law_drawn (hr.mono (by decide)) T.m_law_drawn T.u_law_drawn.kp T.d_law_drawn (da_cons (dv 0) (da_cons de_int (da_cons de_int da_nil)))))) (dss_cons (ds_set 2 nd (de_call G_law_drawn (hr.mono (by decide)) T.m_law_drawn T.u_law_drawn.kp T.d_law_drawn (da_cons (dv 0) (da_cons de_int (da_cons de_int da_nil))))) (dss_cons (ds_set 3 nd (de_tup (da_cons de_str (da_cons (de_call G_law_drawn (hr.mono (by decide)) T.m_law_drawn T.u_law_drawn.kp T.d_law_drawn (da_cons (dv 0) (da_cons de_int (da_cons de_int da_nil)))) (da_cons (de_addF de_int (de_call G_law_drawn (hr.mono (by decide)) T.m_law_drawn T.u_law_drawn.kp T.d_law_drawn (da_cons (dv 0) (da_cons de_int (da_cons de_int da_nil))))) (da_cons de_non da_nil)))))) (dss_cons (ds_make 4 nd T.M_House G_House_init (hr.mono (by decide)) T.m_House T.d_House_init (da_cons de_int da_nil)) (dss_cons (ds_expr (de_meth 4 T.K_House T.h_House_put G_House_put (hr.mono (by decide)) T.d_House_put (dao_cons de_str (dao_cons (dv 3) dao_nil)))) (dss_cons (ds_expr (de_meth 4 T.K_House T.h_House_put G_House_put (hr.mono (by decide)) T.d_House_put (dao_cons de_str (dao_cons (de_call G_begun (hr.mono (by decide)) T.m_begun T.u_begun.kp T.d_begun (da_cons (de_call G_timer (hr.mono (by decide)) T.m_timer T.u_timer.kp T.d_timer (da_cons (dv 1) da_nil)) (da_cons de_int da_nil))) dao_nil)))) (dss_cons (ds_set 5 nd (de_addF (dv 1) (de_call G_law_drawn (hr.mono (by decide)) T.m_law_drawn T.u_law_drawn.kp T.d_law_drawn (da_cons (dv 0) (da_cons de_int (da_cons de_int da_nil)))))) (dss_cons (ds_set 6 nd (de_meth 4 T.K_House T.h_House_tick G_House_tick (hr.mono (by decide)) T.d_House_tick (dao_cons (dv 5) dao_nil))) (dss_cons (ds_if (dt_w (dw_or (dt_ne hr.units (de_compK ["_law_script","_law_size","_law_by","_law_every","_law_house","_law_now","_law_rows","_law_middle","_law_end","_law_due","_law_row"] 1 rfl (di_seqF (dv 6)) (fun cl C ex s H=>⟨(dg_name 10 (show List.Nodup (α:=Str) ["_law_script","_law_size","_law_by","_law_every","_law_house","_law_now","_law_rows","_law_middle","_law_end","_law_due","_law_row"] by decide +kernel)),(dts_one (dt_eq (by exact hr.units) (de_ixF (dv 10) de_int) de_str)),(de_ixF (dv 10) de_int)⟩) (by show compOk ["_law_script","_law_size","_law_by","_law_every","_law_house","_law_now","_law_rows","_law_middle","_law_end","_law_due"] (defScope s_law) ["_law_script","_law_size","_law_by","_law_every","_law_house","_law_now","_law_rows","_law_middle","_law_end","_law_due","_law_row"] _ 1 = true; decide +kernel) (by intro _; rfl)) (de_lst (da_cons (dv 1) da_nil))) (dw_or1 (dt_ne hr.units (de_meth 4 T.K_House T.h_House_tick G_House_tick (hr.mono (by decide)) T.d_House_tick (dao_cons (dv 5) dao_nil)) (de_lst da_nil))))) (dss_one (ds_ret de_bl)) dss_nil) (dss_cons (ds_expr (de_meth 4 T.K_House T.h_House_put G_House_put (hr.mono (by decide)) T.d_House_put (dao_cons de_str (dao_cons (de_call G_anew (hr.mono (by decide)) T.m_anew T.u_anew.kp T.d_anew (da_cons (de_meth 4 T.K_House T.h_House_clock G_House_clock (hr.mono (by decide)) T.d_House_clock (dao_cons de_str dao_nil)) (da_cons (dv 5) da_nil))) dao_nil)))) (dss_cons (ds_if (dt_ne hr.units (de_call G_left_at (hr.mono (by decide)) T.m_left_at T.u_left_at.kp T.d_left_at (da_cons (de_meth 4 T.K_House T.h_House_clock G_House_clock (hr.mono (by decide)) T.d_House_clock (dao_cons de_str dao_nil)) (da_cons (dv 5) da_nil))) (dv 1)) (dss_one (ds_ret de_bl)) dss_nil) (dss_cons (ds_set 7 nd (de_addF (dv 5) (de_call G_law_drawn (hr.mono (by decide)) T.m_law_drawn T.u_law_drawn.kp T.d_law_drawn (da_cons (dv 0) (da_cons de_int (da_cons (dv 1) da_nil)))))) (dss_cons (ds_set 6 nd (de_addF (dv 6) (de_meth 4 T.K_House T.h_House_tick G_House_tick (hr.mono (by decide)) T.d_House_tick (dao_cons (dv 7) dao_nil)))) (dss_cons (ds_expr (de_meth 4 T.K_House T.h_House_put G_House_put (hr.mono (by decide)) T.d_House_put (dao_cons de_str (dao_cons (de_call G_longer (hr.mono (by decide)) T.m_longer T.u_longer.kp T.d_longer (da_cons (de_meth 4 T.K_House T.h_House_clock G_House_clock (hr.mono (by decide)) T.d_House_clock (dao_cons de_str dao_nil)) (da_cons (dv 2) (da_cons (dv 7) da_nil)))) dao_nil)))) (dss_cons (ds_set 8 nd (de_addF (de_addF (dv 5) (dv 1)) (dv 2))) (dss_cons (ds_set 6 nd (de_addF (dv 6) (de_meth 4 T.K_House T.h_House_tick G_House_tick (hr.mono (by decide)) T.d_House_tick (dao_cons (de_sub (dv 8) de_int) dao_nil)))) (dss_cons (ds_if (dt_ne hr.units (de_compK ["_law_script","_law_size","_law_by","_law_every","_law_house","_law_now","_law_rows","_law_middle","_law_end","_law_due","_law_row"] 1 rfl (di_seqF (dv 6)) (fun cl C ex s H=>⟨(dg_name 10 (show List.Nodup (α:=Str) ["_law_script","_law_size","_law_by","_law_every","_law_house","_law_now","_law_rows","_law_middle","_law_end","_law_due","_law_row"] by decide +kernel)),(dts_one (dt_eq (by exact hr.units) (de_ixF (dv 10) de_int) de_str)),(de_ixF (dv 10) de_int)⟩) (by show compOk ["_law_script","_law_size","_law_by","_law_every","_law_house","_law_now","_law_rows","_law_middle","_law_end","_law_due"] (defScope s_law) ["_law_script","_law_size","_law_by","_law_every","_law_house","_law_now","_law_rows","_law_middle","_law_end","_law_due","_law_row"] _ 1 = true; decide +kernel) (by intro _; rfl)) (de_lst (da_cons (dv 1) da_nil))) (dss_one (ds_ret de_bl)) dss_nil) (dss_cons (ds_if (dt_ne hr.units (de_compK ["_law_script","_law_size","_law_by","_law_every","_law_house","_law_now","_law_rows","_law_middle","_law_end","_law_due","_law_row"] 1 rfl (di_seqF (de_meth 4 T.K_House T.h_House_tick G_House_tick (hr.mono (by decide)) T.d_House_tick (dao_cons (dv 8) dao_nil))) (fun cl C ex s H=>⟨(dg_name 10 (show List.Nodup (α:=Str) ["_law_script","_law_size","_law_by","_law_every","_law_house","_law_now","_law_rows","_law_middle","_law_end","_law_due","_law_row"] by decide +kernel)),(dts_one (dt_eq (by exact hr.units) (de_ixF (dv 10) de_int) de_str)),(dv 10)⟩) (by show compOk ["_law_script","_law_size","_law_by","_law_every","_law_house","_law_now","_law_rows","_law_middle","_law_end","_law_due"] (defScope s_law) ["_law_script","_law_size","_law_by","_law_every","_law_house","_law_now","_law_rows","_law_middle","_law_end","_law_due","_law_row"] _ 1 = true; decide +kernel) (by intro _; rfl)) (de_lst (da_cons (de_tup (da_cons (dv 8) (da_cons de_str da_nil))) da_nil))) (dss_one (ds_ret de_bl)) dss_nil) (dss_cons (ds_if (dt_ne hr.units (de_compK ["_law_script","_law_size","_law_by","_law_every","_law_house","_law_now","_law_rows","_law_middle","_law_end","_law_due","_law_row"] 1 rfl (di_seqF (dv 6)) (fun cl C ex s H=>⟨(dg_name 10 (show List.Nodup (α:=Str) ["_law_script","_law_size","_law_by","_law_every","_law_house","_law_now","_law_rows","_law_middle","_law_end","_law_due","_law_row"] by decide +kernel)),(dts_one (dt_eq (by exact hr.units) (de_ixF (dv 10) de_int) de_str)),(de_ixF (dv 10) de_int)⟩) (by show compOk ["_law_script","_law_size","_law_by","_law_every","_law_house","_law_now","_law_rows","_law_middle","_law_end","_law_due"] (defScope s_law) ["_law_script","_law_size","_law_by","_law_every","_law_house","_law_now","_law_rows","_law_middle","_law_end","_law_due","_law_row"] _ 1 = true; decide +kernel) (by intro _; rfl)) (de_call G_rings (hr.mono (by decide)) T.m_rings T.u_rings.kp T.d_rings (da_cons (dv 3) (da_cons de_int (da_cons (de_sub (dv 8) de_int) da_nil))))) (dss_one (ds_ret de_bl)) dss_nil) (dss_cons (ds_expr (de_meth 4 T.K_House T.h_House_put G_House_put (hr.mono (by decide)) T.d_House_put (dao_cons de_str (dao_cons (de_call G_stopped (hr.mono (by decide)) T.m_stopped T.u_stopped.kp T.d_stopped (da_cons (de_call G_anew (hr.mono (by decide)) T.m_anew T.u_anew.kp T.d_anew (da_cons (de_meth 4 T.K_House T.h_House_clock G_House_clock (hr.mono (by decide)) T.d_House_clock (dao_cons de_str dao_nil)) (da_cons (dv 8) da_nil))) (da_cons (dv 8) da_nil))) dao_nil)))) (dss_cons (ds_expr (de_meth 4 T.K_House T.h_House_drop G_House_drop (hr.mono (by decide)) T.d_House_drop (dao_cons de_str dao_nil))) (dss_cons (ds_if (dt_w (dw_or (dt_isnot (de_meth0 4 T.K_House T.h_House_next_due G_House_next_due (hr.mono (by decide)) T.d_House_next_due) de_non) (dw_or1 (dt_ne hr.units (de_meth 4 T.K_House T.h_House_tick G_House_tick (hr.mono (by decide)) T.d_House_tick (dao_cons (de_addF (dv 8) de_int) dao_nil)) (de_lst da_nil))))) (dss_one (ds_ret de_bl)) dss_nil) (dss_cons (ds_expr (de_meth 4 T.K_House T.h_House_put G_House_put (hr.mono (by decide)) T.d_House_put (dao_cons de_str (dao_cons (de_tup (da_cons de_str (da_cons (de_addF (dv 8) de_int) (da_cons de_int (da_cons de_int da_nil))))) dao_nil)))) (dss_cons (ds_expr (de_meth 4 T.K_House T.h_House_put G_House_put (hr.mono (by decide)) T.d_House_put (dao_cons de_str (dao_cons (de_call G_begun (hr.mono (by decide)) T.m_begun T.u_begun.kp T.d_begun (da_cons (de_meth 4 T.K_House T.h_House_clock G_House_clock (hr.mono (by decide)) T.d_House_clock (dao_cons de_str dao_nil)) (da_cons (de_addF (dv 8) de_int) da_nil))) dao_nil)))) (dss_cons (ds_set 9 nd (de_sortedK T.b_sorted (da_cons (de_lst (da_cons (de_tup (da_cons (de_addF (dv 8) de_int) (da_cons de_str da_nil))) (da_cons (de_tup (da_cons (de_addF (de_addF (dv 8) de_int) (dv 1)) (da_cons de_str da_nil))) da_nil))) da_nil))) (dss_one (ds_ret (de_eq hr.units (de_meth 4 T.K_House T.h_House_tick G_House_tick (hr.mono (by decide)) T.d_House_tick (dao_cons (de_addF (dv 8) de_int) dao_nil)) (dv 9)))))))))))))))))))))))))))))
theorem ok_all (T:Tx K mg t) :FnOk P w K mg base CX0 6 t.a_law t.g_law ["_law_script"] (spOf K S_law):=by
  have G_law_cell:=ok_law_cell (P:=P) (w:=w) (base:=base) T
  have G_law_drawn:=ok_law_drawn (P:=P) (w:=w) (base:=base) T G_law_cell
  have G_House_init:=ok_House_init (P:=P) (w:=w) (base:=base) T
  have G_House_refuse_asleep:=ok_House_refuse_asleep (P:=P) (w:=w) (base:=base) T
  have G_House_put:=ok_House_put (P:=P) (w:=w) (base:=base) T G_House_refuse_asleep
  have G_refuse_early:=ok_refuse_early (P:=P) (w:=w) (base:=base) T
  have G_begun:=ok_begun (P:=P) (w:=w) (base:=base) T G_refuse_early
  have G_timer:=ok_timer (P:=P) (w:=w) (base:=base) T
  have G_next_of_timer:=ok_next_of_timer (P:=P) (w:=w) (base:=base) T
  have G_rung_of_every:=ok_rung_of_every (P:=P) (w:=w) (base:=base) T
  have G_next_of_every:=ok_next_of_every (P:=P) (w:=w) (base:=base) T G_rung_of_every
  have G_next_ring:=ok_next_ring (P:=P) (w:=w) (base:=base) T G_next_of_timer G_next_of_every
  have G_rung_by:=ok_rung_by (P:=P) (w:=w) (base:=base) T G_rung_of_every
  have G_last_ring:=ok_last_ring (P:=P) (w:=w) (base:=base) T G_rung_by
  have G_rings:=ok_rings (P:=P) (w:=w) (base:=base) T G_next_ring G_last_ring
  have G_House_tick:=ok_House_tick (P:=P) (w:=w) (base:=base) T G_House_refuse_asleep G_refuse_early G_rings
  have G_now_if_running:=ok_now_if_running (P:=P) (w:=w) (base:=base) T
  have G_anew:=ok_anew (P:=P) (w:=w) (base:=base) T G_refuse_early G_now_if_running
  have G_House_refuse_unknown:=ok_House_refuse_unknown (P:=P) (w:=w) (base:=base) T
  have G_House_clock:=ok_House_clock (P:=P) (w:=w) (base:=base) T G_House_refuse_unknown
  have G_left_at:=ok_left_at (P:=P) (w:=w) (base:=base) T G_refuse_early
  have G_longer:=ok_longer (P:=P) (w:=w) (base:=base) T G_left_at G_now_if_running
  have G_stopped:=ok_stopped (P:=P) (w:=w) (base:=base) T G_left_at
  have G_House_drop:=ok_House_drop (P:=P) (w:=w) (base:=base) T G_House_refuse_asleep G_House_refuse_unknown
  have G_House_next_due:=ok_House_next_due (P:=P) (w:=w) (base:=base) T G_next_ring
  exact ok_law T G_law_drawn G_House_init G_House_put G_begun G_timer G_House_tick G_anew G_House_clock G_left_at G_longer G_rings G_stopped G_House_drop G_House_next_due
end
theorem tx_mk {K:PySem.W.Frag} {h:Heap} {mg:Str→Option Value} (X:K.In h) (G:h.Ns mainGlobals mg) {C0:Addr} {f0:Addr} {od0 an0:Option Addr} {sl0:Array (Option Value)} {oc0 kV0 dc0 pm0 cd0 ct0:Value} {f1:Addr} {od1 an1:Option Addr} {sl1:Array (Option Value)} {oc1 kV1 dc1 pm1 cd1 ct1:Value} {f2:Addr} {od2 an2:Option Addr} {sl2:Array (Option Value)} {oc2 kV2 dc2 pm2 cd2 ct2:Value} {f3:Addr} {od3 an3:Option Addr} {sl3:Array (Option Value)} {oc3 kV3 dc3 pm3 cd3 ct3:Value} {f4:Addr} {od4 an4:Option Addr} {sl4:Array (Option Value)} {oc4 kV4 dc4 pm4 cd4 ct4:Value} {f5:Addr} {od5 an5:Option Addr} {sl5:Array (Option Value)} {oc5 kV5 dc5 pm5 cd5 ct5:Value} {f6:Addr} {od6 an6:Option Addr} {sl6:Array (Option Value)} {oc6 kV6 dc6 pm6 cd6 ct6:Value} {f7:Addr} {od7 an7:Option Addr} {sl7:Array (Option Value)} {oc7 kV7 dc7 pm7 cd7 ct7:Value} {f8:Addr} {od8 an8:Option Addr} {sl8:Array (Option Value)} {oc8 kV8 dc8 pm8 cd8 ct8:Value} {f9:Addr} {od9 an9:Option Addr} {sl9:Array (Option Value)} {oc9 kV9 dc9 pm9 cd9 ct9:Value} {f10:Addr} {od10 an10:Option Addr} {sl10:Array (Option Value)} {oc10 kV10 dc10 pm10 cd10 ct10:Value} {f11:Addr} {od11 an11:Option Addr} {sl11:Array (Option Value)} {oc11 kV11 dc11 pm11 cd11 ct11:Value} {f12:Addr} {od12 an12:Option Addr} {sl12:Array (Option Value)} {oc12 kV12 dc12 pm12 cd12 ct12:Value} {f13:Addr} {od13 an13:Option Addr} {sl13:Array (Option Value)} {oc13 kV13 dc13 pm13 cd13 ct13:Value} {f14:Addr} {od14 an14:Option Addr} {sl14:Array (Option Value)} {oc14 kV14 dc14 pm14 cd14 ct14:Value} {f15:Addr} {od15 an15:Option Addr} {sl15:Array (Option Value)} {oc15 kV15 dc15 pm15 cd15 ct15:Value} {f16:Addr} {od16 an16:Option Addr} {sl16:Array (Option Value)} {oc16 kV16 dc16 pm16 cd16 ct16:Value} {f17:Addr} {od17 an17:Option Addr} {sl17:Array (Option Value)} {oc17 kV17 dc17 pm17 cd17 ct17:Value} {f18:Addr} {od18 an18:Option Addr} {sl18:Array (Option Value)} {oc18 kV18 dc18 pm18 cd18 ct18:Value} {f19:Addr} {od19 an19:Option Addr} {sl19:Array (Option Value)} {oc19 kV19 dc19 pm19 cd19 ct19:Value} {f20:Addr} {od20 an20:Option Addr} {sl20:Array (Option Value)} {oc20 kV20 dc20 pm20 cd20 ct20:Value} {f21:Addr} {od21 an21:Option Addr} {sl21:Array (Option Value)} {oc21 kV21 dc21 pm21 cd21 ct21:Value} {f22:Addr} {od22 an22:Option Addr} {sl22:Array (Option Value)} {oc22 kV22 dc22 pm22 cd22 ct22:Value} {f23:Addr} {od23 an23:Option Addr} {sl23:Array (Option Value)} {oc23 kV23 dc23 pm23 cd23 ct23:Value} {f24:Addr} {od24 an24:Option Addr} {sl24:Array (Option Value)} {oc24 kV24 dc24 pm24 cd24 ct24:Value} {f25:Addr} {od25 an25:Option Addr} {sl25:Array (Option Value)} {oc25 kV25 dc25 pm25 cd25 ct25:Value}
    (aC0:PySem.W.nsIn K mainGlobals "House" = some (some (.ref C0))) (pg0:PySem.W.plainGet K C0 Str.empty = true) (hd0:PySem.W.hasDictIn K C0 = true) (po0:PySem.W.plainOver K C0 = true) (sa0:PySem.W.findIn K (.ref C0) "__setattr__" = some (some (.builtin "object.__setattr__"))) (mk0:PySem.W.makesIn K C0 = true) (kc0:PySem.W.keepIn K (.ref C0) = true) (n0x0:PySem.W.findIn K (.ref C0) "asleep" = some none) (n0x1:PySem.W.findIn K (.ref C0) "clocks" = some none) (n0x2:PySem.W.findIn K (.ref C0) "reached" = some none) (a0:PySem.W.nsIn K mainGlobals "_law_cell" = some (some (.ref f0))) (l0:K.lookup f0 = some ⟨oc0,od0,.func (PySem.W.fnOf "_law_cell" "_law_cell" (defArgs s_law_cell) (defBody s_law_cell) (defScope s_law_cell) .none kV0 dc0 pm0 an0 cd0 ct0),sl0⟩) (c0:PySem.W.codeIn K cd0 "_law_cell" = true) (k0:PySem.W.keepIn K (.ref f0) = true) (a1:PySem.W.nsIn K mainGlobals "_law_drawn" = some (some (.ref f1))) (l1:K.lookup f1 = some ⟨oc1,od1,.func (PySem.W.fnOf "_law_drawn" "_law_drawn" (defArgs s_law_drawn) (defBody s_law_drawn) (defScope s_law_drawn) .none kV1 dc1 pm1 an1 cd1 ct1),sl1⟩) (c1:PySem.W.codeIn K cd1 "_law_drawn" = true) (k1:PySem.W.keepIn K (.ref f1) = true) (a2:PySem.W.findIn K (.ref C0) "__init__" = some (some (.ref f2))) (i2:PySem.W.isFn K (.ref f2) = true) (l2:K.lookup f2 = some ⟨oc2,od2,.func (PySem.W.fnOf "__init__" "House.__init__" (defArgs s_House_init) (defBody s_House_init) (defScope s_House_init) .none kV2 dc2 pm2 an2 cd2 ct2),sl2⟩) (c2:PySem.W.codeIn K cd2 "House.__init__" = true) (k2:PySem.W.keepIn K (.ref f2) = true) (a3:PySem.W.findIn K (.ref C0) "refuse_asleep" = some (some (.ref f3))) (i3:PySem.W.isFn K (.ref f3) = true) (l3:K.lookup f3 = some ⟨oc3,od3,.func (PySem.W.fnOf "refuse_asleep" "House.refuse_asleep" (defArgs s_House_refuse_asleep) (defBody s_House_refuse_asleep) (defScope s_House_refuse_asleep) .none kV3 dc3 pm3 an3 cd3 ct3),sl3⟩) (c3:PySem.W.codeIn K cd3 "House.refuse_asleep" = true) (k3:PySem.W.keepIn K (.ref f3) = true) (a4:PySem.W.findIn K (.ref C0) "put" = some (some (.ref f4))) (i4:PySem.W.isFn K (.ref f4) = true) (l4:K.lookup f4 = some ⟨oc4,od4,.func (PySem.W.fnOf "put" "House.put" (defArgs s_House_put) (defBody s_House_put) (defScope s_House_put) .none kV4 dc4 pm4 an4 cd4 ct4),sl4⟩) (c4:PySem.W.codeIn K cd4 "House.put" = true) (k4:PySem.W.keepIn K (.ref f4) = true) (a5:PySem.W.nsIn K mainGlobals "refuse_early" = some (some (.ref f5))) (l5:K.lookup f5 = some ⟨oc5,od5,.func (PySem.W.fnOf "refuse_early" "refuse_early" (defArgs s_refuse_early) (defBody s_refuse_early) (defScope s_refuse_early) .none kV5 dc5 pm5 an5 cd5 ct5),sl5⟩) (c5:PySem.W.codeIn K cd5 "refuse_early" = true) (k5:PySem.W.keepIn K (.ref f5) = true) (a6:PySem.W.nsIn K mainGlobals "begun" = some (some (.ref f6))) (l6:K.lookup f6 = some ⟨oc6,od6,.func (PySem.W.fnOf "begun" "begun" (defArgs s_begun) (defBody s_begun) (defScope s_begun) .none kV6 dc6 pm6 an6 cd6 ct6),sl6⟩) (c6:PySem.W.codeIn K cd6 "begun" = true) (k6:PySem.W.keepIn K (.ref f6) = true) (a7:PySem.W.nsIn K mainGlobals "timer" = some (some (.ref f7))) (l7:K.lookup f7 = some ⟨oc7,od7,.func (PySem.W.fnOf "timer" "timer" (defArgs s_timer) (defBody s_timer) (defScope s_timer) .none kV7 dc7 pm7 an7 cd7 ct7),sl7⟩) (c7:PySem.W.codeIn K cd7 "timer" = true) (k7:PySem.W.keepIn K (.ref f7) = true) (a8:PySem.W.nsIn K mainGlobals "next_of_timer" = some (some (.ref f8))) (l8:K.lookup f8 = some ⟨oc8,od8,.func (PySem.W.fnOf "next_of_timer" "next_of_timer" (defArgs s_next_of_timer) (defBody s_next_of_timer) (defScope s_next_of_timer) .none kV8 dc8 pm8 an8 cd8 ct8),sl8⟩) (c8:PySem.W.codeIn K cd8 "next_of_timer" = true) (k8:PySem.W.keepIn K (.ref f8) = true) (a9:PySem.W.nsIn K mainGlobals "rung_of_every" = some (some (.ref f9))) (l9:K.lookup f9 = some ⟨oc9,od9,.func (PySem.W.fnOf "rung_of_every" "rung_of_every" (defArgs s_rung_of_every) (defBody s_rung_of_every) (defScope s_rung_of_every) .none kV9 dc9 pm9 an9 cd9 ct9),sl9⟩) (c9:PySem.W.codeIn K cd9 "rung_of_every" = true) (k9:PySem.W.keepIn K (.ref f9) = true) (a10:PySem.W.nsIn K mainGlobals "next_of_every" = some (some (.ref f10))) (l10:K.lookup f10 = some ⟨oc10,od10,.func (PySem.W.fnOf "next_of_every" "next_of_every" (defArgs s_next_of_every) (defBody s_next_of_every) (defScope s_next_of_every) .none kV10 dc10 pm10 an10 cd10 ct10),sl10⟩) (c10:PySem.W.codeIn K cd10 "next_of_every" = true) (k10:PySem.W.keepIn K (.ref f10) = true) (a11:PySem.W.nsIn K mainGlobals "next_ring" = some (some (.ref f11))) (l11:K.lookup f11 = some ⟨oc11,od11,.func (PySem.W.fnOf "next_ring" "next_ring" (defArgs s_next_ring) (defBody s_next_ring) (defScope s_next_ring) .none kV11 dc11 pm11 an11 cd11 ct11),sl11⟩) (c11:PySem.W.codeIn K cd11 "next_ring" = true) (k11:PySem.W.keepIn K (.ref f11) = true) (a12:PySem.W.nsIn K mainGlobals "rung_by" = some (some (.ref f12))) (l12:K.lookup f12 = some ⟨oc12,od12,.func (PySem.W.fnOf "rung_by" "rung_by" (defArgs s_rung_by) (defBody s_rung_by) (defScope s_rung_by) .none kV12 dc12 pm12 an12 cd12 ct12),sl12⟩) (c12:PySem.W.codeIn K cd12 "rung_by" = true) (k12:PySem.W.keepIn K (.ref f12) = true) (a13:PySem.W.nsIn K mainGlobals "last_ring" = some (some (.ref f13))) (l13:K.lookup f13 = some ⟨oc13,od13,.func (PySem.W.fnOf "last_ring" "last_ring" (defArgs s_last_ring) (defBody s_last_ring) (defScope s_last_ring) .none kV13 dc13 pm13 an13 cd13 ct13),sl13⟩) (c13:PySem.W.codeIn K cd13 "last_ring" = true) (k13:PySem.W.keepIn K (.ref f13) = true) (a14:PySem.W.nsIn K mainGlobals "rings" = some (some (.ref f14))) (l14:K.lookup f14 = some ⟨oc14,od14,.func (PySem.W.fnOf "rings" "rings" (defArgs s_rings) (defBody s_rings) (defScope s_rings) .none kV14 dc14 pm14 an14 cd14 ct14),sl14⟩) (c14:PySem.W.codeIn K cd14 "rings" = true) (k14:PySem.W.keepIn K (.ref f14) = true) (a15:PySem.W.findIn K (.ref C0) "tick" = some (some (.ref f15))) (i15:PySem.W.isFn K (.ref f15) = true) (l15:K.lookup f15 = some ⟨oc15,od15,.func (PySem.W.fnOf "tick" "House.tick" (defArgs s_House_tick) (defBody s_House_tick) (defScope s_House_tick) .none kV15 dc15 pm15 an15 cd15 ct15),sl15⟩) (c15:PySem.W.codeIn K cd15 "House.tick" = true) (k15:PySem.W.keepIn K (.ref f15) = true) (a16:PySem.W.nsIn K mainGlobals "now_if_running" = some (some (.ref f16))) (l16:K.lookup f16 = some ⟨oc16,od16,.func (PySem.W.fnOf "now_if_running" "now_if_running" (defArgs s_now_if_running) (defBody s_now_if_running) (defScope s_now_if_running) .none kV16 dc16 pm16 an16 cd16 ct16),sl16⟩) (c16:PySem.W.codeIn K cd16 "now_if_running" = true) (k16:PySem.W.keepIn K (.ref f16) = true) (a17:PySem.W.nsIn K mainGlobals "anew" = some (some (.ref f17))) (l17:K.lookup f17 = some ⟨oc17,od17,.func (PySem.W.fnOf "anew" "anew" (defArgs s_anew) (defBody s_anew) (defScope s_anew) .none kV17 dc17 pm17 an17 cd17 ct17),sl17⟩) (c17:PySem.W.codeIn K cd17 "anew" = true) (k17:PySem.W.keepIn K (.ref f17) = true) (a18:PySem.W.findIn K (.ref C0) "refuse_unknown" = some (some (.ref f18))) (i18:PySem.W.isFn K (.ref f18) = true) (l18:K.lookup f18 = some ⟨oc18,od18,.func (PySem.W.fnOf "refuse_unknown" "House.refuse_unknown" (defArgs s_House_refuse_unknown) (defBody s_House_refuse_unknown) (defScope s_House_refuse_unknown) .none kV18 dc18 pm18 an18 cd18 ct18),sl18⟩) (c18:PySem.W.codeIn K cd18 "House.refuse_unknown" = true) (k18:PySem.W.keepIn K (.ref f18) = true) (a19:PySem.W.findIn K (.ref C0) "clock" = some (some (.ref f19))) (i19:PySem.W.isFn K (.ref f19) = true) (l19:K.lookup f19 = some ⟨oc19,od19,.func (PySem.W.fnOf "clock" "House.clock" (defArgs s_House_clock) (defBody s_House_clock) (defScope s_House_clock) .none kV19 dc19 pm19 an19 cd19 ct19),sl19⟩) (c19:PySem.W.codeIn K cd19 "House.clock" = true) (k19:PySem.W.keepIn K (.ref f19) = true) (a20:PySem.W.nsIn K mainGlobals "left_at" = some (some (.ref f20))) (l20:K.lookup f20 = some ⟨oc20,od20,.func (PySem.W.fnOf "left_at" "left_at" (defArgs s_left_at) (defBody s_left_at) (defScope s_left_at) .none kV20 dc20 pm20 an20 cd20 ct20),sl20⟩) (c20:PySem.W.codeIn K cd20 "left_at" = true) (k20:PySem.W.keepIn K (.ref f20) = true) (a21:PySem.W.nsIn K mainGlobals "longer" = some (some (.ref f21))) (l21:K.lookup f21 = some ⟨oc21,od21,.func (PySem.W.fnOf "longer" "longer" (defArgs s_longer) (defBody s_longer) (defScope s_longer) .none kV21 dc21 pm21 an21 cd21 ct21),sl21⟩) (c21:PySem.W.codeIn K cd21 "longer" = true) (k21:PySem.W.keepIn K (.ref f21) = true) (a22:PySem.W.nsIn K mainGlobals "stopped" = some (some (.ref f22))) (l22:K.lookup f22 = some ⟨oc22,od22,.func (PySem.W.fnOf "stopped" "stopped" (defArgs s_stopped) (defBody s_stopped) (defScope s_stopped) .none kV22 dc22 pm22 an22 cd22 ct22),sl22⟩) (c22:PySem.W.codeIn K cd22 "stopped" = true) (k22:PySem.W.keepIn K (.ref f22) = true) (a23:PySem.W.findIn K (.ref C0) "drop" = some (some (.ref f23))) (i23:PySem.W.isFn K (.ref f23) = true) (l23:K.lookup f23 = some ⟨oc23,od23,.func (PySem.W.fnOf "drop" "House.drop" (defArgs s_House_drop) (defBody s_House_drop) (defScope s_House_drop) .none kV23 dc23 pm23 an23 cd23 ct23),sl23⟩) (c23:PySem.W.codeIn K cd23 "House.drop" = true) (k23:PySem.W.keepIn K (.ref f23) = true) (a24:PySem.W.findIn K (.ref C0) "next_due" = some (some (.ref f24))) (i24:PySem.W.isFn K (.ref f24) = true) (l24:K.lookup f24 = some ⟨oc24,od24,.func (PySem.W.fnOf "next_due" "House.next_due" (defArgs s_House_next_due) (defBody s_House_next_due) (defScope s_House_next_due) .none kV24 dc24 pm24 an24 cd24 ct24),sl24⟩) (c24:PySem.W.codeIn K cd24 "House.next_due" = true) (k24:PySem.W.keepIn K (.ref f24) = true) (a25:PySem.W.nsIn K mainGlobals "law" = some (some (.ref f25))) (l25:K.lookup f25 = some ⟨oc25,od25,.func (PySem.W.fnOf "law" "law" (defArgs s_law) (defBody s_law) (defScope s_law) .none kV25 dc25 pm25 an25 cd25 ct25),sl25⟩) (c25:PySem.W.codeIn K cd25 "law" = true) (k25:PySem.W.keepIn K (.ref f25) = true) (z0:PySem.W.nsIn K mainGlobals "len" = some none) (z1:PySem.W.nsIn K mainGlobals "list" = some none) (z2:PySem.W.nsIn K mainGlobals "max" = some none) (z3:PySem.W.nsIn K mainGlobals "min" = some none) (z4:PySem.W.nsIn K mainGlobals "range" = some none) (z5:PySem.W.nsIn K mainGlobals "sorted" = some none) :
    ∃ t:Ad,Tx K mg t∧t.a_law = f25∧t.g_law = PySem.W.fnOf "law" "law" (defArgs s_law) (defBody s_law) (defScope s_law) .none kV25 dc25 pm25 an25 cd25 ct25:=by
  have F0:=fun_mk (st:=s_law_cell) l0 c0 k0
  have F1:=fun_mk (st:=s_law_drawn) l1 c1 k1
  have F2:=fun_mk (st:=s_House_init) l2 c2 k2
  have F3:=fun_mk (st:=s_House_refuse_asleep) l3 c3 k3
  have F4:=fun_mk (st:=s_House_put) l4 c4 k4
  have F5:=fun_mk (st:=s_refuse_early) l5 c5 k5
  have F6:=fun_mk (st:=s_begun) l6 c6 k6
  have F7:=fun_mk (st:=s_timer) l7 c7 k7
  have F8:=fun_mk (st:=s_next_of_timer) l8 c8 k8
  have F9:=fun_mk (st:=s_rung_of_every) l9 c9 k9
  have F10:=fun_mk (st:=s_next_of_every) l10 c10 k10
  have F11:=fun_mk (st:=s_next_ring) l11 c11 k11
  have F12:=fun_mk (st:=s_rung_by) l12 c12 k12
  have F13:=fun_mk (st:=s_last_ring) l13 c13 k13
  have F14:=fun_mk (st:=s_rings) l14 c14 k14
  have F15:=fun_mk (st:=s_House_tick) l15 c15 k15
  have F16:=fun_mk (st:=s_now_if_running) l16 c16 k16
  have F17:=fun_mk (st:=s_anew) l17 c17 k17
  have F18:=fun_mk (st:=s_House_refuse_unknown) l18 c18 k18
  have F19:=fun_mk (st:=s_House_clock) l19 c19 k19
  have F20:=fun_mk (st:=s_left_at) l20 c20 k20
  have F21:=fun_mk (st:=s_longer) l21 c21 k21
  have F22:=fun_mk (st:=s_stopped) l22 c22 k22
  have F23:=fun_mk (st:=s_House_drop) l23 c23 k23
  have F24:=fun_mk (st:=s_House_next_due) l24 c24 k24
  have F25:=fun_mk (st:=s_law) l25 c25 k25
  exact ⟨⟨f0,_,f1,_,f2,_,f3,_,f4,_,f5,_,f6,_,f7,_,f8,_,f9,_,f10,_,f11,_,f12,_,f13,_,f14,_,f15,_,f16,_,f17,_,f18,_,f19,_,f20,_,f21,_,f22,_,f23,_,f24,_,f25,_,C0⟩,⟨F0,F0.binds (ps:=["_law_script","_law_k"]) (fun _ _ _ _ _ _=>us2 (fun _ _=>rfl)),PySem.W.mg_of X G a0,F1,F1.binds (ps:=["_law_script","_law_k","_law_many"]) (fun _ _ _ _ _ _=>us3 (fun _ _ _=>rfl)),PySem.W.mg_of X G a1,F2,F2.binds (ps:=["self","now"]) (fun _ _ _ _ _ _=>us2 (fun _ _=>rfl)),⟨a2,i2,k2⟩,F3,F3.binds (ps:=["self"]) (fun _ _ _ _ _ _=>us1 (fun _=>rfl)),⟨a3,i3,k3⟩,F4,F4.binds (ps:=["self","name","clock"]) (fun _ _ _ _ _ _=>us3 (fun _ _ _=>rfl)),⟨a4,i4,k4⟩,F5,F5.binds (ps:=["earlier","now"]) (fun _ _ _ _ _ _=>us2 (fun _ _=>rfl)),PySem.W.mg_of X G a5,F6,F6.binds (ps:=["clock","now"]) (fun _ _ _ _ _ _=>us2 (fun _ _=>rfl)),PySem.W.mg_of X G a6,F7,F7.binds (ps:=["size"]) (fun _ _ _ _ _ _=>us1 (fun _=>rfl)),PySem.W.mg_of X G a7,F8,F8.binds (ps:=["clock","now"]) (fun _ _ _ _ _ _=>us2 (fun _ _=>rfl)),PySem.W.mg_of X G a8,F9,F9.binds (ps:=["clock","moment"]) (fun _ _ _ _ _ _=>us2 (fun _ _=>rfl)),PySem.W.mg_of X G a9,F10,F10.binds (ps:=["clock","now"]) (fun _ _ _ _ _ _=>us2 (fun _ _=>rfl)),PySem.W.mg_of X G a10,F11,F11.binds (ps:=["clock","now"]) (fun _ _ _ _ _ _=>us2 (fun _ _=>rfl)),PySem.W.mg_of X G a11,F12,F12.binds (ps:=["clock","moment"]) (fun _ _ _ _ _ _=>us2 (fun _ _=>rfl)),PySem.W.mg_of X G a12,F13,F13.binds (ps:=["clock","now"]) (fun _ _ _ _ _ _=>us2 (fun _ _=>rfl)),PySem.W.mg_of X G a13,F14,F14.binds (ps:=["clock","start","end"]) (fun _ _ _ _ _ _=>us3 (fun _ _ _=>rfl)),PySem.W.mg_of X G a14,F15,F15.binds (ps:=["self","now"]) (fun _ _ _ _ _ _=>us2 (fun _ _=>rfl)),⟨a15,i15,k15⟩,F16,F16.binds (ps:=["clock","now"]) (fun _ _ _ _ _ _=>us2 (fun _ _=>rfl)),PySem.W.mg_of X G a16,F17,F17.binds (ps:=["clock","now"]) (fun _ _ _ _ _ _=>us2 (fun _ _=>rfl)),PySem.W.mg_of X G a17,F18,F18.binds (ps:=["self","name"]) (fun _ _ _ _ _ _=>us2 (fun _ _=>rfl)),⟨a18,i18,k18⟩,F19,F19.binds (ps:=["self","name"]) (fun _ _ _ _ _ _=>us2 (fun _ _=>rfl)),⟨a19,i19,k19⟩,F20,F20.binds (ps:=["clock","now"]) (fun _ _ _ _ _ _=>us2 (fun _ _=>rfl)),PySem.W.mg_of X G a20,F21,F21.binds (ps:=["clock","by","now"]) (fun _ _ _ _ _ _=>us3 (fun _ _ _=>rfl)),PySem.W.mg_of X G a21,F22,F22.binds (ps:=["clock","now"]) (fun _ _ _ _ _ _=>us2 (fun _ _=>rfl)),PySem.W.mg_of X G a22,F23,F23.binds (ps:=["self","name"]) (fun _ _ _ _ _ _=>us2 (fun _ _=>rfl)),⟨a23,i23,k23⟩,F24,F24.binds (ps:=["self"]) (fun _ _ _ _ _ _=>us1 (fun _=>rfl)),⟨a24,i24,k24⟩,F25,F25.binds (ps:=["_law_script"]) (fun _ _ _ _ _ _=>us1 (fun _=>rfl)),PySem.W.mg_of X G a25,PySem.W.mg_none_of X G z0,PySem.W.mg_none_of X G z1,PySem.W.mg_none_of X G z2,PySem.W.mg_none_of X G z3,PySem.W.mg_none_of X G z4,PySem.W.mg_none_of X G z5,⟨pg0,hd0,po0,sa0⟩,n0x0,n0x1,n0x2,⟨mk0,a2,i2,kc0⟩,PySem.W.mg_of X G aC0⟩,rfl,rfl⟩
theorem law_mk {l:PySem.W.OpenLaw} {w:World} {K:PySem.W.Frag} {h:Heap} {mg:Str→Option Value} {fa:Addr} (X:K.In h) (G:h.Ns mainGlobals mg) (hfa:mg "law" = some (.ref fa)) {C0:Addr} {f0:Addr} {od0 an0:Option Addr} {sl0:Array (Option Value)} {oc0 kV0 dc0 pm0 cd0 ct0:Value} {f1:Addr} {od1 an1:Option Addr} {sl1:Array (Option Value)} {oc1 kV1 dc1 pm1 cd1 ct1:Value} {f2:Addr} {od2 an2:Option Addr} {sl2:Array (Option Value)} {oc2 kV2 dc2 pm2 cd2 ct2:Value} {f3:Addr} {od3 an3:Option Addr} {sl3:Array (Option Value)} {oc3 kV3 dc3 pm3 cd3 ct3:Value} {f4:Addr} {od4 an4:Option Addr} {sl4:Array (Option Value)} {oc4 kV4 dc4 pm4 cd4 ct4:Value} {f5:Addr} {od5 an5:Option Addr} {sl5:Array (Option Value)} {oc5 kV5 dc5 pm5 cd5 ct5:Value} {f6:Addr} {od6 an6:Option Addr} {sl6:Array (Option Value)} {oc6 kV6 dc6 pm6 cd6 ct6:Value} {f7:Addr} {od7 an7:Option Addr} {sl7:Array (Option Value)} {oc7 kV7 dc7 pm7 cd7 ct7:Value} {f8:Addr} {od8 an8:Option Addr} {sl8:Array (Option Value)} {oc8 kV8 dc8 pm8 cd8 ct8:Value} {f9:Addr} {od9 an9:Option Addr} {sl9:Array (Option Value)} {oc9 kV9 dc9 pm9 cd9 ct9:Value} {f10:Addr} {od10 an10:Option Addr} {sl10:Array (Option Value)} {oc10 kV10 dc10 pm10 cd10 ct10:Value} {f11:Addr} {od11 an11:Option Addr} {sl11:Array (Option Value)} {oc11 kV11 dc11 pm11 cd11 ct11:Value} {f12:Addr} {od12 an12:Option Addr} {sl12:Array (Option Value)} {oc12 kV12 dc12 pm12 cd12 ct12:Value} {f13:Addr} {od13 an13:Option Addr} {sl13:Array (Option Value)} {oc13 kV13 dc13 pm13 cd13 ct13:Value} {f14:Addr} {od14 an14:Option Addr} {sl14:Array (Option Value)} {oc14 kV14 dc14 pm14 cd14 ct14:Value} {f15:Addr} {od15 an15:Option Addr} {sl15:Array (Option Value)} {oc15 kV15 dc15 pm15 cd15 ct15:Value} {f16:Addr} {od16 an16:Option Addr} {sl16:Array (Option Value)} {oc16 kV16 dc16 pm16 cd16 ct16:Value} {f17:Addr} {od17 an17:Option Addr} {sl17:Array (Option Value)} {oc17 kV17 dc17 pm17 cd17 ct17:Value} {f18:Addr} {od18 an18:Option Addr} {sl18:Array (Option Value)} {oc18 kV18 dc18 pm18 cd18 ct18:Value} {f19:Addr} {od19 an19:Option Addr} {sl19:Array (Option Value)} {oc19 kV19 dc19 pm19 cd19 ct19:Value} {f20:Addr} {od20 an20:Option Addr} {sl20:Array (Option Value)} {oc20 kV20 dc20 pm20 cd20 ct20:Value} {f21:Addr} {od21 an21:Option Addr} {sl21:Array (Option Value)} {oc21 kV21 dc21 pm21 cd21 ct21:Value} {f22:Addr} {od22 an22:Option Addr} {sl22:Array (Option Value)} {oc22 kV22 dc22 pm22 cd22 ct22:Value} {f23:Addr} {od23 an23:Option Addr} {sl23:Array (Option Value)} {oc23 kV23 dc23 pm23 cd23 ct23:Value} {f24:Addr} {od24 an24:Option Addr} {sl24:Array (Option Value)} {oc24 kV24 dc24 pm24 cd24 ct24:Value} {f25:Addr} {od25 an25:Option Addr} {sl25:Array (Option Value)} {oc25 kV25 dc25 pm25 cd25 ct25:Value}
    (aC0:PySem.W.nsIn K mainGlobals "House" = some (some (.ref C0))) (pg0:PySem.W.plainGet K C0 Str.empty = true) (hd0:PySem.W.hasDictIn K C0 = true) (po0:PySem.W.plainOver K C0 = true) (sa0:PySem.W.findIn K (.ref C0) "__setattr__" = some (some (.builtin "object.__setattr__"))) (mk0:PySem.W.makesIn K C0 = true) (kc0:PySem.W.keepIn K (.ref C0) = true) (n0x0:PySem.W.findIn K (.ref C0) "asleep" = some none) (n0x1:PySem.W.findIn K (.ref C0) "clocks" = some none) (n0x2:PySem.W.findIn K (.ref C0) "reached" = some none) (a0:PySem.W.nsIn K mainGlobals "_law_cell" = some (some (.ref f0))) (l0:K.lookup f0 = some ⟨oc0,od0,.func (PySem.W.fnOf "_law_cell" "_law_cell" (defArgs s_law_cell) (defBody s_law_cell) (defScope s_law_cell) .none kV0 dc0 pm0 an0 cd0 ct0),sl0⟩) (c0:PySem.W.codeIn K cd0 "_law_cell" = true) (k0:PySem.W.keepIn K (.ref f0) = true) (a1:PySem.W.nsIn K mainGlobals "_law_drawn" = some (some (.ref f1))) (l1:K.lookup f1 = some ⟨oc1,od1,.func (PySem.W.fnOf "_law_drawn" "_law_drawn" (defArgs s_law_drawn) (defBody s_law_drawn) (defScope s_law_drawn) .none kV1 dc1 pm1 an1 cd1 ct1),sl1⟩) (c1:PySem.W.codeIn K cd1 "_law_drawn" = true) (k1:PySem.W.keepIn K (.ref f1) = true) (a2:PySem.W.findIn K (.ref C0) "__init__" = some (some (.ref f2))) (i2:PySem.W.isFn K (.ref f2) = true) (l2:K.lookup f2 = some ⟨oc2,od2,.func (PySem.W.fnOf "__init__" "House.__init__" (defArgs s_House_init) (defBody s_House_init) (defScope s_House_init) .none kV2 dc2 pm2 an2 cd2 ct2),sl2⟩) (c2:PySem.W.codeIn K cd2 "House.__init__" = true) (k2:PySem.W.keepIn K (.ref f2) = true) (a3:PySem.W.findIn K (.ref C0) "refuse_asleep" = some (some (.ref f3))) (i3:PySem.W.isFn K (.ref f3) = true) (l3:K.lookup f3 = some ⟨oc3,od3,.func (PySem.W.fnOf "refuse_asleep" "House.refuse_asleep" (defArgs s_House_refuse_asleep) (defBody s_House_refuse_asleep) (defScope s_House_refuse_asleep) .none kV3 dc3 pm3 an3 cd3 ct3),sl3⟩) (c3:PySem.W.codeIn K cd3 "House.refuse_asleep" = true) (k3:PySem.W.keepIn K (.ref f3) = true) (a4:PySem.W.findIn K (.ref C0) "put" = some (some (.ref f4))) (i4:PySem.W.isFn K (.ref f4) = true) (l4:K.lookup f4 = some ⟨oc4,od4,.func (PySem.W.fnOf "put" "House.put" (defArgs s_House_put) (defBody s_House_put) (defScope s_House_put) .none kV4 dc4 pm4 an4 cd4 ct4),sl4⟩) (c4:PySem.W.codeIn K cd4 "House.put" = true) (k4:PySem.W.keepIn K (.ref f4) = true) (a5:PySem.W.nsIn K mainGlobals "refuse_early" = some (some (.ref f5))) (l5:K.lookup f5 = some ⟨oc5,od5,.func (PySem.W.fnOf "refuse_early" "refuse_early" (defArgs s_refuse_early) (defBody s_refuse_early) (defScope s_refuse_early) .none kV5 dc5 pm5 an5 cd5 ct5),sl5⟩) (c5:PySem.W.codeIn K cd5 "refuse_early" = true) (k5:PySem.W.keepIn K (.ref f5) = true) (a6:PySem.W.nsIn K mainGlobals "begun" = some (some (.ref f6))) (l6:K.lookup f6 = some ⟨oc6,od6,.func (PySem.W.fnOf "begun" "begun" (defArgs s_begun) (defBody s_begun) (defScope s_begun) .none kV6 dc6 pm6 an6 cd6 ct6),sl6⟩) (c6:PySem.W.codeIn K cd6 "begun" = true) (k6:PySem.W.keepIn K (.ref f6) = true) (a7:PySem.W.nsIn K mainGlobals "timer" = some (some (.ref f7))) (l7:K.lookup f7 = some ⟨oc7,od7,.func (PySem.W.fnOf "timer" "timer" (defArgs s_timer) (defBody s_timer) (defScope s_timer) .none kV7 dc7 pm7 an7 cd7 ct7),sl7⟩) (c7:PySem.W.codeIn K cd7 "timer" = true) (k7:PySem.W.keepIn K (.ref f7) = true) (a8:PySem.W.nsIn K mainGlobals "next_of_timer" = some (some (.ref f8))) (l8:K.lookup f8 = some ⟨oc8,od8,.func (PySem.W.fnOf "next_of_timer" "next_of_timer" (defArgs s_next_of_timer) (defBody s_next_of_timer) (defScope s_next_of_timer) .none kV8 dc8 pm8 an8 cd8 ct8),sl8⟩) (c8:PySem.W.codeIn K cd8 "next_of_timer" = true) (k8:PySem.W.keepIn K (.ref f8) = true) (a9:PySem.W.nsIn K mainGlobals "rung_of_every" = some (some (.ref f9))) (l9:K.lookup f9 = some ⟨oc9,od9,.func (PySem.W.fnOf "rung_of_every" "rung_of_every" (defArgs s_rung_of_every) (defBody s_rung_of_every) (defScope s_rung_of_every) .none kV9 dc9 pm9 an9 cd9 ct9),sl9⟩) (c9:PySem.W.codeIn K cd9 "rung_of_every" = true) (k9:PySem.W.keepIn K (.ref f9) = true) (a10:PySem.W.nsIn K mainGlobals "next_of_every" = some (some (.ref f10))) (l10:K.lookup f10 = some ⟨oc10,od10,.func (PySem.W.fnOf "next_of_every" "next_of_every" (defArgs s_next_of_every) (defBody s_next_of_every) (defScope s_next_of_every) .none kV10 dc10 pm10 an10 cd10 ct10),sl10⟩) (c10:PySem.W.codeIn K cd10 "next_of_every" = true) (k10:PySem.W.keepIn K (.ref f10) = true) (a11:PySem.W.nsIn K mainGlobals "next_ring" = some (some (.ref f11))) (l11:K.lookup f11 = some ⟨oc11,od11,.func (PySem.W.fnOf "next_ring" "next_ring" (defArgs s_next_ring) (defBody s_next_ring) (defScope s_next_ring) .none kV11 dc11 pm11 an11 cd11 ct11),sl11⟩) (c11:PySem.W.codeIn K cd11 "next_ring" = true) (k11:PySem.W.keepIn K (.ref f11) = true) (a12:PySem.W.nsIn K mainGlobals "rung_by" = some (some (.ref f12))) (l12:K.lookup f12 = some ⟨oc12,od12,.func (PySem.W.fnOf "rung_by" "rung_by" (defArgs s_rung_by) (defBody s_rung_by) (defScope s_rung_by) .none kV12 dc12 pm12 an12 cd12 ct12),sl12⟩) (c12:PySem.W.codeIn K cd12 "rung_by" = true) (k12:PySem.W.keepIn K (.ref f12) = true) (a13:PySem.W.nsIn K mainGlobals "last_ring" = some (some (.ref f13))) (l13:K.lookup f13 = some ⟨oc13,od13,.func (PySem.W.fnOf "last_ring" "last_ring" (defArgs s_last_ring) (defBody s_last_ring) (defScope s_last_ring) .none kV13 dc13 pm13 an13 cd13 ct13),sl13⟩) (c13:PySem.W.codeIn K cd13 "last_ring" = true) (k13:PySem.W.keepIn K (.ref f13) = true) (a14:PySem.W.nsIn K mainGlobals "rings" = some (some (.ref f14))) (l14:K.lookup f14 = some ⟨oc14,od14,.func (PySem.W.fnOf "rings" "rings" (defArgs s_rings) (defBody s_rings) (defScope s_rings) .none kV14 dc14 pm14 an14 cd14 ct14),sl14⟩) (c14:PySem.W.codeIn K cd14 "rings" = true) (k14:PySem.W.keepIn K (.ref f14) = true) (a15:PySem.W.findIn K (.ref C0) "tick" = some (some (.ref f15))) (i15:PySem.W.isFn K (.ref f15) = true) (l15:K.lookup f15 = some ⟨oc15,od15,.func (PySem.W.fnOf "tick" "House.tick" (defArgs s_House_tick) (defBody s_House_tick) (defScope s_House_tick) .none kV15 dc15 pm15 an15 cd15 ct15),sl15⟩) (c15:PySem.W.codeIn K cd15 "House.tick" = true) (k15:PySem.W.keepIn K (.ref f15) = true) (a16:PySem.W.nsIn K mainGlobals "now_if_running" = some (some (.ref f16))) (l16:K.lookup f16 = some ⟨oc16,od16,.func (PySem.W.fnOf "now_if_running" "now_if_running" (defArgs s_now_if_running) (defBody s_now_if_running) (defScope s_now_if_running) .none kV16 dc16 pm16 an16 cd16 ct16),sl16⟩) (c16:PySem.W.codeIn K cd16 "now_if_running" = true) (k16:PySem.W.keepIn K (.ref f16) = true) (a17:PySem.W.nsIn K mainGlobals "anew" = some (some (.ref f17))) (l17:K.lookup f17 = some ⟨oc17,od17,.func (PySem.W.fnOf "anew" "anew" (defArgs s_anew) (defBody s_anew) (defScope s_anew) .none kV17 dc17 pm17 an17 cd17 ct17),sl17⟩) (c17:PySem.W.codeIn K cd17 "anew" = true) (k17:PySem.W.keepIn K (.ref f17) = true) (a18:PySem.W.findIn K (.ref C0) "refuse_unknown" = some (some (.ref f18))) (i18:PySem.W.isFn K (.ref f18) = true) (l18:K.lookup f18 = some ⟨oc18,od18,.func (PySem.W.fnOf "refuse_unknown" "House.refuse_unknown" (defArgs s_House_refuse_unknown) (defBody s_House_refuse_unknown) (defScope s_House_refuse_unknown) .none kV18 dc18 pm18 an18 cd18 ct18),sl18⟩) (c18:PySem.W.codeIn K cd18 "House.refuse_unknown" = true) (k18:PySem.W.keepIn K (.ref f18) = true) (a19:PySem.W.findIn K (.ref C0) "clock" = some (some (.ref f19))) (i19:PySem.W.isFn K (.ref f19) = true) (l19:K.lookup f19 = some ⟨oc19,od19,.func (PySem.W.fnOf "clock" "House.clock" (defArgs s_House_clock) (defBody s_House_clock) (defScope s_House_clock) .none kV19 dc19 pm19 an19 cd19 ct19),sl19⟩) (c19:PySem.W.codeIn K cd19 "House.clock" = true) (k19:PySem.W.keepIn K (.ref f19) = true) (a20:PySem.W.nsIn K mainGlobals "left_at" = some (some (.ref f20))) (l20:K.lookup f20 = some ⟨oc20,od20,.func (PySem.W.fnOf "left_at" "left_at" (defArgs s_left_at) (defBody s_left_at) (defScope s_left_at) .none kV20 dc20 pm20 an20 cd20 ct20),sl20⟩) (c20:PySem.W.codeIn K cd20 "left_at" = true) (k20:PySem.W.keepIn K (.ref f20) = true) (a21:PySem.W.nsIn K mainGlobals "longer" = some (some (.ref f21))) (l21:K.lookup f21 = some ⟨oc21,od21,.func (PySem.W.fnOf "longer" "longer" (defArgs s_longer) (defBody s_longer) (defScope s_longer) .none kV21 dc21 pm21 an21 cd21 ct21),sl21⟩) (c21:PySem.W.codeIn K cd21 "longer" = true) (k21:PySem.W.keepIn K (.ref f21) = true) (a22:PySem.W.nsIn K mainGlobals "stopped" = some (some (.ref f22))) (l22:K.lookup f22 = some ⟨oc22,od22,.func (PySem.W.fnOf "stopped" "stopped" (defArgs s_stopped) (defBody s_stopped) (defScope s_stopped) .none kV22 dc22 pm22 an22 cd22 ct22),sl22⟩) (c22:PySem.W.codeIn K cd22 "stopped" = true) (k22:PySem.W.keepIn K (.ref f22) = true) (a23:PySem.W.findIn K (.ref C0) "drop" = some (some (.ref f23))) (i23:PySem.W.isFn K (.ref f23) = true) (l23:K.lookup f23 = some ⟨oc23,od23,.func (PySem.W.fnOf "drop" "House.drop" (defArgs s_House_drop) (defBody s_House_drop) (defScope s_House_drop) .none kV23 dc23 pm23 an23 cd23 ct23),sl23⟩) (c23:PySem.W.codeIn K cd23 "House.drop" = true) (k23:PySem.W.keepIn K (.ref f23) = true) (a24:PySem.W.findIn K (.ref C0) "next_due" = some (some (.ref f24))) (i24:PySem.W.isFn K (.ref f24) = true) (l24:K.lookup f24 = some ⟨oc24,od24,.func (PySem.W.fnOf "next_due" "House.next_due" (defArgs s_House_next_due) (defBody s_House_next_due) (defScope s_House_next_due) .none kV24 dc24 pm24 an24 cd24 ct24),sl24⟩) (c24:PySem.W.codeIn K cd24 "House.next_due" = true) (k24:PySem.W.keepIn K (.ref f24) = true) (a25:PySem.W.nsIn K mainGlobals "law" = some (some (.ref f25))) (l25:K.lookup f25 = some ⟨oc25,od25,.func (PySem.W.fnOf "law" "law" (defArgs s_law) (defBody s_law) (defScope s_law) .none kV25 dc25 pm25 an25 cd25 ct25),sl25⟩) (c25:PySem.W.codeIn K cd25 "law" = true) (k25:PySem.W.keepIn K (.ref f25) = true) (z0:PySem.W.nsIn K mainGlobals "len" = some none) (z1:PySem.W.nsIn K mainGlobals "list" = some none) (z2:PySem.W.nsIn K mainGlobals "max" = some none) (z3:PySem.W.nsIn K mainGlobals "min" = some none) (z4:PySem.W.nsIn K mainGlobals "range" = some none) (z5:PySem.W.nsIn K mainGlobals "sorted" = some none) :
    ∃ fd:FuncData,(∀ (s:Shared) (v:Value),BindsTo s fd ⟨[v],[]⟩ [("_law_script",v)])∧∀ base:Heap,K.In base→base.Ns mainGlobals mg→FnOk l.prog w K mg base CX0 6 fa fd ["_law_script"] (spOf K S_law):=by
  obtain ⟨t,T,e1,e2⟩:=tx_mk X G aC0 pg0 hd0 po0 sa0 mk0 kc0 n0x0 n0x1 n0x2 a0 l0 c0 k0 a1 l1 c1 k1 a2 i2 l2 c2 k2 a3 i3 l3 c3 k3 a4 i4 l4 c4 k4 a5 l5 c5 k5 a6 l6 c6 k6 a7 l7 c7 k7 a8 l8 c8 k8 a9 l9 c9 k9 a10 l10 c10 k10 a11 l11 c11 k11 a12 l12 c12 k12 a13 l13 c13 k13 a14 l14 c14 k14 a15 i15 l15 c15 k15 a16 l16 c16 k16 a17 l17 c17 k17 a18 i18 l18 c18 k18 a19 i19 l19 c19 k19 a20 l20 c20 k20 a21 l21 c21 k21 a22 l22 c22 k22 a23 i23 l23 c23 k23 a24 i24 l24 c24 k24 a25 l25 c25 k25 z0 z1 z2 z3 z4 z5
  have e:=hfa.symm.trans T.m_law
  cases e
  refine ⟨t.g_law,fun s v=>?_,fun base KB NB=>ok_all T⟩
  rw [e2]
  exact .of_eq rfl
theorem walk {l:PySem.W.OpenLaw} {q:Program} {loose:List Str} {XP:(Str→Option Value)→Heap→Prop} {YP:World→Heap→Prop} {d:DefRec} {K:Params→PySem.W.Frag} (hn:l.most = some 63) (hdf:d.params.defaults = [])
    (hY:∀ (w:World) (h:Heap),YP w h→(K w.params).In h)
    (F:∀ (w:World) (mg:Str→Option Value) (fa:Addr) (h:Heap),(K w.params).In h→h.Ns mainGlobals mg→mg d.name = some (.ref fa) →
      ∃ fd:FuncData,(∀ (s:Shared) (u:Value),BindsTo s fd ⟨[u],[]⟩ [("_law_script",u)])∧∀ base:Heap,(K w.params).In base→base.Ns mainGlobals mg→FnOk l.prog w (K w.params) mg base CX0 6 fa fd ["_law_script"] (spOf (K w.params) S_law)) :
    PySem.W.WalkO q loose XP YP l.row.toRowW d [] (fun f vs=>PySem.call f vs) :=
  L2.walk_of (n:=63) (k:=6) (x:="_law_script") (CX:=fun _=>CX0) (sp:=fun w=>spOf (K w.params) S_law) hn (by decide) hdf ⟨rfl,by decide,by decide⟩ hY F
    (fun w H a ns hl _ hS=>⟨H,[.lst (ns.map D.int)],fun d=>d = .bl true,Same.refl _,.cons (.lst hS (DenL.ints ns)) .nil,⟨ns,rfl,hl,rfl⟩,fun v G' H' d _ dv e=>by subst e; exact dv.bl_inv⟩) fun _ _ _ _ _ z=>z
end Law
open PySem PySem.W PyProof.Rows
set_option maxRecDepth 100000 in
set_option maxHeartbeats 0 in
theorem PySem.Challenge.cw_latebells_k52_whole_set_anew_holds : PySem.Challenge.rw_latebells_k52_whole_set_anew.Holds := by
  w_on; o_law; k_head; (case hw=>w_witness2)
  k_fill
  refine Law.walk (l:=PySem.Challenge.rw_latebells_k52_whole_set_anew) rfl rfl (fun w h Y=>PySem.W.kIn_of Y) ?F
  case F =>
    intro w mg fa h KX G hmg
    refine' Law.law_mk KX G hmg ?aC0 ?pg0 ?hd0 ?po0 ?sa0 ?mk0 ?kc0 ?n0x0 ?n0x1 ?n0x2 ?a0 ?l0 ?c0 ?k0 ?a1 ?l1 ?c1 ?k1 ?a2 ?i2 ?l2 ?c2 ?k2 ?a3 ?i3 ?l3 ?c3 ?k3 ?a4 ?i4 ?l4 ?c4 ?k4 ?a5 ?l5 ?c5 ?k5 ?a6 ?l6 ?c6 ?k6 ?a7 ?l7 ?c7 ?k7 ?a8 ?l8 ?c8 ?k8 ?a9 ?l9 ?c9 ?k9 ?a10 ?l10 ?c10 ?k10 ?a11 ?l11 ?c11 ?k11 ?a12 ?l12 ?c12 ?k12 ?a13 ?l13 ?c13 ?k13 ?a14 ?l14 ?c14 ?k14 ?a15 ?i15 ?l15 ?c15 ?k15 ?a16 ?l16 ?c16 ?k16 ?a17 ?l17 ?c17 ?k17 ?a18 ?i18 ?l18 ?c18 ?k18 ?a19 ?i19 ?l19 ?c19 ?k19 ?a20 ?l20 ?c20 ?k20 ?a21 ?l21 ?c21 ?k21 ?a22 ?l22 ?c22 ?k22 ?a23 ?i23 ?l23 ?c23 ?k23 ?a24 ?i24 ?l24 ?c24 ?k24 ?a25 ?l25 ?c25 ?k25 ?z0 ?z1 ?z2 ?z3 ?z4 ?z5
    (case aC0=>k_is); (case pg0=>k_is); (case hd0=>k_is); (case po0=>k_is)
    (case sa0=>k_is); (case mk0=>k_is); (case kc0=>k_is); (case n0x0=>k_is)
    (case n0x1=>k_is); (case n0x2=>k_is); (case a0=>k_is); (case l0=>k_is)
    (case c0=>k_is); (case k0=>k_is); (case a1=>k_is); (case l1=>k_is)
    (case c1=>k_is); (case k1=>k_is); (case a2=>k_is); (case i2=>k_is)
    (case l2=>k_is); (case c2=>k_is); (case k2=>k_is); (case a3=>k_is)
    (case i3=>k_is); (case l3=>k_is); (case c3=>k_is); (case k3=>k_is)
    (case a4=>k_is); (case i4=>k_is); (case l4=>k_is); (case c4=>k_is)
    (case k4=>k_is); (case a5=>k_is); (case l5=>k_is); (case c5=>k_is)
    (case k5=>k_is); (case a6=>k_is); (case l6=>k_is); (case c6=>k_is)
    (case k6=>k_is); (case a7=>k_is); (case l7=>k_is); (case c7=>k_is)
    (case k7=>k_is); (case a8=>k_is); (case l8=>k_is); (case c8=>k_is)
    (case k8=>k_is); (case a9=>k_is); (case l9=>k_is); (case c9=>k_is)
    (case k9=>k_is); (case a10=>k_is); (case l10=>k_is); (case c10=>k_is)
    (case k10=>k_is); (case a11=>k_is); (case l11=>k_is); (case c11=>k_is)
    (case k11=>k_is); (case a12=>k_is); (case l12=>k_is); (case c12=>k_is)
    (case k12=>k_is); (case a13=>k_is); (case l13=>k_is); (case c13=>k_is)
    (case k13=>k_is); (case a14=>k_is); (case l14=>k_is); (case c14=>k_is)
    (case k14=>k_is); (case a15=>k_is); (case i15=>k_is); (case l15=>k_is)
    (case c15=>k_is); (case k15=>k_is); (case a16=>k_is); (case l16=>k_is)
    (case c16=>k_is); (case k16=>k_is); (case a17=>k_is); (case l17=>k_is)
    (case c17=>k_is); (case k17=>k_is); (case a18=>k_is); (case i18=>k_is)
    (case l18=>k_is); (case c18=>k_is); (case k18=>k_is); (case a19=>k_is)
    (case i19=>k_is); (case l19=>k_is); (case c19=>k_is); (case k19=>k_is)
    (case a20=>k_is); (case l20=>k_is); (case c20=>k_is); (case k20=>k_is)
    (case a21=>k_is); (case l21=>k_is); (case c21=>k_is); (case k21=>k_is)
    (case a22=>k_is); (case l22=>k_is); (case c22=>k_is); (case k22=>k_is)
    (case a23=>k_is); (case i23=>k_is); (case l23=>k_is); (case c23=>k_is)
    (case k23=>k_is); (case a24=>k_is); (case i24=>k_is); (case l24=>k_is)
    (case c24=>k_is); (case k24=>k_is); (case a25=>k_is); (case l25=>k_is)
    (case c25=>k_is); (case k25=>k_is); (case z0=>k_is); (case z1=>k_is)
    (case z2=>k_is); (case z3=>k_is); (case z4=>k_is); (case z5=>k_is)
