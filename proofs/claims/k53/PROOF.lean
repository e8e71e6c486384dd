import PyProof.Rows.All
import Wide.All
import OpenK.AllK
import Wide.FinOn
import Lean
import PyProof.EqAt
import PyProof.EqKinds
import PyProof.TupleCall
import PyProof.NeData
import PyProof.P3In
import PySem.Challenge.RW_latebells_k53_whole_two_houses
set_option compiler.extract_closed false
set_option Elab.async false
set_option linter.all false
set_option maxRecDepth 100000
set_option maxHeartbeats 4000000
theorem PySem.W.Fast.tw13763311991261251163 : True := trivial
theorem PySem.W.Fast.tw17704695499527373346 : True := trivial
theorem PySem.W.Fast.tw11522571099820330477 : True := trivial
theorem PySem.W.Fast.tw641767385618436494 : True := trivial
theorem PySem.W.Fast.tw12927199818971501670 : True := trivial
theorem PySem.W.Fast.tw5384110511645278134 : True := trivial
theorem PySem.W.Fast.tw7883573108465705832 : True := trivial
theorem PySem.W.Fast.tw10907492083544255765 : True := trivial
theorem PySem.W.Fast.tw10714540616834905269 : True := trivial
theorem PySem.W.Fast.tw17700415409516136510 : True := trivial
theorem PySem.W.Fast.tw4597475289927905368 : True := trivial
theorem PySem.W.Fast.tw10588084321738513110 : True := trivial
theorem PySem.W.Fast.tw13296870106992610044 : True := trivial
theorem PySem.W.Fast.tw9732175253838546361 : True := trivial
theorem PySem.W.Fast.tw10242797142078235960 : True := trivial
theorem PySem.W.Fast.tw13882871696680265127 : True := trivial
theorem PySem.W.Fast.tw1168839350182075539 : True := trivial
theorem PySem.W.Fast.tw9421631241722964748 : True := trivial
theorem PySem.W.Fast.tw12775887216386272600 : True := trivial
theorem PySem.W.Fast.tw10125392151216558654 : True := trivial
theorem PySem.W.Fast.tw8805012777682822400 : True := trivial
theorem PySem.W.Fast.tw7268397371874897652 : True := trivial
theorem PySem.W.Fast.tw4170804722600835706 : True := trivial
theorem PySem.W.Fast.tw15640378888022171756 : True := trivial
theorem PySem.W.Fast.tw15941819947738657643 : True := trivial
theorem PySem.W.Fast.tw14701559905788729374 : True := trivial
theorem PySem.W.Fast.tw17020412170861618163 : True := trivial
theorem PySem.W.Fast.tw13663736686800623751 : True := trivial
theorem PySem.W.Fast.tw14166778864108024408 : True := trivial
theorem PySem.W.Fast.tw8763315486199839088 : True := trivial
theorem PySem.W.Fast.tw12670177179048814757 : True := trivial
theorem PySem.W.Fast.tw6657885178364832115 : True := trivial
theorem PySem.W.Fast.tw9640215287755067946 : True := trivial
theorem PySem.W.Fast.tw1797425370632620630 : True := trivial
theorem PySem.W.Fast.tw17878890170145087028 : True := trivial
theorem PySem.W.Fast.tw3239877662369383214 : True := trivial
theorem PySem.W.Fast.tw14069190185689441232 : True := trivial
theorem PySem.W.Fast.tw9017788894561563269 : True := trivial
theorem PySem.W.Fast.tw9314615096701789783 : True := trivial
theorem PySem.W.Fast.tw2221548821853452396 : True := trivial
theorem PySem.W.Fast.tw5538730097764536876 : True := trivial
theorem PySem.W.Fast.tw13300377136839022146 : True := trivial
theorem PySem.W.Fast.tw12808749705600011683 : True := trivial
theorem PySem.W.Fast.tw14286074430097015427 : True := trivial
theorem PySem.W.Fast.tw5600218652789179724 : True := trivial
theorem PySem.W.Fast.tw3161996743403016067 : True := trivial
theorem PySem.W.Fast.tw11780254290264643792 : True := trivial
theorem PySem.W.Fast.tw198494822853641599 : True := trivial
theorem PySem.W.Fast.tw2088289434798058462 : True := trivial
theorem PySem.W.Fast.tw9046457500973012523 : True := trivial
theorem PySem.W.Fast.tw4804663248499286683 : True := trivial
theorem PySem.W.Fast.tw4615699660745405057 : True := trivial
theorem PySem.W.Fast.tw11986109035763632236 : True := trivial
theorem PySem.W.Fast.tw6940242591473602008 : True := trivial
theorem PySem.W.Fast.tw401410788931413336 : True := trivial
theorem PySem.W.Fast.tw9817218996409856745 : True := trivial
theorem PySem.W.Fast.tw10901058065617411915 : True := trivial
theorem PySem.W.Fast.tw10943219567053410947 : True := trivial
theorem PySem.W.Fast.tw6319641352078656448 : True := trivial
namespace L2
open PySem PySem.Spec PyProof.Rows
noncomputable abbrev Key:=Sum Int Str
noncomputable def tj:Key→Value→Bool
 | .inl k,v=>Value.isInt k v
 | .inr x,v=>Value.isStrOf x v
noncomputable def RV (w:World):Key→Int
 | .inl k=>hashInt k
 | .inr x=>hashStr w x
theorem bN:∀ {k:Key} {v:Value},tj k v = true→(∃ i t,k = Sum.inl i∧v = Value.int i t)∨(∃ x t,k = Sum.inr x∧v = Value.str x t)
 | .inl i,v,h=>by
  obtain ⟨t,e⟩:=Value.isInt_shape (k:=i) (v:=v) h
  exact .inl ⟨i,t,rfl,e⟩
 | .inr x,v,h=>by
  obtain ⟨t,e⟩:=Value.isStrOf_shape (x:=x) (v:=v) h
  exact .inr ⟨x,t,rfl,e⟩
theorem DK (i:Int) (t:Tok):tj (.inl i) (.int i t) = true:=by simp [tj,Value.isInt]
theorem DL (x:Str) (t:Tok):tj (.inr x) (.str x t) = true:=by simp [tj,Value.isStrOf]
theorem Lz (a b:Int):decide ((Sum.inl a:Key) = Sum.inl b) = (a == b):=by
 by_cases e:a = b
 ·subst e; simp
 ·have h:¬ (Sum.inl a:Key) = Sum.inl b:=fun q=>e (Sum.inl.inj q)
  rw [decide_eq_false h]
  exact (beq_eq_false_iff_ne.mpr e).symm
theorem LA (a b:Str):decide ((Sum.inr a:Key) = Sum.inr b) = decide (a = b):=by
 by_cases e:a = b
 ·subst e; simp
 ·have h:¬ (Sum.inr a:Key) = Sum.inr b:=fun q=>e (Sum.inr.inj q)
  rw [decide_eq_false h,decide_eq_false e]
theorem LB (a:Int) (b:Str):decide ((Sum.inl a:Key) = Sum.inr b) = false:=decide_eq_false (fun q=>nomatch q)
theorem LC (a:Str) (b:Int):decide ((Sum.inr a:Key) = Sum.inl b) = false:=decide_eq_false (fun q=>nomatch q)
noncomputable def bz (prog:Program) (w:World):PySem.KeyKind prog w Key where
 is:=tj
 hash:=RV w
 inj:=fun v a b ha hb=>by
  rcases bN ha with ⟨i,t,rfl,rfl⟩ | ⟨x,t,rfl,rfl⟩
  ·rcases bN hb with ⟨j,u,rfl,e⟩ | ⟨y,u,rfl,e⟩
   ·injection e with e1 _; rw [e1]
   ·exact nomatch e
  ·rcases bN hb with ⟨j,u,rfl,e⟩ | ⟨y,u,rfl,e⟩
   ·exact nomatch e
   ·injection e with e1 _; rw [e1]
 byValue:=fun k v h=>by
  rcases bN h with ⟨i,t,rfl,rfl⟩ | ⟨x,t,rfl,rfl⟩ <;> rfl
 pyHash:=fun hv h=>by
  rcases bN hv with ⟨i,t,rfl,rfl⟩ | ⟨x,t,rfl,rfl⟩
  ·exact wpAny_pyHash_int h
  ·exact wpAny_pyHash_str h
 eqBool:=fun hu hv h=>by
  rcases bN hu with ⟨i,t,rfl,rfl⟩ | ⟨x,t,rfl,rfl⟩
  ·rcases bN hv with ⟨j,u,rfl,rfl⟩ | ⟨y,u,rfl,rfl⟩
   ·rw [Lz] at h; exact wpAny_eqBool_int h
   ·rw [LB] at h; exact SeqAt.EqAt.int_str i t y u _ _ _ _ h
  ·rcases bN hv with ⟨j,u,rfl,rfl⟩ | ⟨y,u,rfl,rfl⟩
   ·rw [LC] at h; exact SeqAt.EqAt.str_int x t j u _ _ _ _ h
   ·rw [LA] at h; exact wpAny_eqBool_str h
 «strs»:=fun k x t v h=>by
  rcases bN h with ⟨i,u,rfl,e⟩ | ⟨y,u,rfl,e⟩
  ·exact nomatch e
  ·injection e with e1 _
   subst e1
   cases v <;> rfl
theorem yn (prog:Program) (w:World) (i:Int) (t:Tok):(bz prog w).is (.inl i) (.int i t) = true:=DK i t
theorem yo (prog:Program) (w:World) (x:Str) (t:Tok):(bz prog w).is (.inr x) (.str x t) = true:=DL x t
end L2
namespace L2
open PySem PySem.Spec PyProof.Rows
inductive V where
 | aU | bl (b:Bool) | int (i:Int) | str (x:Str) | NT (b:Array UInt8) | Q3 (b:UInt64) | ref (a:Addr) | ty (n:String)
 deriving DecidableEq
noncomputable def RelV:V→Value→Prop
 | .aU,u=>u = Value.none
 | .bl b,u=>u = Value.bool b
 | .int i,u=>∃ t,u = Value.int i t
 | .str x,u=>∃ t,u = Value.str x t
 | .NT b,u=>∃ t,u = Value.bytes b t
 | .Q3 b,u=>∃ t,u = Value.float b t
 | .ref a,u=>u = Value.ref a
 | .ty n,u=>u = Value.type n
noncomputable abbrev Vals:List V→List Value→Prop:=Paired RelV
theorem Vals.length {xs:List V} {us:List Value} (r:Vals xs us):xs.length = us.length:=Paired.length r
theorem Vals.get:∀ {xs:List V} {us:List Value} {i:Nat} {x:V},Vals xs us→xs[i]? = some x→∃ u,us[i]? = some u∧RelV x u
 | _,_,_,_,.nil,e=>by simp at e
 | _,_,0,_,.cons r _,e=>by simp at e; subst e; exact ⟨_,rfl,r⟩
 | _,_,i + 1,x,.cons _ t,e=>by
  obtain ⟨u,h1,h2⟩:=Vals.get (i:=i) (x:=x) t (by simpa using e)
  exact ⟨u,by simpa using h1,h2⟩
theorem Vals.append:∀ {xs ys:List V} {us ws:List Value},Vals xs us→Vals ys ws→Vals (xs ++ ys) (us ++ ws)
 | _,_,_,_,.nil,s=>s
 | _,_,_,_,.cons r t,s=>.cons r (Vals.append t s)
theorem Vals.take:∀ {xs:List V} {us:List Value} (n:Nat),Vals xs us→Vals (xs.take n) (us.take n)
 | _,_,0,_=>.nil
 | _,_,_ + 1,.nil=>.nil
 | _,_,n + 1,.cons r t=>.cons r (Vals.take n t)
theorem Vals.drop:∀ {xs:List V} {us:List Value} (n:Nat),Vals xs us→Vals (xs.drop n) (us.drop n)
 | _,_,0,r=>r
 | _,_,_ + 1,.nil=>.nil
 | _,_,n + 1,.cons _ t=>Vals.drop n t
noncomputable def oh:Option V→Option Value→Prop
 | some v,some u=>RelV v u
 | none,none=>True
 | _,_=>False
noncomputable def KV {κ:Type}:List (κ × V)→List (κ × Value)→Prop:=Paired fun (p:κ × V) (q:κ × Value)=>p.1 = q.1∧RelV p.2 q.2
noncomputable def kV:Key→V
 | .inl i=>.int i
 | .inr x=>.str x
inductive HO where
 | lst (xs:List V)
 | tup (xs:List V)
 | dK (kvs:List (Key × V)) | dT (kvs:List (List Key × V))
 | set (S:Int→Bool) (n:Nat)
 | ins (C dx:Addr) (fs:List (Str × V))
 | own (x:Addr)
 | xd (fs:List (Str × V))
 | met (f x:Addr)
 | Q4 (lo hi:Int)
 | iK (o:Obj) (u:HO)
 | KJ (ps:Array Value)
 | ext (φ:Heap→Prop)
noncomputable abbrev Hp:=Addr→Option HO
noncomputable def upd (H:Hp) (a:Addr) (o:HO):Hp:=fun b=>if b = a then some o else H b
theorem aq {H:Hp} {a:Addr} {o:HO}:upd H a o a = some o:=by unfold upd; rw [if_pos rfl]
theorem aj {H:Hp} {a b:Addr} {o:HO} (h:b ≠ a):upd H a o b = H b:=by unfold upd; rw [if_neg h]
theorem Of {H:Hp} {a b:Addr} {o u:HO} (h:H a = some o) (h':H b = some u) (d:o ≠ u):a ≠ b:=by
 intro e; subst e; rw [h] at h'; exact d (Option.some.inj h')
theorem aR {H:Hp} {a b:Addr} {o:HO} (h:H a = some o) (h':H b = none):a ≠ b:=by
 intro e; subst e; rw [h] at h'; cases h'
section
variable (P:Program) (w:World)
noncomputable def cG (H:Hp) (h:Heap) (a:Addr):HO→Prop
 | .lst xs=>xs.length ≤ sizeLine∧∃ (its:List Value) (n:Nat),Vals xs its∧h.get? a = some { cls:=.type "list",data:=.seq its.toArray n }
 | .tup xs=>xs.length ≤ sizeLine∧∃ its:List Value,Vals xs its∧IsTup h a its.toArray
 | .dK kvs=>kvs.length ≤ sizeLine∧(a == sysModules) = false∧∃ vs,KV kvs vs∧h.DictOf (bz P w) a vs
 | .dT kvs=>kvs.length ≤ sizeLine∧(a == sysModules) = false∧∃ xs:List (List Key × Addr × Value),
   Paired (fun (p:List Key × V) (q:List Key × Addr × Value)=>p.1 = q.1∧H q.2.1 = some (.tup (p.1.map kV))∧RelV p.2 q.2.2) kvs xs ∧
   ∃ o es ep,h.get? a = some o∧o.ExactDict∧o.data = .dict es ep∧es.toList = xs.map (entryOfKey (tupleKind (bz P w)))∧(xs.map (·.1)).Nodup
 | .set S n=>h.SetOf (intKind P w) a S n
 | .ins C dx fs=>H dx = some (.own a)∧fs.length ≤ 1000∧dx ≠ a∧h.get? a = some (PySem.W.instObj C dx) ∧
   ∃ mA,h.Ns1 dx mA∧(∀ f,oh (fs.lookup f) (mA f))∧PySem.Within mA (fs.map (·.1))
 | .own _=>∃ o,h.get? a = some o
 | .xd fs=>∃ mA,h.Ns1 a mA∧∀ f,oh (fs.lookup f) (mA f)
 | .Q4 lo hi=>∃ t u v,h.get? a = some { cls:=.type "range",data:=.fields #[.int lo t,.int hi u,.int 1 v] }
 | .iK o u=>h.get? a = some o∧cG H h a u
 | .KJ ps=>h.get? a = some { cls:=.none,data:=.fields ps }
 | .met f x=>h.get? a = some (PySem.W.methodObj (.ref f) (.ref x))
 | .ext φ=>φ h∧(∃ o,h.get? a = some o)∧∀ h1 h2:Heap,φ h1→(∀ o,h1.get? a = some o→h2.get? a = some o)→φ h2
noncomputable def nF (H:Hp) (h:Heap):Prop:=∀ a o,H a = some o→cG P w H h a o
end
section
variable {P:Program} {w:World} {H H':Hp} {h h':Heap} {a:Addr} {o:HO}
theorem cG.lt (x:cG P w H h a o):a < h.objs.size:=by
 cases o with
 | lst xs=>obtain ⟨_,_,_,_,e⟩:=x; exact Heap.lt_size e
 | tup xs=>obtain ⟨_,_,_,p⟩:=x; exact p.lt
 | dK kvs=>obtain ⟨_,_,_,_,o,_,_,e,_⟩:=x; exact Heap.lt_size e
 | dT kvs=>obtain ⟨_,_,_,_,o,_,_,e,_⟩:=x; exact Heap.lt_size e
 | set S n=>obtain ⟨o,_,_,_,e,_⟩:=x; exact Heap.lt_size e
 | ins C dx fs=>obtain ⟨_,_,_,e,_⟩:=x; exact Heap.lt_size e
 | own y=>obtain ⟨_,e⟩:=x; exact Heap.lt_size e
 | xd fs=>obtain ⟨_,⟨_,_,_,e,_⟩,_⟩:=x; exact Heap.lt_size e
 | Q4 lo hi=>obtain ⟨_,_,_,e⟩:=x; exact Heap.lt_size e
 | iK ob u=>obtain ⟨e,_⟩:=x; exact Heap.lt_size e
 | KJ ps=>exact Heap.lt_size (show h.get? a = some _ from x)
 | met f y=>exact Heap.lt_size (show h.get? a = some _ from x)
 | ext φ=>obtain ⟨_,⟨_,e⟩,_⟩:=x; exact Heap.lt_size e
theorem Paired.LD {α β:Type} {F G:α→β→Prop}:∀ {l₁:List α} {l₂:List β},Paired F l₁ l₂→(∀ a b,F a b→G a b)→Paired G l₁ l₂
 | _,_,.nil,_=>.nil
 | _,_,.cons r t,f=>.cons (f _ _ r) (Paired.LD t f)
theorem cG.oj (x:cG P w H h a o) (k:∀ b u,(b = a∨H b = some (.own a))→h.get? b = some u→h'.get? b = some u)
  (ho:∀ b,H b = some (.own a)→H' b = some (.own a)) (ht:∀ b xs,H b = some (.tup xs)→H' b = some (.tup xs)):cG P w H' h' a o:=by
 induction o with
 | lst xs=>obtain ⟨z,its,n,r,e⟩:=x; exact ⟨z,its,n,r,k _ _ (.inl rfl) e⟩
 | tup xs=>obtain ⟨z,its,r,ob,e,c⟩:=x; exact ⟨z,its,r,ob,k _ _ (.inl rfl) e,c⟩
 | dK kvs=>obtain ⟨z,y,vs,r,ob,es,ep,e,c⟩:=x; exact ⟨z,y,vs,r,ob,es,ep,k _ _ (.inl rfl) e,c⟩
 | dT kvs =>
  obtain ⟨z,y,xs,r,ob,es,ep,e,c⟩:=x
  exact ⟨z,y,xs,Paired.LD r fun p q z=>⟨z.1,ht _ _ z.2.1,z.2.2⟩,ob,es,ep,k _ _ (.inl rfl) e,c⟩
 | set S n=>obtain ⟨ob,es,ep,t,e,c⟩:=x; exact ⟨ob,es,ep,t,k _ _ (.inl rfl) e,c⟩
 | ins C dx fs =>
  obtain ⟨d,z,ne,e,mA,⟨od,es,ep,e2,c⟩,r⟩:=x
  exact ⟨ho _ d,z,ne,k _ _ (.inl rfl) e,mA,⟨od,es,ep,k _ _ (.inr d) e2,c⟩,r⟩
 | own y=>obtain ⟨ob,e⟩:=x; exact ⟨ob,k _ _ (.inl rfl) e⟩
 | xd fs=>obtain ⟨mA,⟨od,es,ep,e,c⟩,r⟩:=x; exact ⟨mA,⟨od,es,ep,k _ _ (.inl rfl) e,c⟩,r⟩
 | Q4 lo hi=>obtain ⟨t,u,v,e⟩:=x; exact ⟨t,u,v,k _ _ (.inl rfl) e⟩
 | iK ob u ih=>obtain ⟨e,q⟩:=x; exact ⟨k _ _ (.inl rfl) e,ih q⟩
 | KJ ps =>
  have e:h.get? a = some { cls:=.none,data:=.fields ps }:=x
  show h'.get? a = some { cls:=.none,data:=.fields ps }
  exact k a _ (.inl rfl) e
 | met f y =>
  have e:h.get? a = some (PySem.W.methodObj (.ref f) (.ref y)):=x
  show h'.get? a = some (PySem.W.methodObj (.ref f) (.ref y))
  exact k a _ (.inl rfl) e
 | ext φ=>obtain ⟨p,⟨o,e⟩,st⟩:=x; exact ⟨st _ _ p fun o q=>k _ _ (.inl rfl) q,⟨o,k _ _ (.inl rfl) e⟩,st⟩
theorem nF.lt (x:nF P w H h) (e:H a = some o):a < h.objs.size:=(x a o e).lt
theorem nF.fresh (x:nF P w H h) (e:h.objs.size ≤ a):H a = none:=by
 cases q:H a with
 | none=>rfl
 | some u=>exact absurd (Nat.lt_of_lt_of_le (x.lt q) e) (Nat.lt_irrefl _)
theorem nF.kept (x:nF P w H h) (k:∀ b u,h.get? b = some u→h'.get? b = some u):nF P w H h':=fun a o e =>
 (x a o e).oj (fun b u _ q=>k b u q) (fun _ q=>q) fun _ _ q=>q
theorem nF.laid (x:nF P w H h) (k:∀ b u,h.get? b = some u→h'.get? b = some u) (hp:h.objs.size ≤ a) (new:cG P w (upd H a o) h' a o):nF P w (upd H a o) h':=fun b u e=>by
 have hn:=x.fresh hp
 by_cases hb:b = a
 ·subst hb; rw [aq] at e; cases e; exact new
 ·rw [aj hb] at e
  exact (x b u e).oj (fun c v _ q=>k c v q) (fun c q=>by rw [aj (aR q hn)]; exact q) fun c xs q=>by rw [aj (aR q hn)]; exact q
end
noncomputable def Rd (H:Hp) (a:Addr) (u:HO):Prop:=H a = some u∨∃ o,H a = some (.iK o u)
theorem Rd.ok {P:Program} {w:World} {H:Hp} {h:Heap} {a:Addr} {u:HO} (r:Rd H a u) (x:nF P w H h):cG P w H h a u:=by
 rcases r with r | ⟨o,r⟩
 ·exact x a u r
 ·obtain ⟨_,q⟩:=x a _ r
  exact q
noncomputable def Og:Option HO→Prop
 | some (.lst _)=>True
 | some (.dK _)=>True
 | some (.dT _)=>True
 | some (.set _ _)=>True
 | some (.ins _ _ _)=>True
 | some (.ext _)=>True
 | _=>False
section
variable {P:Program} {w:World} {H:Hp} {h h':Heap} {x e:Addr} {o':HO}
theorem nF.write (ok:nF P w H h) (mu:Og (H x)) (he:e = x∨H e = some (.own x)) (k:∀ b u,b ≠ e→h.get? b = some u→h'.get? b = some u) (NU:∃ u,h'.get? e = some u)
  (new:cG P w (upd H x o') h' x o'):nF P w (upd H x o') h':=fun b u q=>by
 have Oh:∀ c y,H c = some (.own y)→c ≠ x:=fun c y r z=>by subst z; rw [r] at mu; exact mu
 have RW:∀ c xs,H c = some (.tup xs)→c ≠ x:=fun c xs r z=>by subst z; rw [r] at mu; exact mu
 by_cases hb:b = x
 ·subst hb; rw [aq] at q; cases q; exact new
 ·rw [aj hb] at q
  by_cases LF:b = e
  ·have q':H b = some (.own x):=by
    rcases he with z | z
    ·exact absurd (LF.trans z) hb
    ·rw [LF]; exact z
   rw [q] at q'; cases q'
   obtain ⟨v,hv⟩:=NU
   exact ⟨v,by rw [LF]; exact hv⟩
  ·refine (ok b u q).oj (fun c v hc r=>k c v ?_ r) (fun c r=>by rw [aj (Oh c b r)]; exact r) fun c xs r=>by rw [aj (RW c xs r)]; exact r
   rcases hc with rfl | hc
   ·exact LF
   ·rintro rfl
    rcases he with z | z
    ·exact Oh c b hc z
    ·rw [hc] at z; cases z; exact hb rfl
end
structure Un (fs ex:List Addr) (H H':Hp) (h h':Heap):Prop where
 keep:∀ b o,h.get? b = some o→H b = none→b ∉ fs→b ∉ ex→h'.get? b = some o
 slot:∀ b o,h.get? b = some o→H b = none→b ∈ fs→b ∉ ex→∃ sl,h'.get? b = some { o with slots:=sl }
 free:∀ b o,h.get? b = some o→H b = none→b ∉ ex→H' b = none
 there:∀ b o,h.get? b = some o→b ∉ ex→∃ o',h'.get? b = some o'
 u6:∀ b xs,H b = some (.tup xs)→H' b = some (.tup xs)
 rP:∀ b o u,H b = some (.iK o u)→H' b = some (.iK o u)
 u7:∀ b ps,H b = some (.KJ ps)→∃ more,H' b = some (.KJ (ps ++ more))
section
variable {fs fs' ex ex':List Addr} {H H1 H2:Hp} {h h1 h2 h':Heap} {a x e:Addr} {o:HO}
theorem Un.any (u:Un fs ex H H1 h h1) {b:Addr} {ob:Obj} (q:h.get? b = some ob) (n:H b = none) (hx:b ∉ ex):∃ sl,h1.get? b = some { ob with slots:=sl }:=by
 by_cases hb:b ∈ fs
 ·exact u.slot b ob q n hb hx
 ·exact ⟨ob.slots,u.keep b ob q n hb hx⟩
theorem Un.kept (k:∀ b u,h.get? b = some u→h'.get? b = some u):Un fs ex H H h h' :=
 ⟨fun b ob q _ _ _=>k b ob q,fun b ob q _ _ _=>⟨ob.slots,k b ob q⟩,fun _ _ _ n _=>n,fun b ob q _=>⟨ob,k b ob q⟩,fun _ _ q=>q,fun _ _ _ q=>q,fun _ ps q=>⟨#[],by rw [q]; simp⟩⟩
theorem Un.refl:Un fs ex H H h h:=Un.kept fun _ _ q=>q
theorem Un.laid (k:∀ b u,h.get? b = some u→h'.get? b = some u) (hp:h.objs.size ≤ a) (hn:H a = none):Un fs ex H (upd H a o) h h' where
 keep:=fun b u q _ _ _=>k b u q
 slot:=fun b u q _ _ _=>⟨u.slots,k b u q⟩
 free:=fun b u q n _=>by rw [aj (Nat.ne_of_lt (Nat.lt_of_lt_of_le (Heap.lt_size q) hp))]; exact n
 there:=fun b u q _=>⟨u,k b u q⟩
 u6:=fun b xs q=>by rw [aj (aR q hn)]; exact q
 rP:=fun b u xs q=>by rw [aj (aR q hn)]; exact q
 u7:=fun b ps q=>⟨#[],by rw [aj (aR q hn),q]; simp⟩
theorem Un.write (mu:Og (H x)) (he:e = x∨H e = some (.own x)) (k:∀ b u,b ≠ e→h.get? b = some u→h'.get? b = some u) (NU:∃ u,h'.get? e = some u):Un fs ex H (upd H x o) h h':=by
 have hx:∀ b,H b = none→b ≠ x:=fun b n z=>by subst z; rw [n] at mu; exact mu
 have hb:∀ b,H b = none→b ≠ e:=fun b n z=>by
  subst z
  rcases he with r | r
  ·exact hx b n r
  ·rw [n] at r; cases r
 have hm:∀ b u,H b = some u→¬ Og (some u)→b ≠ x:=fun b u q nm z=>by subst z; rw [q] at mu; exact nm mu
 refine ⟨fun b u q n _ _=>k b u (hb b n) q,fun b u q n _ _=>⟨u.slots,k b u (hb b n) q⟩,fun b u q n _=>by rw [aj (hx b n)]; exact n,fun b u q _=>?_,
  fun b xs q=>by rw [aj (hm b _ q fun z=>z)]; exact q,fun b u xs q=>by rw [aj (hm b _ q fun z=>z)]; exact q,fun b ps q=>⟨#[],by rw [aj (hm b _ q fun z=>z),q]; simp⟩⟩
 by_cases LF:b = e
 ·subst LF; exact NU
 ·exact ⟨u,k b u LF q⟩
end
noncomputable def Im (h:Heap) (H:Hp):List Addr:=(List.range h.objs.size).filter fun a=>(H a).isSome
noncomputable def wL (h:Heap) (H:Hp):Heap:=PySem.W.hideAll h (Im h H)
theorem DM (h:Heap) (H:Hp):(wL h H).objs.size = h.objs.size:=PySem.W.hideAll_size _ _
theorem E9 {h:Heap} {H:Hp} {b:Addr} {o:Obj} (e:h.get? b = some o) (n:H b = none):(wL h H).get? b = some o :=
 PySem.W.hideAll_get _ e fun hm=>by
  have q:(H b).isSome = true:=(List.mem_filter.mp hm).2
  rw [n] at q; simp at q
theorem IB {h:Heap} {H:Hp} {b:Addr} {o:Obj} (e:(wL h H).get? b = some o):h.get? b = some o∧H b = none:=by
 have e':h.get? b = some o:=PySem.W.of_hideAll (Im h H) e
 refine ⟨e',?_⟩
 cases q:H b with
 | none=>rfl
 | some x =>
  have hm:b ∈ Im h H:=List.mem_filter.mpr ⟨List.mem_range.mpr (Heap.lt_size e'),by simp [q]⟩
  have z:(wL h H).get? b = none:=PySem.W.hideAll_none (Im h H) hm
  rw [z] at e; cases e
noncomputable def sL (g h:Heap) (L:Addr):List (Addr × Obj):=(List.range h.objs.size).filterMap fun a=>if a = L∨(g.get? a).isSome = true then none else (h.get? a).map fun o=>(a,o)
theorem qW {g h:Heap} {L a:Addr} {o:Obj} (h1:a ≠ L) (h2:g.get? a = none) (h3:h.get? a = some o):(a,o) ∈ sL g h L :=
 List.mem_filterMap.mpr ⟨a,List.mem_range.mpr (Heap.lt_size h3),by simp [h1,h2,h3]⟩
theorem tq {g h:Heap} {L:Addr} {p:Addr × Obj} (hp:p ∈ sL g h L):p.1 ≠ L∧g.get? p.1 = none∧h.get? p.1 = some p.2:=by
 obtain ⟨b,_,e⟩:=List.mem_filterMap.mp hp
 split at e
 ·cases e
 ·rename_i hn
  cases q:h.get? b with
  | none=>rw [q] at e; simp at e
  | some u =>
   rw [q] at e
   simp only [Option.map_some,Option.some.injEq] at e
   subst e
   refine ⟨fun z=>hn (.inl z),?_,q⟩
   show g.get? b = none
   cases r:g.get? b with
   | none=>rfl
   | some v=>exact (hn (.inr (by simp [r]))).elim
theorem Fb {g h:Heap} {L:Addr}:News g L h (sL g h L):=fun p hp=>let ⟨a,b,c⟩:=tq hp; ⟨c,a,b⟩
end L2
namespace L2
open PySem PySem.Spec PyProof.Rows
structure Mod (K:PySem.W.Frag) (mg:Str→Option Value) (base:Heap):Prop where
 yp:K.In base
 glob:base.Ns mainGlobals mg
 blt:∃ mb,base.Ns builtinsNs mb∧∀ x:Str,x ≠ "__name__"→mb x = bootBuiltins x
 nolimit:base.NoLimit
structure Cx where
 prog:Program
 w:World
 K:PySem.W.Frag
 mg:Str→Option Value
 base:Heap
 A:Around
 N:List Str
 s₀:Shared
 H₀:Hp
 env:Env
 outer:List Env
 stack:List Env
 ex:List Addr
 fn:Str→Bool
 calm:Bool
 pn:List (Addr × Obj)
 xe:Value→Shared→Prop
noncomputable def AK (l:List Env):List Addr:=l.filterMap (·.frame)
noncomputable abbrev Cx.fs (X:Cx):List Addr:=AK X.outer
noncomputable def rQ (sc:Scope) (x:Str):Prop:=sc.names.lookup x = some .local∨sc.names.lookup x = some .cell∨sc.names.lookup x = some .free
noncomputable def Loc (sc:Scope) (x:Str):Prop:=sc.names.lookup x = some .local∨sc.names.lookup x = some .cell
noncomputable def Look (env:Env) (h:Heap) (m:Str→Option Value) (x:Str) (u:Value):Prop :=
 (env.kindOf x = some .local∧m x = some u)∨((env.kindOf x = some .cell∨env.kindOf x = some .free)∧∃ c,env.cells.lookup x = some c∧h.IsCell c (some u))
structure Cx.Ok (X:Cx):Prop where
 mod:Mod X.K X.mg X.base
 kind:X.env.scope.kind = .function
 glob:X.env.globals = mainGlobals
 blt:X.env.builtins = builtinsNs
 above:X.s₀.heap.objs.size ≤ X.env.locals
 inj:∀ x y c,X.env.cells.lookup x = some c→X.env.cells.lookup y = some c→x = y
 has:∀ x,(X.env.kindOf x = some .cell∨X.env.kindOf x = some .free)→∃ c,X.env.cells.lookup x = some c
 Oi:∀ x c,X.fn x = true→X.env.cells.lookup x = some c→X.s₀.heap.objs.size ≤ c
 hd:X.calm = true→X.A.handled = none
 frames:X.A.frames = some X.stack
 Q5:X.stack = X.outer∨(X.stack = X.env :: X.outer∧X.env.frame = some X.env.locals)
 Oj:∀ b ∈ X.ex,b ≠ X.env.locals∧∀ x c,X.env.cells.lookup x = some c→c ≠ b
 bs:∀ b o,X.base.get? b = some o→X.s₀.heap.get? b = some o∧X.H₀ b = none
 Io:X.base.objs.size ≤ X.s₀.heap.objs.size
 Fc:∀ b o,X.base.get? b = some o→b ∉ X.ex
 DN:∀ b ∈ X.ex,b ∉ X.fs
 rR:X.s₀.heap.FunFrames X.base X.outer
 LG:∀ b ∈ X.fs,X.H₀ b = none
structure Inv (X:Cx) (pins:List (Addr × Obj)) (σ:List (Option V)) (H:Hp) (s:Shared):Prop where
 ok:X.Ok
 os:s.os = X.s₀.os
 bare:AllBare s.gens
 base:Un X.fs X.ex X.H₀ H X.s₀.heap s.heap
 loc:∃ m,s.heap.Ns X.env.locals m∧∀ (i:Nat) (x:Str) (v:V),X.N[i]? = some x→σ[i]? = some (some v)→rQ X.env.scope x→∃ u,RelV v u∧Look X.env s.heap m x u
 cell:∀ x c,X.env.cells.lookup x = some c→∃ v,s.heap.IsCell c v
 free:H X.env.locals = none
 iZ:∀ x c,X.env.cells.lookup x = some c→H c = none
 pin:∀ p ∈ X.pn ++ pins,s.heap.get? p.1 = some p.2∧H p.1 = none∧p.1 ≠ X.env.locals∧p.1 ∉ X.fs∧∀ v,p.2.data ≠ .cell v
 bE:nF X.prog X.w H s.heap
 len:σ.length = X.N.length
section
variable {X:Cx} {pins:List (Addr × Obj)} {σ:List (Option V)} {H H':Hp} {s:Shared} {h':Heap}
theorem Cx.Ok.RX (ok:X.Ok) {b:Addr} {o:Obj} (e:X.base.get? b = some o):b ∉ X.fs:=fun hb=>by
 have:=(ok.rR.mem hb).1
 rw [e] at this; cases this
theorem Inv.bs (I:Inv X pins σ H s):∀ b o,X.base.get? b = some o→s.heap.get? b = some o∧H b = none:=fun b o e =>
 ⟨I.base.keep b o (I.ok.bs b o e).1 (I.ok.bs b o e).2 (I.ok.RX e) (I.ok.Fc b o e),I.base.free b o (I.ok.bs b o e).1 (I.ok.bs b o e).2 (I.ok.Fc b o e)⟩
theorem Inv.bk (I:Inv X pins σ H s):∀ b o,X.base.get? b = some o→s.heap.get? b = some o:=fun b o e=>(I.bs b o e).1
theorem Inv.mod (I:Inv X pins σ H s):Mod X.K X.mg X.base:=I.ok.mod
theorem Inv.Cy (I:Inv X pins σ H s):X.K.In s.heap:=I.ok.mod.yp.keeps I.bk
theorem Inv.fr (I:Inv X pins σ H s):∃ m,Fr X.base X.env.locals s.heap m :=
 let ⟨m,hn,_⟩:=I.loc
 ⟨m,hn,I.bk,Nat.le_trans I.ok.Io I.ok.above⟩
theorem Inv.lt (I:Inv X pins σ H s):X.env.locals < s.heap.objs.size:=let ⟨_,hn,_⟩:=I.loc; hn.lt
theorem Inv.sz (I:Inv X pins σ H s):X.s₀.heap.objs.size ≤ s.heap.objs.size:=Nat.le_trans I.ok.above (Nat.le_of_lt I.lt)
theorem Inv.RY (I:Inv X pins σ H s) {a:Addr} (h:s.heap.objs.size ≤ a):a ∉ X.fs:=fun hb=>by
 obtain ⟨_,o,ho,_⟩:=I.ok.rR.mem hb
 exact absurd (Nat.lt_of_lt_of_le (Heap.lt_size ho) (Nat.le_trans I.sz h)) (Nat.lt_irrefl _)
theorem Inv.LH (I:Inv X pins σ H s):∀ x c,X.env.cells.lookup x = some c→c ≠ X.env.locals:=fun x c e z=>by
 obtain ⟨v,o,ho,hd⟩:=I.cell x c e
 obtain ⟨m,⟨o',es,ep,ho',hd',_⟩,_⟩:=I.loc
 rw [z,ho'] at ho; cases ho; rw [hd'] at hd; cases hd
theorem Inv.rR (I:Inv X pins σ H s):s.heap.FunFrames X.base X.outer:=by
 have all:∀ (l:List Env),(∀ b ∈ AK l,b ∈ X.fs)→X.s₀.heap.FunFrames X.base l→s.heap.FunFrames X.base l:=by
  intro l
  induction l with
  | nil=>intro _ _; trivial
  | cons env r ih =>
   intro hs hl
   obtain ⟨hk,⟨L,o,hf,hn,ho,hd⟩,hr⟩:=hl
   have hL:L ∈ X.fs:=hs L (by unfold AK; rw [List.filterMap_cons,hf]; exact List.mem_cons_self)
   obtain ⟨sl,e⟩:=I.base.slot L o ho (I.ok.LG L hL) hL fun z=>I.ok.DN L z hL
   exact ⟨hk,⟨L,_,hf,hn,e,hd⟩,ih (fun b hb=>hs b (by unfold AK; rw [List.filterMap_cons,hf]; exact List.mem_cons_of_mem _ hb)) hr⟩
 exact all X.outer (fun _ hb=>hb) I.ok.rR
theorem Inv.stack (I:Inv X pins σ H s):s.heap.FunFrames X.base X.stack:=by
 rcases I.ok.Q5 with e | ⟨e,hf⟩
 ·rw [e]; exact I.rR
 ·rw [e]
  obtain ⟨m,hn,_⟩:=I.loc
  refine .cons (by rw [I.ok.kind]; decide) hf hn ?_ I.rR
  exact Heap.get?_none_of_le (Nat.le_trans I.ok.Io I.ok.above)
theorem Inv.AM (I:Inv X pins σ H s):∀ b ∈ AK X.stack,b ∈ X.env.locals :: X.fs:=fun b hb=>by
 rcases I.ok.Q5 with e | ⟨e,hf⟩
 ·rw [e] at hb; exact List.mem_cons_of_mem _ hb
 ·rw [e] at hb
  unfold AK at hb
  rw [List.filterMap_cons,hf] at hb
  exact hb
theorem Inv.Cz (I:Inv X pins σ H s):∀ b ∈ AK X.stack,H b = none:=fun b hb=>by
 rcases List.mem_cons.mp (I.AM b hb) with e | hb
 ·rw [e]; exact I.free
 ·obtain ⟨_,o,ho,_⟩:=I.ok.rR.mem hb
  exact I.base.free b o ho (I.ok.LG b hb) fun z=>I.ok.DN b z hb
theorem Inv.step {g':Array GenState} {t':Nat} {d':Drawn} {ch:List Addr} (I:Inv X pins σ H s)
  (Ip:∀ b ∈ ch,(b ∈ X.ex∨X.s₀.heap.objs.size ≤ b)∧b ≠ X.env.locals∧(∀ x c,X.env.cells.lookup x = some c→c ≠ b)∧∀ p ∈ X.pn ++ pins,p.1 ≠ b)
  (keep:∀ b o,b ≠ X.env.locals→b ∉ X.fs→b ∉ ch→s.heap.get? b = some o→H b = none→h'.get? b = some o)
  (slot:∀ b o,b ≠ X.env.locals→b ∈ X.fs→b ∉ ch→s.heap.get? b = some o→H b = none→∃ sl,h'.get? b = some { o with slots:=sl }) (free:∀ b o,b ∉ ch→s.heap.get? b = some o→H b = none→H' b = none)
  (there:∀ b o,b ∉ ch→s.heap.get? b = some o→∃ o',h'.get? b = some o')
  (u6:∀ b xs,H b = some (.tup xs)→H' b = some (.tup xs)) (rP:∀ b o u,H b = some (.iK o u)→H' b = some (.iK o u)) (u7:∀ b ps,H b = some (.KJ ps)→∃ more,H' b = some (.KJ (ps ++ more)))
  (ns:∀ m,s.heap.Ns X.env.locals m→h'.Ns X.env.locals m) (bE:nF X.prog X.w H' h') (hg:AllBare g') :
  Inv X pins σ H' { s with heap:=h',gens:=g',drawn:=d',toks:=t' }:=by
 have Ze:∀ b o,X.s₀.heap.get? b = some o→b ≠ X.env.locals:=fun b o e=>Nat.ne_of_lt (Nat.lt_of_lt_of_le (Heap.lt_size e) I.ok.above)
 have Q6:∀ b o,X.s₀.heap.get? b = some o→b ∉ X.ex→b ∉ ch:=fun b o e hx hb=>by
  rcases (Ip b hb).1 with z | z
  ·exact hx z
  ·exact absurd (Nat.lt_of_lt_of_le (Heap.lt_size e) z) (Nat.lt_irrefl _)
 have cellK:∀ x c,X.env.cells.lookup x = some c→∀ v,s.heap.IsCell c v→h'.IsCell c v:=fun x c e v ⟨o,ho,hd⟩=>by
  have Ol:c ∉ ch:=fun z=>(Ip c z).2.2.1 x c e rfl
  by_cases hc:c ∈ X.fs
  ·obtain ⟨sl,q⟩:=slot c o (I.LH x c e) hc Ol ho (I.iZ x c e)
   exact ⟨_,q,hd⟩
  ·exact ⟨o,keep c o (I.LH x c e) hc Ol ho (I.iZ x c e),hd⟩
 refine ⟨I.ok,I.os,hg,⟨fun b o e n hb hx=>?_,fun b o e n hb hx=>?_,fun b o e n hx=>?_,fun b o e hx=>?_,fun b xs e=>u6 b xs (I.base.u6 b xs e),fun b o xs e=>rP b o xs (I.base.rP b o xs e),fun b ps e=>?_⟩,?_,fun x c e=>?_,?_,fun x c e=>?_,fun p hp=>?_,bE,I.len⟩
 ·exact keep b o (Ze b o e) hb (Q6 b o e hx) (I.base.keep b o e n hb hx) (I.base.free b o e n hx)
 ·obtain ⟨sl,e1⟩:=I.base.slot b o e n hb hx
  obtain ⟨sl',e2⟩:=slot b _ (Ze b o e) hb (Q6 b o e hx) e1 (I.base.free b o e n hx)
  exact ⟨sl',e2⟩
 ·obtain ⟨o',e1⟩:=I.base.there b o e hx
  exact free b o' (Q6 b o e hx) e1 (I.base.free b o e n hx)
 ·obtain ⟨o',e1⟩:=I.base.there b o e hx
  exact there b o' (Q6 b o e hx) e1
 ·obtain ⟨m1,e1⟩:=I.base.u7 b ps e
  obtain ⟨m2,e2⟩:=u7 b _ e1
  exact ⟨m1 ++ m2,by rw [e2,Array.append_assoc]⟩
 ·obtain ⟨m,hn,hl⟩:=I.loc
  refine ⟨m,ns m hn,fun i x v e1 e2 e3=>?_⟩
  obtain ⟨u,r,l⟩:=hl i x v e1 e2 e3
  refine ⟨u,r,?_⟩
  rcases l with l | ⟨k,c,e,z⟩
  ·exact .inl l
  ·exact .inr ⟨k,c,e,cellK x c e _ z⟩
 ·obtain ⟨v,z⟩:=I.cell x c e
  exact ⟨v,cellK x c e v z⟩
 ·obtain ⟨m,⟨o,_,_,ho,_⟩,_⟩:=I.loc
  exact free _ o (fun z=>(Ip _ z).2.1 rfl) ho I.free
 ·obtain ⟨v,o,ho,hd⟩:=I.cell x c e
  exact free c o (fun z=>(Ip c z).2.2.1 x c e rfl) ho (I.iZ x c e)
 ·obtain ⟨e,n,ne,nf,d⟩:=I.pin p hp
  have Ol:p.1 ∉ ch:=fun z=>(Ip p.1 z).2.2.2 p hp rfl
  exact ⟨keep p.1 p.2 ne nf Ol e n,free p.1 p.2 Ol e n,ne,nf,d⟩
theorem Inv.un {t':Nat} (I:Inv X pins σ H s) (u:Un X.fs [] H H' s.heap h') (bE:nF X.prog X.w H' h'):Inv X pins σ H' { s with heap:=h',toks:=t' }:=by
 obtain ⟨m,⟨o,es,ep,ho,r⟩,_⟩:=id I.loc
 obtain ⟨sl,hL⟩:=u.any ho I.free (by simp)
 exact I.step (g':=s.gens) (d':=s.drawn) (ch:=[]) (fun _ z=>nomatch z) (fun b o _ hb _ e n=>u.keep b o e n hb (by simp)) (fun b o _ hb _ e n=>u.slot b o e n hb (by simp)) (fun b o _ e n=>u.free b o e n (by simp)) (fun b o _ e=>u.there b o e (by simp)) u.u6 u.rP u.u7 (fun m' hm=>by
  obtain ⟨o',es',ep',ho',r'⟩:=hm
  rw [ho] at ho'; cases ho'
  exact ⟨_,es',ep',hL,r'⟩) bE I.bare
theorem Inv.call {g':Array GenState} {t':Nat} {d':Drawn} {ch:List Addr} (I:Inv X pins σ H s) (u:Un (AK X.stack) ch H H' s.heap h') (bE:nF X.prog X.w H' h') (hg:AllBare g')
  (Ip:∀ b ∈ ch,(b ∈ X.ex∨X.s₀.heap.objs.size ≤ b)∧b ≠ X.env.locals∧(∀ x c,X.env.cells.lookup x = some c→c ≠ b)∧∀ p ∈ X.pn ++ pins,p.1 ≠ b) :
  Inv X pins σ H' { s with heap:=h',gens:=g',drawn:=d',toks:=t' }:=by
 obtain ⟨m,⟨o,es,ep,ho,r⟩,_⟩:=id I.loc
 obtain ⟨sl,hL⟩:=u.any ho I.free fun z=>(Ip _ z).2.1 rfl
 exact I.step (ch:=ch) Ip (fun b o hL hb hc e n=>u.keep b o e n (fun z=>(List.mem_cons.mp (I.AM b z)).elim hL hb) hc) (fun b o _ _ hc e n=>u.any e n hc) (fun b o hc e n=>u.free b o e n hc) (fun b o hc e=>u.there b o e hc) u.u6 u.rP u.u7 (fun m' hm=>by
  obtain ⟨o',es',ep',ho',r'⟩:=hm
  rw [ho] at ho'; cases ho'
  exact ⟨_,es',ep',hL,r'⟩) bE hg
theorem Inv.turned {t':Nat} {it:Addr} (I:Inv X pins σ H s) (k:∀ b o,b ≠ it→s.heap.get? b = some o→h'.get? b = some o) (hn:H it = none) (hL:it ≠ X.env.locals)
  (h1:it ∈ X.ex∨X.s₀.heap.objs.size ≤ it) (h2:∀ x c,X.env.cells.lookup x = some c→c ≠ it) (h3:∀ p ∈ X.pn ++ pins,p.1 ≠ it):Inv X pins σ H { s with heap:=h',toks:=t' }:=by
 have Zf:∀ b u,H b = some u→b ≠ it:=fun b u e z=>by rw [z,hn] at e; cases e
 refine I.step (g':=s.gens) (d':=s.drawn) (ch:=[it]) (fun b hb=>?_) (fun b o _ _ hc e _=>k b o (fun z=>hc (by simp [z])) e) (fun b o _ _ hc e _=>⟨o.slots,k b o (fun z=>hc (by simp [z])) e⟩) (fun _ _ _ _ n=>n)
  (fun b o hc e=>⟨o,k b o (fun z=>hc (by simp [z])) e⟩) (fun _ _ e=>e) (fun _ _ _ e=>e) (fun b ps e=>⟨#[],by rw [e]; simp⟩) (fun m hm=>?_) (fun b u e=>?_) I.bare
 ·have e:b = it:=by simpa using hb
  subst e
  exact ⟨h1,hL,h2,h3⟩
 ·obtain ⟨o,es,ep,ho,r⟩:=hm
  exact ⟨o,es,ep,k _ o (Ne.symm hL) ho,r⟩
 ·refine (I.bE b u e).oj (fun c v hc q=>k c v ?_ q) (fun _ q=>q) fun _ _ q=>q
  rcases hc with z | z
  ·rw [z]; exact Zf b u e
  ·exact Zf c _ z
theorem Inv.tok (I:Inv X pins σ H s) (t:Nat):Inv X pins σ H { s with toks:=t }:=I.un (h':=s.heap) (t':=t) Un.refl I.bE
theorem Inv.kept {t':Nat} (I:Inv X pins σ H s) (k:∀ b u,s.heap.get? b = some u→h'.get? b = some u):Inv X pins σ H { s with heap:=h',toks:=t' }:=I.un (Un.kept k) (I.bE.kept k)
theorem Inv.laid {a:Addr} {o:HO} {t':Nat} (I:Inv X pins σ H s) (k:∀ b u,s.heap.get? b = some u→h'.get? b = some u) (hp:s.heap.objs.size ≤ a) (new:cG X.prog X.w (upd H a o) h' a o) :
  Inv X pins σ (upd H a o) { s with heap:=h',toks:=t' }:=I.un (Un.laid k hp (I.bE.fresh hp)) (I.bE.laid k hp new)
theorem Inv.write {x e:Addr} {o:HO} {t':Nat} (I:Inv X pins σ H s) (mu:Og (H x)) (he:e = x∨H e = some (.own x)) (k:∀ b u,b ≠ e→s.heap.get? b = some u→h'.get? b = some u) (NU:∃ u,h'.get? e = some u)
  (new:cG X.prog X.w (upd H x o) h' x o):Inv X pins σ (upd H x o) { s with heap:=h',toks:=t' }:=I.un (Un.write mu he k NU) (I.bE.write mu he k NU new)
theorem Inv.CA {pins':List (Addr × Obj)} (I:Inv X pins σ H s) (h:∀ p ∈ pins',s.heap.get? p.1 = some p.2∧H p.1 = none∧p.1 ≠ X.env.locals∧p.1 ∉ X.fs∧∀ v,p.2.data ≠ .cell v):Inv X pins' σ H s :=
 ⟨I.ok,I.os,I.bare,I.base,I.loc,I.cell,I.free,I.iZ,fun p hp=>(List.mem_append.mp hp).elim (fun z=>I.pin p (List.mem_append_left _ z)) (h p),I.bE,I.len⟩
theorem yq {N:List Str} (hN:N.Nodup) {i j:Nat} {x:Str} (a:N[i]? = some x) (b:N[j]? = some x):i = j:=by
 obtain ⟨h1,e1⟩:=List.getElem?_eq_some_iff.mp a
 obtain ⟨h2,e2⟩:=List.getElem?_eq_some_iff.mp b
 exact (List.getElem_inj hN).mp (e1.trans e2.symm)
theorem qh {M:Model} {A:Around} {E:Value→Shared→Prop} {i:Nat} {x:Str} {v:V} {u:Value} {Q:Unit→Shared→Prop} (I:Inv X pins σ H s) (hN:X.N.Nodup) (hi:X.N[i]? = some x) (hx:Loc X.env.scope x) (r:RelV v u)
  (h:∀ s',Inv X pins (σ.set i (some v)) H s'→(∃ a,Heap.SameBut a s.heap s'.heap∧(a = X.env.locals∨X.env.cells.lookup x = some a))→Q () s') (hf:X.fn x = true∨X.env.scope.names.lookup x = some .local:=by first | exact .inl rfl | exact .inr rfl | assumption):wpAny M A (storeName X.env x u) Q E s:=by
 obtain ⟨m,hn,hl⟩:=id I.loc
 have RZ:(X.env.scope.kind == .class || (X.env.scope.kind == .module && X.env.locals != X.env.globals)) = false:=by rw [I.ok.kind]; rfl
 have hiσ:i < σ.length:=by rw [I.len]; exact (List.getElem?_eq_some_iff.mp hi).1
 have LH:=I.LH
 have tracked:∀ {a:Addr} {h':Heap},(∃ o,s.heap.get? a = some o∧H a = none)→Heap.SameBut a s.heap h'→nF X.prog X.w H h':=fun {a h'} ha hs b ob e=>by
  obtain ⟨_,_,tu⟩:=ha
  refine (I.bE b ob e).oj (fun c w' hc q=>(hs.2 c ?_).trans q) (fun _ q=>q) fun _ _ q=>q
  rintro rfl
  rcases hc with rfl | hc
  ·rw [tu] at e; cases e
  ·rw [tu] at hc; cases hc
 rcases hx with hk | hk
 ·refine wpAny_storeName_local hk hn (fun h' hn' hs=>?_) RZ
  obtain ⟨oL,_,_,E3,_⟩:=id hn
  refine h _ ⟨I.ok,I.os,I.bare,⟨fun b o e n hb hx=>?_,fun b o e n hb hx=>?_,I.base.free,fun b o e hx=>?_,I.base.u6,I.base.rP,I.base.u7⟩,⟨_,hn',fun j y v' e1 e2 e3=>?_⟩,fun y c e=>?_,I.free,I.iZ,fun p hp=>?_,tracked ⟨oL,E3,I.free⟩ hs,by simpa using I.len⟩ ⟨_,hs,.inl rfl⟩
  ·exact (hs.2 b (Nat.ne_of_lt (Nat.lt_of_lt_of_le (Heap.lt_size e) I.ok.above))).trans (I.base.keep b o e n hb hx)
  ·obtain ⟨sl,e1⟩:=I.base.slot b o e n hb hx
   exact ⟨sl,(hs.2 b (Nat.ne_of_lt (Nat.lt_of_lt_of_le (Heap.lt_size e) I.ok.above))).trans e1⟩
  ·obtain ⟨o',e1⟩:=I.base.there b o e hx
   exact ⟨o',(hs.2 b (Nat.ne_of_lt (Nat.lt_of_lt_of_le (Heap.lt_size e) I.ok.above))).trans e1⟩
  ·by_cases hj:j = i
   ·subst hj
    rw [hi] at e1; cases e1
    rw [List.getElem?_set_self hiσ] at e2
    cases e2
    exact ⟨u,r,.inl ⟨hk,by simp⟩⟩
   ·rw [List.getElem?_set_ne (Ne.symm hj)] at e2
    obtain ⟨u',r',q⟩:=hl j y v' e1 e2 e3
    refine ⟨u',r',?_⟩
    rcases q with ⟨k,e⟩ | ⟨k,c,e,z⟩
    ·refine .inl ⟨k,?_⟩
     have:y ≠ x:=fun e=>hj (yq hN e1 (e ▸ hi))
     simp [this,e]
    ·exact .inr ⟨k,c,e,z.sameBut hs (LH y c e)⟩
  ·obtain ⟨w',z⟩:=I.cell y c e
   exact ⟨w',z.sameBut hs (LH y c e)⟩
  ·obtain ⟨e,n,ne,nf,d⟩:=I.pin p hp
   exact ⟨(hs.2 p.1 ne).trans e,n,ne,nf,d⟩
 ·have R6:X.fn x = true:=by
   rcases hf with z | z
   ·exact z
   ·rw [z] at hk; cases hk
  obtain ⟨c,hc⟩:=I.ok.has x (.inl hk)
  obtain ⟨w',z⟩:=I.cell x c hc
  refine wpAny_storeName_cell I.ok.kind hk hc z (fun h' hc' hs=>?_)
  obtain ⟨oc,Zg,Sa⟩:=id z
  refine h { s with heap:=h' } ⟨I.ok,I.os,I.bare,⟨fun b o e n hb hx=>?_,fun b o e n hb hx=>?_,I.base.free,fun b o e hx=>?_,I.base.u6,I.base.rP,I.base.u7⟩,⟨m,hn.sameBut hs (Ne.symm (LH x c hc)),fun j y v' e1 e2 e3=>?_⟩,fun y c' e=>?_,I.free,I.iZ,fun p hp=>?_,tracked ⟨oc,Zg,I.iZ x c hc⟩ hs,by simpa using I.len⟩ ⟨c,hs,.inr hc⟩
  ·exact (hs.2 b (Nat.ne_of_lt (Nat.lt_of_lt_of_le (Heap.lt_size e) (I.ok.Oi x c R6 hc)))).trans (I.base.keep b o e n hb hx)
  ·obtain ⟨sl,e1⟩:=I.base.slot b o e n hb hx
   exact ⟨sl,(hs.2 b (Nat.ne_of_lt (Nat.lt_of_lt_of_le (Heap.lt_size e) (I.ok.Oi x c R6 hc)))).trans e1⟩
  ·obtain ⟨o',e1⟩:=I.base.there b o e hx
   exact ⟨o',(hs.2 b (Nat.ne_of_lt (Nat.lt_of_lt_of_le (Heap.lt_size e) (I.ok.Oi x c R6 hc)))).trans e1⟩
  ·by_cases hj:j = i
   ·subst hj
    rw [hi] at e1; cases e1
    rw [List.getElem?_set_self hiσ] at e2
    cases e2
    exact ⟨u,r,.inr ⟨.inl hk,c,hc,hc'⟩⟩
   ·rw [List.getElem?_set_ne (Ne.symm hj)] at e2
    obtain ⟨u',r',q⟩:=hl j y v' e1 e2 e3
    refine ⟨u',r',?_⟩
    rcases q with q | ⟨k,c',e,z'⟩
    ·exact .inl q
    ·refine .inr ⟨k,c',e,z'.sameBut hs ?_⟩
     rintro rfl
     exact hj (yq hN e1 (I.ok.inj _ _ _ e hc ▸ hi))
  ·by_cases Zh:c' = c
   ·subst Zh; exact ⟨_,hc'⟩
   ·obtain ⟨w2,z2⟩:=I.cell y c' e
    exact ⟨w2,z2.sameBut hs Zh⟩
  ·obtain ⟨e,n,ne,nf,d⟩:=I.pin p hp
   refine ⟨(hs.2 p.1 ?_).trans e,n,ne,nf,d⟩
   intro q
   rw [q,Zg] at e
   have q':oc = p.2:=Option.some.inj e
   exact d w' (by rw [← q']; exact Sa)
theorem yt {M:Model} {A:Around} {E:Value→Shared→Prop} {i:Nat} {x:Str} {v:V} {u:Value} {Q:Unit→Shared→Prop} (I:Inv X pins σ H s) (hN:X.N.Nodup) (hi:X.N[i]? = some x) (hx:Loc X.env.scope x) (r:RelV v u)
  (h:∀ s',Inv X pins (σ.set i (some v)) H s'→Q () s') (hf:X.fn x = true∨X.env.scope.names.lookup x = some .local:=by first | exact .inl rfl | exact .inr rfl | assumption):wpAny M A (storeName X.env x u) Q E s :=
 qh I hN hi hx r (fun s' I' _=>h s' I') hf
theorem Inv.call' {s':Shared} {ch:List Addr} (I:Inv X pins σ H s) (ho:s'.os = s.os) (u:Un (AK X.stack) ch H H' s.heap s'.heap) (bE:nF X.prog X.w H' s'.heap) (hg:AllBare s'.gens)
  (Ip:∀ b ∈ ch,(b ∈ X.ex∨X.s₀.heap.objs.size ≤ b)∧b ≠ X.env.locals∧(∀ x c,X.env.cells.lookup x = some c→c ≠ b)∧∀ p ∈ X.pn ++ pins,p.1 ≠ b):Inv X pins σ H' s':=by
 obtain ⟨h',g',d',t',o'⟩:=s'
 have e:o' = s.os:=ho
 subst e
 exact I.call (g':=g') (t':=t') (d':=d') u bE hg Ip
end
noncomputable abbrev XK:=Value→Option Addr→Hp→Prop
noncomputable abbrev St:=List (Option V)
noncomputable abbrev VK:=V→Hp→Prop
noncomputable abbrev TE:=St→Hp→VK→Prop
noncomputable abbrev TT:=St→Hp→(Bool→Hp→Prop)→Prop
noncomputable abbrev TA:=St→Hp→(List V→Hp→Prop)→Prop
structure Ends where
 nx:St→Hp→Prop
 rt:VK
 bk:St→Hp→Prop:=fun _ _=>False
 ct:St→Hp→Prop:=fun _ _=>False
noncomputable abbrev TS:=Ends→St→Hp→Prop
noncomputable def EP (X:Cx) (pins:List (Addr × Obj)) (σ:St) (Q:VK) (u:Value) (s':Shared):Prop:=∃ v H',Inv X pins σ H' s'∧RelV v u∧Q v H'
noncomputable def TP (X:Cx) (pins:List (Addr × Obj)) (σ:St) (Q:Bool→Hp→Prop) (b:Bool) (s':Shared):Prop:=∃ H',Inv X pins σ H' s'∧Q b H'
noncomputable def AP (X:Cx) (pins:List (Addr × Obj)) (σ:St) (Q:List V→Hp→Prop) (us:List Value) (s':Shared):Prop:=∃ vs H',Inv X pins σ H' s'∧Vals vs us∧Q vs H'
noncomputable def SP (X:Cx) (pins:List (Addr × Obj)) (D:Ends) (f:Flow) (s':Shared):Prop :=
 match f with
 | .next=>∃ σ' H',Inv X pins σ' H' s'∧D.nx σ' H'
 | .brk=>∃ σ' H',Inv X pins σ' H' s'∧D.bk σ' H'
 | .cont=>∃ σ' H',Inv X pins σ' H' s'∧D.ct σ' H'
 | .ret u=>∃ v σ' H',Inv X pins σ' H' s'∧RelV v u∧D.rt v H'
noncomputable def PE (X:Cx) (e:Expr) (t:TE):Prop :=
 ∀ (pins:List (Addr × Obj)) (s:Shared) (σ:St) (H:Hp) (Q:VK),Inv X pins σ H s→t σ H Q→wpAny (model X.prog X.w) X.A (eval e X.env) (EP X pins σ Q) X.xe s
noncomputable def PT (X:Cx) (e:Expr) (t:TT):Prop :=
 ∀ (pins:List (Addr × Obj)) (s:Shared) (σ:St) (H:Hp) (Q:Bool→Hp→Prop),Inv X pins σ H s→t σ H Q→wpAny (model X.prog X.w) X.A (isTrue e X.env (eval e X.env)) (TP X pins σ Q) X.xe s
noncomputable def PW (X:Cx) (e:Expr) (t:TT):Prop :=
 ∀ (whole:Sem Value) (pins:List (Addr × Obj)) (s:Shared) (σ:St) (H:Hp) (Q:Bool→Hp→Prop),Inv X pins σ H s→t σ H Q→wpAny (model X.prog X.w) X.A (isTrue e X.env whole) (TP X pins σ Q) X.xe s
theorem PW.pt {X:Cx} {e:Expr} {t:TT} (h:PW X e t):PT X e t:=h _
noncomputable def PA (X:Cx) (es:List Expr) (t:TA):Prop :=
 ∀ (pos:Pos) (pins:List (Addr × Obj)) (s:Shared) (σ:St) (H:Hp) (Q:List V→Hp→Prop),Inv X pins σ H s→t σ H Q→wpAny (model X.prog X.w) X.A (spliced (backTo pos (starEach es X.env))) (AP X pins σ Q) X.xe s
noncomputable def PS (X:Cx) (st:Stmt) (t:TS):Prop :=
 ∀ (pins:List (Addr × Obj)) (s:Shared) (σ:St) (H:Hp) (D:Ends),Inv X pins σ H s→t D σ H→wpAny (model X.prog X.w) X.A (exec st X.env) (SP X pins D) X.xe s
noncomputable def AG (X:Cx) (st:List Stmt) (t:TS):Prop :=
 ∀ (pins:List (Addr × Obj)) (s:Shared) (σ:St) (H:Hp) (D:Ends),Inv X pins σ H s→t D σ H→wpAny (model X.prog X.w) X.A (execs st X.env) (SP X pins D) X.xe s
theorem cP {α:Type} {t:Sem α} {Q Q':α→Shared→Prop} {M:Model} {A:Around} {E:Value→Shared→Prop} {s:Shared} (h:wpAny M A t Q E s) (hQ:∀ a s,Q a s→Q' a s):wpAny M A t Q' E s:=wpAny_mono h hQ fun _ _ x=>x
end L2
namespace L2
open PySem PySem.Spec PyProof.Rows
section
variable {X:Cx}
noncomputable def Sb (i:Nat):TE:=fun σ H Q=>∃ v,σ[i]? = some (some v)∧Q v H
noncomputable def tC (v:V):TE:=fun _ H Q=>Q v H
theorem iM {i:Nat} {x:Str} {pos:Pos} (hN:X.N[i]? = some x) (hv:rQ X.env.scope x) (hd:(x == ("__debug__":Str)) = false:=by decide) (om:(x == ("__classdict__":Str)) = false:=by decide):PE X (.Name x pos) (Sb i):=by
 intro pins s σ H Q I h
 obtain ⟨v,e,h⟩:=h
 obtain ⟨m,hn,hl⟩:=I.loc
 obtain ⟨u,r,l⟩:=hl i x v hN e hv
 have fin:EP X pins σ Q u s:=⟨v,H,I,r,h⟩
 rcases l with ⟨hk,hm⟩ | ⟨hk,c,hc,vK⟩
 ·exact wpAny_Name (wpAny_loadName_local I.ok.kind hk hn hm fin) hd
 ·rcases hk with hk | hk
  ·exact wpAny_Name (wpAny_loadName_cell I.ok.kind hk hc vK fin) hd
  ·exact wpAny_Name (wpAny_loadName_free I.ok.kind hk hc vK fin om) hd
theorem Fd {i j pos}:PE X (.Constant (.int i) j pos) (tC (.int i)):=fun _ _ _ H _ I h=>wpAny_Constant_int ⟨.int i,H,I.tok _,⟨_,rfl⟩,h⟩
theorem Om {b j pos}:PE X (.Constant (.bool b) j pos) (tC (.bl b)):=fun _ _ _ H _ I h=>Constant_bool ⟨.bl b,H,I,rfl,h⟩
theorem LI {j pos}:PE X (.Constant .none j pos) (tC .aU):=fun _ _ _ H _ I h=>Constant_none ⟨.aU,H,I,rfl,h⟩
theorem LJ {x j pos}:PE X (.Constant (.str x) j pos) (tC (.str x)):=fun _ _ _ H _ I h=>Calls.Constant_str ⟨.str x,H,I.tok _,⟨_,rfl⟩,h⟩
noncomputable def Gl (X:Cx) (x:Str):Prop:=X.env.kindOf x = some .globalImplicit
theorem wM {E:Value→Shared→Prop} {pins:List (Addr × Obj)} {s:Shared} {σ:St} {H:Hp} {x:Str} {u:Value} {pos:Pos} {Q:Value→Shared→Prop} (I:Inv X pins σ H s) (hg:Gl X x) (hm:X.mg x = some u) (h:Q u s)
  (hd:(x == ("__debug__":Str)) = false:=by decide):wpAny (model X.prog X.w) X.A (eval (.Name x pos) X.env) Q E s :=
 Calls.Name_function_global I.ok.kind hg (Calls.loadGlobal_global (by rw [I.ok.glob]; exact I.mod.glob.keeps I.bk) hm h) hd
theorem wN {E:Value→Shared→Prop} {pins:List (Addr × Obj)} {s:Shared} {σ:St} {H:Hp} {x:Str} {u:Value} {pos:Pos} {Q:Value→Shared→Prop} (I:Inv X pins σ H s) (hg:Gl X x) (hm:X.mg x = none) (hv:bootBuiltins x = some u) (h:Q u s)
  (hn:x ≠ "__name__":=by decide) (hd:(x == ("__debug__":Str)) = false:=by decide):wpAny (model X.prog X.w) X.A (eval (.Name x pos) X.env) Q E s:=by
 obtain ⟨mb,h1,h2⟩:=I.mod.blt
 exact Calls.Name_function_global I.ok.kind hg (Calls.loadGlobal_builtin (by rw [I.ok.glob]; exact I.mod.glob.keeps I.bk) hm (by rw [I.ok.blt]; exact h1.keeps I.bk) ((h2 x hn).trans hv) h) hd
theorem IC {x:Str} {v:V} {u:Value} {pos:Pos} (hg:Gl X x) (hm:X.mg x = some u) (r:RelV v u) (hd:(x == ("__debug__":Str)) = false:=by decide):PE X (.Name x pos) (tC v) :=
 fun _ _ _ H _ I h=>wM I hg hm ⟨v,H,I,r,h⟩ hd
variable {a b:Expr} {ta tb:TE} {pos:Pos}
variable {tA tB':TT} {rest:List Expr}
noncomputable def Sd (t u:TT):TT:=fun σ H Q=>t σ H fun c H1=>if c = true then u σ H1 Q else Q false H1
noncomputable def tOr (t u:TT):TT:=fun σ H Q=>t σ H fun c H1=>if c = true then Q true H1 else u σ H1 Q
noncomputable def Se (t:TT):TT:=fun σ H Q=>t σ H fun c H1=>Q (!c) H1
theorem ID (ha:PT X a tA):PW X (.BoolOp .And [a] pos) tA:=by
 intro wh pins s σ H Q I h
 refine isTrue_and (cP (ha pins s σ H Q I h) fun c s1 e=>?_)
 cases c with
 | true=>exact isTrue_and_nil e
 | false=>exact e
theorem LK (ha:PT X a tA):PW X (.BoolOp .Or [a] pos) tA:=by
 intro wh pins s σ H Q I h
 refine isTrue_or (cP (ha pins s σ H Q I h) fun c s1 e=>?_)
 cases c with
 | false=>exact isTrue_or_nil e
 | true=>exact e
theorem LL (ha:PT X a tA) (hb:PW X (.BoolOp .And (b :: rest) pos) tB'):PW X (.BoolOp .And (a :: b :: rest) pos) (Sd tA tB'):=by
 intro wh pins s σ H Q I h
 refine isTrue_and (cP (ha pins s σ H _ I h) fun c s1 ⟨H1,I1,q1⟩=>?_)
 cases c with
 | true=>exact hb wh pins s1 σ H1 Q I1 q1
 | false=>exact ⟨H1,I1,q1⟩
theorem Oo (ha:PT X a tA) (hb:PW X (.BoolOp .Or (b :: rest) pos) tB'):PW X (.BoolOp .Or (a :: b :: rest) pos) (tOr tA tB'):=by
 intro wh pins s σ H Q I h
 refine isTrue_or (cP (ha pins s σ H _ I h) fun c s1 ⟨H1,I1,q1⟩=>?_)
 cases c with
 | true=>exact ⟨H1,I1,q1⟩
 | false=>exact hb wh pins s1 σ H1 Q I1 q1
theorem LM (ha:PT X a tA):PT X (.UnaryOp .Not a pos) (Se tA):=by
 intro pins s σ H Q I h
 exact isTrue_not (ha pins s σ H (fun c H1=>Q (!c) H1) I h)
noncomputable def Oq (ta tb:TE):TE:=fun σ H Q=>ta σ H fun x H1=>∃ c,x = .bl c∧if c = true then tb σ H1 Q else Q (.bl false) H1
theorem LN {op} {t:TE} (h:PE X a t):PE X (.BoolOp op [a] pos) t:=fun pins s σ H Q I hw=>BoolOp_one (h pins s σ H Q I hw)
theorem LO (ha:PE X a ta) (hb:PE X (.BoolOp .And (b :: rest) pos) tb):PE X (.BoolOp .And (a :: b :: rest) pos) (Oq ta tb):=by
 intro pins s σ H Q I h
 refine BoolOp_and (cP (ha pins s σ H _ I h) fun v s1 ⟨x,H1,I1,r1,q1⟩=>?_)
 obtain ⟨c,rfl,q1⟩:=q1
 cases r1
 refine wpAny_truthy_bool ?_
 cases c with
 | true=>exact hb pins s1 σ H1 Q I1 q1
 | false=>exact ⟨.bl false,H1,I1,rfl,q1⟩
noncomputable def tIf (t:TT) (ta tb:TE):TE:=fun σ H Q=>t σ H fun c H1=>if c = true then ta σ H1 Q else tb σ H1 Q
theorem Fe {c:Expr} (hc:PT X c tA) (ha:PE X a ta) (hb:PE X b tb):PE X (.IfExp c a b pos) (tIf tA ta tb):=by
 intro pins s σ H Q I h
 refine wpAny_IfExp (cP (hc pins s σ H _ I h) fun d s1 ⟨H1,I1,q1⟩=>?_)
 cases d with
 | true=>exact ha pins s1 σ H1 Q I1 q1
 | false=>exact hb pins s1 σ H1 Q I1 q1
end
end L2
namespace L2
open PySem PySem.Spec PyProof.Rows
noncomputable def gG (K:PySem.W.Frag) (H:Hp) (a:Addr) (xs:List V):Prop :=
 Rd H a (.lst xs) ∨
  ∃ (o:Obj) (its:Array Value) (n:Nat),K.lookup a = some o∧o.cls = .type "list"∧o.dict = none∧o.data = .seq its n∧its.size ≤ sizeLine∧Vals xs its.toList
noncomputable def kT (K:PySem.W.Frag) (H:Hp) (a:Addr) (xs:List V):Prop :=
 Rd H a (.tup xs) ∨
  ∃ (o:Obj) (its:Array Value) (n:Nat),K.lookup a = some o∧o.cls = .type "tuple"∧o.data = .seq its n∧its.size ≤ sizeLine∧Vals xs its.toList
noncomputable def Sf:Value→Option V
 | .none=>some .aU
 | .bool b=>some (.bl b)
 | .int i _=>some (.int i)
 | .str x _=>some (.str x)
 | .bytes b _=>some (.NT b)
 | .float b _=>some (.Q3 b)
 | .ref a=>some (.ref a)
 | .type n=>some (.ty n)
 | _=>none
theorem RelV.abs {x:V} {u:Value} (r:RelV x u):Sf u = some x:=by
 cases x with
 | aU=>cases r; rfl
 | bl _=>cases r; rfl
 | int _=>obtain ⟨t,rfl⟩:=r; rfl
 | str _=>obtain ⟨t,rfl⟩:=r; rfl
 | NT _=>obtain ⟨t,rfl⟩:=r; rfl
 | Q3 _=>obtain ⟨t,rfl⟩:=r; rfl
 | ref _=>cases r; rfl
 | ty _=>cases r; rfl
theorem RelV.inj {x y:V} {u:Value} (r:RelV x u) (q:RelV y u):x = y:=Option.some.inj (r.abs.symm.trans q.abs)
theorem Vals.inj:∀ {xs ys:List V} {us:List Value},Vals xs us→Vals ys us→xs = ys
 | _,_,_,.nil,.nil=>rfl
 | _,_,_,.cons r t,.cons r' t'=>by rw [r.inj r',Vals.inj t t']
section
variable {X:Cx} {pins:List (Addr × Obj)} {σ:St} {H:Hp} {s:Shared} {a:Addr} {xs ys:List V}
theorem gG.of {K:PySem.W.Frag} (h:H a = some (.lst xs)):gG K H a xs:=.inl (.inl h)
theorem kT.of {K:PySem.W.Frag} (h:H a = some (.tup xs)):kT K H a xs:=.inl (.inl h)
theorem Inv.list (I:Inv X pins σ H s) (h:gG X.K H a xs):∃ its:List Value,Vals xs its∧PlainL s.heap a its.toArray∧xs.length ≤ sizeLine:=by
 rcases h with h | ⟨o,its,n,hk,hc,hd,hs,hz,r⟩
 ·obtain ⟨z,its,n,r,e⟩:=h.ok I.bE
  exact ⟨its,r,⟨_,n,e,rfl,rfl,rfl⟩,z⟩
 ·refine ⟨its.toList,r,⟨o,n,I.Cy a o hk,hc,hd,by simpa using hs⟩,?_⟩
  have e:=r.length
  simp only [Array.length_toList] at e
  omega
theorem Inv.tuple (I:Inv X pins σ H s) (h:kT X.K H a xs):∃ its:List Value,Vals xs its∧IsTup s.heap a its.toArray∧xs.length ≤ sizeLine:=by
 rcases h with h | ⟨o,its,n,hk,hc,hs,hz,r⟩
 ·obtain ⟨z,its,r,p⟩:=h.ok I.bE
  exact ⟨its,r,p,z⟩
 ·refine ⟨its.toList,r,⟨o,I.Cy a o hk,hc,n,by simpa using hs⟩,?_⟩
  have e:=r.length
  simp only [Array.length_toList] at e
  omega
theorem Inv.Ff (I:Inv X pins σ H s) (h:gG X.K H a xs) (h':gG X.K H a ys):xs = ys:=by
 obtain ⟨its,r,⟨o,n,e,_,_,d⟩,_⟩:=I.list h
 obtain ⟨its',r',⟨o',n',e',_,_,d'⟩,_⟩:=I.list h'
 rw [e] at e'; cases e'
 rw [d] at d'
 injection d' with d1 _
 have:its = its':=by simpa using congrArg Array.toList d1
 subst this
 exact r.inj r'
theorem Inv.DP (I:Inv X pins σ H s) (h:kT X.K H a xs) (h':kT X.K H a ys):xs = ys:=by
 obtain ⟨its,r,⟨o,e,_,n,d⟩,_⟩:=I.tuple h
 obtain ⟨its',r',⟨o',e',_,n',d'⟩,_⟩:=I.tuple h'
 rw [e] at e'; cases e'
 rw [d] at d'
 injection d' with d1 _
 have:its = its':=by simpa using congrArg Array.toList d1
 subst this
 exact r.inj r'
end
noncomputable abbrev Cx.u9 (X:Cx) (E:Value→Shared→Prop):Cx:={ X with xe:=E }
noncomputable abbrev Cx.NV (X:Cx):Cx:=X.u9 fun _ _=>False
theorem Cx.Ok.u9 {X:Cx} (ok:X.Ok) (E:Value→Shared→Prop):(X.u9 E).Ok :=
 ⟨ok.mod,ok.kind,ok.glob,ok.blt,ok.above,ok.inj,ok.has,ok.Oi,ok.hd,ok.frames,ok.Q5,ok.Oj,ok.bs,ok.Io,ok.Fc,ok.DN,ok.rR,ok.LG⟩
theorem Cx.Ok.lN {X:Cx} {E:Value→Shared→Prop} (ok:(X.u9 E).Ok):X.Ok :=
 ⟨ok.mod,ok.kind,ok.glob,ok.blt,ok.above,ok.inj,ok.has,ok.Oi,ok.hd,ok.frames,ok.Q5,ok.Oj,ok.bs,ok.Io,ok.Fc,ok.DN,ok.rR,ok.LG⟩
section
variable {X:Cx} {pins:List (Addr × Obj)} {σ:St} {H:Hp} {s:Shared} {E:Value→Shared→Prop}
theorem Inv.u9 (I:Inv X pins σ H s) (E:Value→Shared→Prop):Inv (X.u9 E) pins σ H s:=⟨I.ok.u9 E,I.os,I.bare,I.base,I.loc,I.cell,I.free,I.iZ,I.pin,I.bE,I.len⟩
theorem Inv.lN (I:Inv (X.u9 E) pins σ H s):Inv X pins σ H s:=⟨I.ok.lN,I.os,I.bare,I.base,I.loc,I.cell,I.free,I.iZ,I.pin,I.bE,I.len⟩
theorem SP.lN {D:Ends} {f:Flow} {s':Shared} (h:SP (X.u9 E) pins D f s'):SP X pins D f s':=by
 cases f with
 | next=>obtain ⟨σ',H',I,q⟩:=h; exact ⟨σ',H',I.lN,q⟩
 | brk=>obtain ⟨σ',H',I,q⟩:=h; exact ⟨σ',H',I.lN,q⟩
 | cont=>obtain ⟨σ',H',I,q⟩:=h; exact ⟨σ',H',I.lN,q⟩
 | ret u=>obtain ⟨v,σ',H',I,r,q⟩:=h; exact ⟨v,σ',H',I.lN,r,q⟩
theorem AG.NV {st:List Stmt} {t:TS} (h:AG X.NV st t):AG X st t:=fun pins s σ H D I hw =>
 wpAny_mono (h pins s σ H D (I.u9 _) hw) (fun _ _ q=>q.lN) fun _ _ z=>False.elim z
end
section
variable {X:Cx} {st:Stmt} {rest:List Stmt} {t u:TS} {e:Expr} {te:TE} {pos:Pos}
noncomputable def Ot:TS:=fun D σ H=>D.nx σ H
noncomputable def Sg (t u:TS):TS:=fun D σ H=>t { D with nx:=u D } σ H
theorem IE:AG X [] Ot:=fun _ _ σ H _ I h=>wpAny_execs_nil ⟨σ,H,I,h⟩
theorem Fh (h1:PS X st t) (h2:AG X rest u):AG X (st :: rest) (Sg t u):=by
 intro pins s σ H D I h
 refine wpAny_execs_cons (cP (h1 pins s σ H { D with nx:=u D } I h) fun f s1 q=>?_)
 cases f with
 | next =>
  obtain ⟨σ',H',I',q⟩:=q
  exact h2 pins s1 σ' H' D I' q
 | ret v=>exact q
 | brk=>exact q
 | cont=>exact q
theorem IF (h1:PS X st t):AG X [st] t:=by
 intro pins s σ H D I h
 refine wpAny_execs_cons (cP (h1 pins s σ H D I h) fun f s1 q=>?_)
 cases f with
 | next=>exact wpAny_execs_nil q
 | ret v=>exact q
 | brk=>exact q
 | cont=>exact q
theorem Inv.quiet {pins:List (Addr × Obj)} {σ:St} {H:Hp} {s:Shared} (I:Inv X pins σ H s):interactive X.env = false:=by simp [interactive,I.ok.kind]
noncomputable def Ou (te:TE):TS:=fun D σ H=>te σ H fun _ H1=>D.nx σ H1
theorem wO (he:PE X e te) (hs:swapsWith e none pos.line X.env = pure false:=by rfl):PS X (.Expr e pos) (Ou te):=by
 intro pins s σ H D I h
 exact wpAny_Expr_any (cP (he pins s σ H _ I h) fun v s1 ⟨x,H1,I1,r1,q1⟩=>⟨σ,H1,I1,q1⟩) I.quiet hs
noncomputable def Sh (te:TE):TS:=fun D σ H=>te σ H D.rt
theorem LP (he:PE X e te):PS X (.Return (some e) pos) (Sh te):=by
 intro pins s σ H D I h
 exact wpAny_Return_some (cP (he pins s σ H _ I h) fun v s1 ⟨x,H1,I1,r1,q1⟩=>⟨x,σ,H1,I1,r1,q1⟩)
noncomputable def Si (c:TT) (t u:TS):TS:=fun D σ H=>c σ H fun b H1=>if b = true then t D σ H1 else u D σ H1
theorem Ov {c:Expr} {a b:List Stmt} {tc:TT} (hc:PT X c tc) (ha:AG X a t) (hb:AG X b u):PS X (.If c a b pos) (Si tc t u):=by
 intro pins s σ H D I h
 refine wpAny_If (cP (hc pins s σ H _ I h) fun d s1 ⟨H1,I1,q1⟩=>?_)
 cases d with
 | true=>exact ha pins s1 σ H1 D I1 q1
 | false=>exact hb pins s1 σ H1 D I1 q1
end
noncomputable abbrev TG:=V→St→Hp→(St→Hp→Prop)→Prop
noncomputable abbrev LQ:=List V→St→Hp→(St→Hp→Prop)→Prop
noncomputable def PG (X:Cx) (target:Expr) (t:TG):Prop :=
 ∀ (pins:List (Addr × Obj)) (s:Shared) (σ:St) (H:Hp) (v:V) (u:Value) (Q:St→Hp→Prop),Inv X pins σ H s→RelV v u→t v σ H Q →
  wpAny (model X.prog X.w) X.A (assign target X.env u) (fun _ s'=>∃ σ' H',Inv X pins σ' H' s'∧Q σ' H') X.xe s
noncomputable def Q7 (X:Cx) (ts:List Expr) (t:LQ):Prop :=
 ∀ (pins:List (Addr × Obj)) (s:Shared) (σ:St) (H:Hp) (vs:List V) (us:List Value) (Q:St→Hp→Prop),Inv X pins σ H s→Vals vs us→t vs σ H Q →
  wpAny (model X.prog X.w) X.A (assignInOrder ((assignEach ts X.env).map (·.2)) us) (fun _ s'=>∃ σ' H',Inv X pins σ' H' s'∧Q σ' H') X.xe s
section
variable {X:Cx} {pos:Pos}
noncomputable def KL (i:Nat):TG:=fun v σ H Q=>Q (σ.set i (some v)) H
theorem wQ {i:Nat} {x:Str} (hN:X.N.Nodup) (hi:X.N[i]? = some x) (hx:Loc X.env.scope x) (hf:X.fn x = true∨X.env.scope.names.lookup x = some .local:=by first | exact .inl rfl | exact .inr rfl | assumption):PG X (.Name x pos) (KL i):=by
 intro pins s σ H v u Q I r h
 exact wpAny_assign_Name (yt I hN hi hx r (fun s' I'=>⟨_,H,I',h⟩) hf)
noncomputable def Sj:LQ:=fun vs σ H Q=>vs = []∧Q σ H
noncomputable def Ox (t:TG) (u:LQ):LQ:=fun vs σ H Q=>∃ v r,vs = v :: r∧t v σ H fun σ' H'=>u r σ' H' Q
theorem IG:Q7 X [] Sj:=by
 intro pins s σ H vs us Q I r h
 obtain ⟨e,h⟩:=h
 subst e
 cases r
 exact assignInOrder_nil ⟨σ,H,I,h⟩
theorem yu {e:Expr} {es:List Expr} {t:TG} {u:LQ} (h1:PG X e t) (h2:Q7 X es u)
  (hs:(assignEach (e :: es) X.env).map (·.2) = assign e X.env :: (assignEach es X.env).map (·.2):=by rfl):Q7 X (e :: es) (Ox t u):=by
 intro pins s σ H vs us Q I r h
 obtain ⟨v,vr,e1,h⟩:=h
 subst e1
 cases r with
 | cons r rr =>
  rw [hs]
  refine assignInOrder_cons (cP (h1 pins s σ H _ _ _ I r h) fun _ s1 ⟨σ1,H1,I1,q1⟩=>?_)
  exact h2 pins s1 σ1 H1 _ _ Q I1 rr q1
noncomputable def Sk (K:PySem.W.Frag) (n:Nat) (t:LQ):TG:=fun v σ H Q=>∃ a xs,v = .ref a∧kT K H a xs∧xs.length = n∧t xs σ H Q
theorem LR {es:List Expr} {k:Nat} {t:LQ} {n:Nat} (hc:X.calm = true) (h:Q7 X es t)
  (hn:(assignEach es X.env).length = n:=by rfl) (ym:(assignEach es X.env).findIdx? (·.1) = none:=by rfl):PG X (.Tuple es k pos) (Sk X.K n t):=by
 intro pins s σ H v u Q I r hw
 obtain ⟨a,xs,e1,hq,hl,hw⟩:=hw
 subst e1
 cases r
 obtain ⟨its,rv,ht,hz⟩:=I.tuple hq
 refine assign_Tuple_tuple (I.ok.hd hc) ht (by simp [hn,← hl,rv.length]) ym fun h' hx=>?_
 have I1:Inv X pins σ H { s with heap:=h' }:=I.kept (t':=s.toks) fun b o e=>hx b o (Nat.ne_of_lt (Heap.lt_size e)) e
 exact h pins _ σ H xs _ Q I1 (by simpa using rv) hw
noncomputable def Sm (te:TE) (g:TG):TS:=fun D σ H=>te σ H fun x H1=>g x σ H1 D.nx
theorem Fi {i:Nat} {x:Str} {e:Expr} {te:TE} {pos':Pos} (hN:X.N.Nodup) (hi:X.N[i]? = some x) (hx:Loc X.env.scope x) (he:PE X e te) (hs:swapsWith e (some (.Name x pos')) pos.line X.env = pure false:=by rfl) (hf:X.fn x = true∨X.env.scope.names.lookup x = some .local:=by first | exact .inl rfl | exact .inr rfl | assumption) :
  PS X (.Assign [.Name x pos'] e pos) (Sm te (KL i)):=by
 intro pins s σ H D I h
 refine wpAny_Assign_Name (cP (he pins s σ H _ I h) fun v s1 ⟨y,H1,I1,r1,q1⟩=>?_) hs
 exact yt I1 hN hi hx r1 (fun s2 I2=>⟨_,H1,I2,q1⟩) hf
end
section
variable {X:Cx} {pos:Pos}
noncomputable def LS (c:TT) (tb:TS):TS:=fun D σ H=>∃ W:Nat→St→Hp→Prop,(∃ m,W m σ H)∧∀ m σ H,W m σ H →
 c σ H fun b H1=>if b = true then ∃ N:St→Hp→Prop,(∀ σ' H',N σ' H'→∃ m',m' < m∧W m' σ' H')∧tb { D with nx:=N,ct:=N,bk:=D.nx } σ H1 else D.nx σ H1
theorem Fj {c:Expr} {body:List Stmt} {tc:TT} {tb:TS} (hp:PassesOwn (model X.prog X.w) X.A X.env X.xe) (hc:PT X c tc) (hb:AG X body tb):PS X (.While c body [] pos) (LS tc tb):=by
 intro pins s σ H D I h
 obtain ⟨W,⟨m0,w0⟩,turn⟩:=h
 refine wpAny_While (codeAny_whileLoop (fun n s'=>∃ σ' H',Inv X pins σ' H' s'∧W n σ' H') ?_ m0 ⟨σ,H,I,w0⟩)
 rintro n s1 ⟨σ1,H1,I1,w1⟩
 refine wpAny_passesOwn hp (cP (hc pins s1 σ1 H1 _ I1 (turn n σ1 H1 w1)) fun b s2 ⟨H2,I2,q2⟩=>?_)
 cases b with
 | true =>
  obtain ⟨N,hN,q2⟩:=q2
  rw [if_pos rfl]
  refine wpAny_passesOwn hp (cP (hb pins s2 σ1 H2 _ I2 q2) fun f s3 q3=>?_)
  cases f with
  | next =>
   obtain ⟨σ3,H3,I3,n3⟩:=q3
   obtain ⟨m',hm,w3⟩:=hN σ3 H3 n3
   exact ⟨m',hm,σ3,H3,I3,w3⟩
  | cont =>
   obtain ⟨σ3,H3,I3,n3⟩:=q3
   obtain ⟨m',hm,w3⟩:=hN σ3 H3 n3
   exact ⟨m',hm,σ3,H3,I3,w3⟩
  | brk=>exact q3
  | ret v=>exact q3
 | false =>
  rw [if_neg Bool.false_ne_true]
  exact wpAny_execs_nil ⟨σ1,H2,I2,q2⟩
end
structure It where
 go:Nat→Hp→Prop
 Q8:Nat→Hp→V→Hp→Prop
 stop:Nat→Hp→Prop
noncomputable def lP (X:Cx) (pins:List (Addr × Obj)) (H:Hp) (b:Addr):Prop :=
 H b = none∧b ≠ X.env.locals∧b ∉ X.fs∧(b ∈ X.ex∨X.s₀.heap.objs.size ≤ b)∧(∀ x c,X.env.cells.lookup x = some c→c ≠ b)∧∀ p ∈ X.pn ++ pins,p.1 ≠ b
theorem Inv.Fm {X:Cx} {pins:List (Addr × Obj)} {σ:St} {H H':Hp} {s:Shared} {b:Addr} (I:Inv X pins σ H s) (hb:s.heap.objs.size ≤ b) (hn:H' b = none):lP X pins H' b:=by
 refine ⟨hn,Nat.ne_of_gt (Nat.lt_of_lt_of_le I.lt hb),I.RY hb,.inr (Nat.le_trans I.sz hb),fun x c e z=>?_,fun p hp z=>?_⟩
 ·obtain ⟨v,q⟩:=I.cell x c e
  exact absurd (Nat.lt_of_lt_of_le q.lt (by rw [z]; exact hb)) (Nat.lt_irrefl _)
 ·exact absurd (Nat.lt_of_lt_of_le (Heap.lt_size (I.pin p hp).1) (by rw [z]; exact hb)) (Nat.lt_irrefl _)
structure Turn (P:Program) (w:World) (K:PySem.W.Frag) (tg:Expr) (J:It) (fp:List Addr) (it:Addr) (tn:Nat→Heap→Prop):Prop where
 mem:it ∈ fp
 obj:∀ i h,tn i h→∀ b ∈ fp,∃ o,h.get? b = some o∧∀ v,o.data ≠ .cell v
 keep:∀ i h h',tn i h→(∀ b ∈ fp,∀ o,h.get? b = some o→h'.get? b = some o)→tn i h'
 item:∀ (X:Cx),X.prog = P→X.w = w→X.K = K→X.calm = true→∀ (i:Nat) (pins:List (Addr × Obj)) (s:Shared) (σ:St) (H:Hp) (E:Value→Shared→Prop),Inv X pins σ H s→(∀ b ∈ fp,lP X pins H b)→tn i s.heap→J.go i H →
  wpAny (model P w) X.A (pyNext (.ref it)) (fun r s1=>∃ u,r = some u ∧
   wpAny (model P w) X.A (letOwnedTupleGo tg (.ref it) u) (fun _ s2=>∃ x H',Inv X pins σ H' s2∧RelV x u∧J.Q8 i H x H'∧tn (i + 1) s2.heap∧∀ b ∈ fp,H' b = none) E s1) E s
 done:∀ (X:Cx),X.prog = P→X.w = w→X.K = K→X.calm = true→∀ (i:Nat) (pins:List (Addr × Obj)) (s:Shared) (σ:St) (H:Hp) (E:Value→Shared→Prop),Inv X pins σ H s→(∀ b ∈ fp,lP X pins H b)→tn i s.heap→J.stop i H →
  wpAny (model P w) X.A (pyNext (.ref it)) (fun r s1=>r = none∧Inv X pins σ H s1) E s
 self:∀ (A:Around) (i:Nat) (s:Shared) (Q:Value→Shared→Prop) (E:Value→Shared→Prop),tn i s.heap→Q (.ref it) s→wpAny (model P w) A (pyIter (.ref it)) Q E s
noncomputable abbrev TI:=St→Hp→(It→Hp→Prop)→Prop
noncomputable def Zi (X:Cx) (pins:List (Addr × Obj)) (σ:St) (tg:Expr) (R:It→Hp→Prop) (IH:Value) (s2:Shared):Prop :=
 ∃ (it:Addr) (fp:List Addr) (tn:Nat→Heap→Prop) (J:It) (H':Hp),IH = .ref it∧Inv X pins σ H' s2∧Turn X.prog X.w X.K tg J fp it tn∧tn 0 s2.heap∧(∀ b ∈ fp,lP X pins H' b)∧R J H'
noncomputable def PI (X:Cx) (tg iter:Expr) (wi:TI):Prop :=
 ∀ (pins:List (Addr × Obj)) (s:Shared) (σ:St) (H:Hp) (R:It→Hp→Prop),Inv X pins σ H s→wi σ H R →
  wpAny (model X.prog X.w) X.A (eval iter X.env) (fun v s1=>wpAny (model X.prog X.w) X.A (pyIter v) (Zi X pins σ tg R) X.xe s1) X.xe s
theorem Fn {M:Model} {A:Around} {E:Value→Shared→Prop} {s:Shared} {tg:Expr} {it:Addr} {u:Value} {o:Obj} {n:String} {vs:Array Value} {Q:Unit→Shared→Prop} (ho:s.heap.get? it = some o) (hc:o.cls = .type n) (hd:o.data = .fields vs)
  (hn:["enumerate","zip","dict_itemiterator","dict_reverseitemiterator","odict_iterator","itertools.zip_longest","itertools.pairwise"].contains n = false) (hQ:Q () s):wpAny M A (letOwnedTupleGo tg (.ref it) u) Q E s:=by
 unfold letOwnedTupleGo
 cases tg <;> first
  | exact wpAny_pure hQ
  | (cases u <;> first
    | exact wpAny_pure hQ
    | (refine wpAny_bind (wpAny_load ho ?_)
       rw [hc,hd]
       show wpAny M A (if (["enumerate","zip","dict_itemiterator","dict_reverseitemiterator","odict_iterator","itertools.zip_longest","itertools.pairwise"].contains n && vs[0]? == some (rawInt _)) = true then _ else _) Q E s
       rw [if_neg (by intro h; rw [hn,Bool.false_and] at h; cases h)]
       exact wpAny_pure hQ))
noncomputable def Sn (K:PySem.W.Frag) (a:Addr):It :=
 ⟨fun i H=>∃ xs x,gG K H a xs∧xs[i]? = some x,fun i H x H'=>H' = H∧∀ xs,gG K H a xs→xs[i]? = some x,fun i H=>∃ xs,gG K H a xs∧xs.length ≤ i⟩
noncomputable def So (K:PySem.W.Frag) (a:Addr):It :=
 ⟨fun i H=>∃ xs x,kT K H a xs∧xs[i]? = some x,fun i H x H'=>H' = H∧∀ xs,kT K H a xs→xs[i]? = some x,fun i H=>∃ xs,kT K H a xs∧xs.length ≤ i⟩
noncomputable def Oy (lo:Int) (n:Nat):It:=⟨fun i _=>i < n,fun i H x H'=>H' = H∧x = .int (lo + i),fun i _=>n ≤ i⟩
theorem DQ {P:Program} {w:World} {K:PySem.W.Frag} {tg:Expr} (a it:Addr):Turn P w K tg (Sn K a) [it] it (fun i h=>h.IsListIter it a i) where
 mem:=by simp
 obj:=fun i h st b hb=>by
  have e:b = it:=by simpa using hb
  subst e
  obtain ⟨o,e,c,d⟩:=st
  exact ⟨o,e,fun v z=>by rw [d] at z; cases z⟩
 keep:=fun i h h' st k=>st.at fun o e=>k it (by simp) o e
 item:=by
  intro X hP hw hK hc i pins s σ H E I hf st hg
  subst hP hw hK
  obtain ⟨xs,x,hq,hx⟩:=hg
  obtain ⟨its,rv,p,hz⟩:=I.list hq
  obtain ⟨u,hu,ru⟩:=rv.get hx
  obtain ⟨f0,f1,f2,f3,f4,f5⟩:=hf it (by simp)
  refine wpAny_pyNext_list_item st p.isList (x:=u) (by simpa using hu) fun h' st' sb=>?_
  have I1:Inv X pins σ H { s with heap:=h' }:=I.turned (t':=s.toks) (fun b o hb e=>(sb.2 b hb).trans e) f0 f1 f3 f4 f5
  obtain ⟨o,e,c,d⟩:=id st'
  exact ⟨u,rfl,Fn (s:={ s with heap:=h' }) e c d (by decide) ⟨x,H,I1,ru,⟨rfl,fun ys hy=>by rw [I.Ff hy hq]; exact hx⟩,st',fun b hb=>(hf b hb).1⟩⟩
 done:=by
  intro X hP hw hK hc i pins s σ H E I hf st hg
  subst hP hw hK
  obtain ⟨xs,hq,hx⟩:=hg
  obtain ⟨its,rv,p,hz⟩:=I.list hq
  obtain ⟨f0,f1,f2,f3,f4,f5⟩:=hf it (by simp)
  have hl:=rv.length
  exact wpAny_pyNext_list_end (I.ok.hd hc) st p.isList (by simp; omega) fun h' eb=>⟨rfl,I.turned (t':=s.toks) (fun b o hb e=>eb b o hb e) f0 f1 f3 f4 f5⟩
 self:=fun _ _ _ _ _ st h=>wpAny_pyIter_listiter st h
theorem AN {P:Program} {w:World} {K:PySem.W.Frag} {tg:Expr} (a it:Addr):Turn P w K tg (So K a) [it] it (fun i h=>h.IsTupleIter it a i) where
 mem:=by simp
 obj:=fun i h st b hb=>by
  have e:b = it:=by simpa using hb
  subst e
  obtain ⟨o,e,c,d⟩:=st
  exact ⟨o,e,fun v z=>by rw [d] at z; cases z⟩
 keep:=fun i h h' st k=>st.at fun o e=>k it (by simp) o e
 item:=by
  intro X hP hw hK hc i pins s σ H E I hf st hg
  subst hP hw hK
  obtain ⟨xs,x,hq,hx⟩:=hg
  obtain ⟨its,rv,p,hz⟩:=I.tuple hq
  obtain ⟨u,hu,ru⟩:=rv.get hx
  obtain ⟨f0,f1,f2,f3,f4,f5⟩:=hf it (by simp)
  refine wpAny_pyNext_tuple_item st (show s.heap.IsTuple a its.toArray from p) (x:=u) (by simpa using hu) fun h' st' sb=>?_
  have I1:Inv X pins σ H { s with heap:=h' }:=I.turned (t':=s.toks) (fun b o hb e=>(sb.2 b hb).trans e) f0 f1 f3 f4 f5
  obtain ⟨o,e,c,d⟩:=id st'
  exact ⟨u,rfl,Fn (s:={ s with heap:=h' }) e c d (by decide) ⟨x,H,I1,ru,⟨rfl,fun ys hy=>by rw [I.DP hy hq]; exact hx⟩,st',fun b hb=>(hf b hb).1⟩⟩
 done:=by
  intro X hP hw hK hc i pins s σ H E I hf st hg
  subst hP hw hK
  obtain ⟨xs,hq,hx⟩:=hg
  obtain ⟨its,rv,p,hz⟩:=I.tuple hq
  obtain ⟨f0,f1,f2,f3,f4,f5⟩:=hf it (by simp)
  have hl:=rv.length
  exact wpAny_pyNext_tuple_end (I.ok.hd hc) st (show s.heap.IsTuple a its.toArray from p) (by simp; omega) fun h' eb=>⟨rfl,I.turned (t':=s.toks) (fun b o hb e=>eb b o hb e) f0 f1 f3 f4 f5⟩
 self:=fun _ _ _ _ _ st h=>wpAny_pyIter_tupleiter st h
theorem AO {P:Program} {w:World} {K:PySem.W.Frag} {tg:Expr} (it:Addr) (lo:Int) (n:Nat):Turn P w K tg (Oy lo n) [it] it (fun i h=>IsRangeIter h it (lo + (i:Nat) * 1) ((n:Int) - (i:Nat)) 1) where
 mem:=by simp
 obj:=fun i h st b hb=>by
  have e:b = it:=by simpa using hb
  subst e
  exact ⟨_,st,fun v z=>by
   have z':Data.fields _ = Data.cell v:=z
   cases z'⟩
 keep:=fun i h h' st k=>k it (by simp) _ st
 item:=by
  intro X hP hw hK hc i pins s σ H E I hf st hg
  subst hP hw hK
  obtain ⟨f0,f1,f2,f3,f4,f5⟩:=hf it (by simp)
  have W:=Walks.range (prog:=X.prog) (w:=X.w) (I.ok.hd hc) it lo 1 n
  refine W.item i s _ _ hg st fun v h' tk hv st' kk=>?_
  obtain ⟨t,rfl⟩:=hv
  have I1:Inv X pins σ H { s with heap:=h',toks:=tk }:=I.turned (fun b o hb e=>kk b o (by simpa using hb) e) f0 f1 f3 f4 f5
  refine ⟨_,rfl,Fn (s:={ s with heap:=h',toks:=tk }) (n:="range_iterator") st' rfl rfl (by decide) ⟨.int (lo + i),H,I1,⟨t,?_⟩,⟨rfl,rfl⟩,st',fun b hb=>(hf b hb).1⟩⟩
  rw [Int.mul_one]
 done:=by
  intro X hP hw hK hc i pins s σ H E I hf st hg
  subst hP hw hK
  obtain ⟨f0,f1,f2,f3,f4,f5⟩:=hf it (by simp)
  exact wpAny_pyNext_range_end (I.ok.hd hc) st (by have:n ≤ i:=hg; omega) fun h' eb=>⟨rfl,I.turned (t':=s.toks) (fun b o hb e=>eb b o hb e) f0 f1 f3 f4 f5⟩
 self:=fun _ _ _ _ _ st h=>wpAny_pyIter_rangeiter st h
end L2
namespace L2
open PySem PySem.Spec PyProof.Rows
section
variable {X:Cx} {tg:Expr}
theorem yv {pins:List (Addr × Obj)} {σ:St} {H:Hp} {s:Shared} {R:It→Hp→Prop} {E:Value→Shared→Prop} {lo hi:Int} {t u v:Tok} {tk:Nat} (I:Inv X pins σ H s) (h1:-(2 ^ 62) ≤ lo) (h2:lo < 2 ^ 62) (h3:-(2 ^ 62) ≤ hi) (h4:hi < 2 ^ 62)
  (q:R (Oy lo (hi - lo).toNat) H):wpAny (model X.prog X.w) X.A (pyIter (.ref s.heap.objs.size)) (Zi X pins σ tg R) E { s with heap:=s.heap.push { cls:=.type "range",data:=.fields #[.int lo t,.int hi u,.int 1 v] },toks:=tk }:=by
 refine wpAny_pyIter_range (IsRange.new ..) (small_one h1 h2 h3 h4) ?_
 have I1:Inv X pins σ H { s with heap:=s.heap.push { cls:=.type "range",data:=.fields #[.int lo t,.int hi u,.int 1 v] },toks:=tk }:=I.kept fun b o e=>Heap.get?_push_of_some _ e
 refine ⟨(s.heap.push { cls:=.type "range",data:=.fields #[.int lo t,.int hi u,.int 1 v] }).objs.size,[(s.heap.push { cls:=.type "range",data:=.fields #[.int lo t,.int hi u,.int 1 v] }).objs.size],_,_,H,rfl,
  I1.kept (t':=tk) fun b o e=>Heap.get?_push_of_some _ e,AO _ lo (hi - lo).toNat,?_,fun b hb=>?_,q⟩
 ·have e1:lo + ((0:Nat):Int) * 1 = lo:=by simp
  have e2:(((hi - lo).toNat:Nat):Int) - ((0:Nat):Int) = Builtin.Range.rangeSize lo hi 1:=by rw [rangeSize_one]; split <;> omega
  show IsRangeIter _ _ (lo + ((0:Nat):Int) * 1) ((((hi - lo).toNat:Nat):Int) - ((0:Nat):Int)) 1
  rw [e1,e2]
  exact Heap.get?_push_size _ rfl
 ·have e:b = (s.heap.push { cls:=.type "range",data:=.fields #[.int lo t,.int hi u,.int 1 v] }).objs.size:=by simpa using hb
  subst e
  exact I1.Fm (Nat.le_refl _) (I1.bE.fresh (Nat.le_refl _))
noncomputable def Oz (ta:TA):TI:=fun σ H R=>ta σ H fun vs H1=>∃ j:Int,vs = [.int j]∧-(2 ^ 62) ≤ j∧j < 2 ^ 62∧R (Oy 0 j.toNat) H1
noncomputable def OA (ta:TA):TI:=fun σ H R=>ta σ H fun vs H1=>∃ i j:Int,vs = [.int i,.int j]∧(-(2 ^ 62) ≤ i∧i < 2 ^ 62∧-(2 ^ 62) ≤ j∧j < 2 ^ 62)∧R (Oy i (j - i).toNat) H1
theorem DR {a:Expr} {ta:TA} {p pos:Pos} (hg:Gl X "range") (hm:X.mg "range" = none) (ha:PA X [a] ta) (hs:starEach [a] X.env = [(false,eval a X.env)]:=by rfl):PI X tg (.Call (.Name "range" p) [a] [] pos) (Oz ta):=by
 intro pins s σ H R I h
 refine Call_ (wN I hg hm boot_range (PyProof.Rows.callWith_type1 (cP (ha pos pins s σ H _ I h) fun us s1 ⟨vs,H1,I1,r1,q1⟩=>?_) hs rfl))
 obtain ⟨j,e,q1,q2,q⟩:=q1
 subst e
 cases r1 with
 | cons r rr =>
  cases rr
  obtain ⟨t,rfl⟩:=r
  exact call_range_1 (yv I1 (by omega) (by omega) q1 q2 (by simpa using q))
theorem DU {a b:Expr} {ta:TA} {p pos:Pos} (hg:Gl X "range") (hm:X.mg "range" = none) (ha:PA X [a,b] ta) (hs:starEach [a,b] X.env = [(false,eval a X.env),(false,eval b X.env)]:=by rfl) (II:starEach [b] X.env = [(false,eval b X.env)]:=by rfl) :
  PI X tg (.Call (.Name "range" p) [a,b] [] pos) (OA ta):=by
 intro pins s σ H R I h
 refine Call_ (wN I hg hm boot_range (PyProof.Rows.callWith_type1 (cP (ha pos pins s σ H _ I h) fun us s1 ⟨vs,H1,I1,r1,q1⟩=>?_) (by rw [hs,II]) (by rw [II]; rfl)))
 obtain ⟨i,j,e,⟨q1,q2,q3,q4⟩,q⟩:=q1
 subst e
 cases r1 with
 | cons r rr =>
  cases rr with
  | cons r' rr =>
   cases rr
   obtain ⟨t,rfl⟩:=r
   obtain ⟨t',rfl⟩:=r'
   exact call_range_2 (yv I1 q1 q2 q3 q4 q)
noncomputable def Sq (wi:TI) (g:TG) (tb:TS):TS:=fun D σ H=>wi σ H fun J H1=>∃ W:Nat→Nat→St→Hp→Prop,(∃ m,W 0 m σ H1)∧∀ i m σ H,W i m σ H →
 (J.stop i H∧D.nx σ H)∨(J.go i H∧∃ N:St→Hp→Prop,(∀ σ' H',N σ' H'→∃ m',m' < m∧W (i + 1) m' σ' H')∧∀ x H',J.Q8 i H x H'→g x σ H' fun σ2 H2=>tb { D with nx:=N,ct:=N,bk:=D.nx } σ2 H2)
noncomputable def qi (fp:List Addr) (h:Heap):List (Addr × Obj):=fp.filterMap fun b=>(h.get? b).map fun o=>(b,o)
theorem gb {fp:List Addr} {h:Heap} {b:Addr} {o:Obj} (hb:b ∈ fp) (e:h.get? b = some o):(b,o) ∈ qi fp h:=List.mem_filterMap.mpr ⟨b,hb,by rw [e]; rfl⟩
theorem DV {fp:List Addr} {h:Heap} {p:Addr × Obj} (hp:p ∈ qi fp h):p.1 ∈ fp∧h.get? p.1 = some p.2:=by
 obtain ⟨b,hb,e⟩:=List.mem_filterMap.mp hp
 cases q:h.get? b with
 | none=>rw [q] at e; cases e
 | some o =>
  rw [q] at e
  have e':(b,o) = p:=Option.some.inj e
  subst e'
  exact ⟨hb,q⟩
theorem Inv.pinned {pins:List (Addr × Obj)} {σ:St} {H:Hp} {s:Shared} {fp:List Addr} (I:Inv X pins σ H s) (hf:∀ b ∈ fp,lP X pins H b) (ho:∀ b ∈ fp,∃ o,s.heap.get? b = some o∧∀ v,o.data ≠ .cell v):Inv X (pins ++ qi fp s.heap) σ H s :=
 I.CA fun p hp=>(List.mem_append.mp hp).elim (fun z=>I.pin p (List.mem_append_right _ z)) fun z=>by
  obtain ⟨hb,e⟩:=DV z
  obtain ⟨f0,f1,f2,_⟩:=hf p.1 hb
  obtain ⟨o,e',d⟩:=ho p.1 hb
  rw [e] at e'; cases e'
  exact ⟨e,f0,f1,f2,d⟩
theorem Inv.lQ {pins pl:List (Addr × Obj)} {σ:St} {H:Hp} {s:Shared} (I:Inv X (pins ++ pl) σ H s):Inv X pins σ H s:=I.CA fun p hp=>I.pin p (List.mem_append_right _ (List.mem_append_left _ hp))
theorem LU {iter:Expr} {body:List Stmt} {wi:TI} {g:TG} {tb:TS} {pos:Pos} (hp:PassesOwn (model X.prog X.w) X.A X.env X.xe) (hc:X.calm = true) (hi:PI X tg iter wi) (hg:PG X tg g) (hb:AG X body tb)
  (hs:∀ x,foldedSetIterable iter X.env x = pure x:=by intro _; rfl):PS X (.For tg iter body [] pos) (Sq wi g tb):=by
 intro pins s σ H D I h
 refine wpAny_For (cP (hi pins s σ H _ I h) fun v s1 h1=>cP h1 fun IH s2 h2=>?_) hs
 obtain ⟨it,fp,tn,J,H2,e,I2,T,Fo,f2,W,⟨m0,w0⟩,turn⟩:=h2
 subst e
 have LV:∀ {H':Hp},(∀ b ∈ fp,H' b = none)→∀ b ∈ fp,lP X pins H' b:=fun hn b hb=>⟨hn b hb,(f2 b hb).2⟩
 refine codeAny_forLoop_any (fun n s'=>∃ i σ' H',Inv X pins σ' H' s'∧tn i s'.heap∧(∀ b ∈ fp,H' b = none)∧W i n σ' H') ?_ m0 ⟨0,σ,H2,I2,Fo,fun b hb=>(f2 b hb).1,w0⟩
 rintro n s3 ⟨i,σ3,H3,I3,Zj,Zk,w3⟩
 rcases turn i n σ3 H3 w3 with ⟨stop,qn⟩ | ⟨go,N,hN,step⟩
 ·refine wpAny_passesOwn hp (cP (T.done X rfl rfl rfl hc i pins s3 σ3 H3 X.xe I3 (LV Zk) Zj stop) fun r s4 ⟨hr,I4⟩=>?_)
  subst hr
  exact wpAny_execs_nil ⟨σ3,H3,I4,qn⟩
 ·refine wpAny_passesOwn hp (cP (T.item X rfl rfl rfl hc i pins s3 σ3 H3 X.xe I3 (LV Zk) Zj go) fun r s4 ⟨u,hr,h4⟩=>?_)
  subst hr
  refine wpAny_passesOwn hp (cP h4 fun _ s5 ⟨x,H5,I5,r5,y5,IJ,LW⟩=>?_)
  have I5':=I5.pinned (LV LW) (T.obj _ _ IJ)
  refine wpAny_passesOwn hp (cP (hg _ s5 σ3 H5 x u _ I5' r5 (step x H5 y5)) fun _ s6 ⟨σ6,H6,I6,q6⟩=>?_)
  refine wpAny_passesOwn hp (cP (hb _ s6 σ6 H6 _ I6 q6) fun f s7 q7=>?_)
  have again:∀ {σ7:St} {H7:Hp},Inv X (pins ++ qi fp s5.heap) σ7 H7 s7→N σ7 H7→∃ m,m < n∧∃ i σ' H',Inv X pins σ' H' s7∧tn i s7.heap∧(∀ b ∈ fp,H' b = none)∧W i m σ' H':=fun {σ7 H7} I7 n7=>by
   obtain ⟨m',hm,w7⟩:=hN σ7 H7 n7
   refine ⟨m',hm,i + 1,σ7,H7,I7.lQ,T.keep _ _ _ IJ fun b hb o e=>(I7.pin (b,o) (List.mem_append_right _ (List.mem_append_right _ (gb hb e)))).1,fun b hb=>?_,w7⟩
   obtain ⟨o,e,d⟩:=T.obj _ _ IJ b hb
   exact (I7.pin (b,o) (List.mem_append_right _ (List.mem_append_right _ (gb hb e)))).2.1
  cases f with
  | next=>obtain ⟨σ7,H7,I7,n7⟩:=q7; exact again I7 n7
  | cont=>obtain ⟨σ7,H7,I7,n7⟩:=q7; exact again I7 n7
  | brk=>obtain ⟨σ7,H7,I7,q7⟩:=q7; exact ⟨σ7,H7,I7.lQ,q7⟩
  | ret v=>obtain ⟨x7,σ7,H7,I7,r7,q7⟩:=q7; exact ⟨x7,σ7,H7,I7.lQ,r7,q7⟩
end
end L2
namespace L2
open PySem PySem.Spec PyProof.Rows
noncomputable abbrev R2:=V→V→Hp→VK→Prop
noncomputable def jW (X:Cx) (f:Value→Value→Sem Value) (r:R2):Prop :=
 ∀ (pins:List (Addr × Obj)) (s:Shared) (σ:St) (H:Hp) (x y:V) (v u:Value) (Q:VK),Inv X pins σ H s→RelV x v→RelV y u→r x y H Q →
  wpAny (model X.prog X.w) X.A (f v u) (EP X pins σ Q) X.xe s
noncomputable def Ss (X:Cx) (f:Value→Sem Value) (r:V→Hp→VK→Prop):Prop :=
 ∀ (pins:List (Addr × Obj)) (s:Shared) (σ:St) (H:Hp) (x:V) (v:Value) (Q:VK),Inv X pins σ H s→RelV x v→r x H Q →
  wpAny (model X.prog X.w) X.A (f v) (EP X pins σ Q) X.xe s
noncomputable def dq (X:Cx) (f:Value) (r:List V→Hp→VK→Prop):Prop :=
 ∀ (pins:List (Addr × Obj)) (s:Shared) (σ:St) (H:Hp) (xs:List V) (us:List Value) (Q:VK),Inv X pins σ H s→Vals xs us→r xs H Q →
  wpAny (model X.prog X.w) X.A (call f us) (EP X pins σ Q) X.xe s
noncomputable def Su (X:Cx) (r:V→Hp→(Bool→Hp→Prop)→Prop):Prop :=
 ∀ (pins:List (Addr × Obj)) (s:Shared) (σ:St) (H:Hp) (x:V) (v:Value) (Q:Bool→Hp→Prop),Inv X pins σ H s→RelV x v→r x H Q →
  wpAny (model X.prog X.w) X.A (truthy v) (TP X pins σ Q) X.xe s
noncomputable def OB (r:R2) (ta tb:TE):TE:=fun σ H Q=>ta σ H fun x H1=>tb σ H1 fun y H2=>r x y H2 Q
noncomputable def Zl (r:V→Hp→VK→Prop) (ta:TE):TE:=fun σ H Q=>ta σ H fun x H1=>r x H1 Q
noncomputable def rI (C:Int→Int→Prop) (g:Int→Int→V):R2:=fun x y H Q=>∃ i j,x = .int i∧y = .int j∧C i j∧Q (g i j) H
noncomputable def CB (g:Int→Int→V):R2:=fun x y H Q=>∃ i j,x = .int i∧y = .int j∧Q (g i j) H
noncomputable def rU (g:Int→V):V→Hp→VK→Prop:=fun x H Q=>∃ i,x = .int i∧Q (g i) H
section
variable {X:Cx} {a b c:Expr} {ta tb tc:TE} {pos:Pos}
theorem LX (ha:PE X a ta) (hb:PE X b tb) {pins:List (Addr × Obj)} {s:Shared} {σ:St} {H:Hp} {R:V→V→Hp→Prop} (I:Inv X pins σ H s)
  (h:ta σ H fun x H1=>tb σ H1 fun y H2=>R x y H2) {Q:Value→Shared→Prop} {f:Value→Value→Sem Value}
  (hf:∀ v u s2 x y H2,Inv X pins σ H2 s2→RelV x v→RelV y u→R x y H2→wpAny (model X.prog X.w) X.A (f v u) Q X.xe s2) :
  wpAny (model X.prog X.w) X.A (eval a X.env) (fun v s₁=>wpAny (model X.prog X.w) X.A (eval b X.env) (fun u s₂=>wpAny (model X.prog X.w) X.A (f v u) Q X.xe s₂) X.xe s₁) X.xe s:=by
 refine cP (ha pins s σ H _ I h) fun v s1 ⟨x,H1,I1,r1,q1⟩=>?_
 refine cP (hb pins s1 σ H1 _ I1 q1) fun u s2 ⟨y,H2,I2,r2,q2⟩=>?_
 exact hf v u s2 x y H2 I2 r1 r2 q2
theorem OC {op:Operator} {r:R2} (ho:jW X (binaryOp op) r) (ha:PE X a ta) (hb:PE X b tb):PE X (.BinOp a op b pos) (OB r ta tb):=by
 intro pins s σ H Q I h
 exact wpAny_BinOp (LX ha hb I h fun v u s2 x y H2 I2 rx ry q=>ho pins s2 σ H2 x y v u Q I2 rx ry q)
theorem KN {op:UnaryOp} {r:V→Hp→VK→Prop} (ho:Ss X (unaryOp op) r) (ha:PE X a ta):PE X (.UnaryOp op a pos) (Zl r ta):=by
 intro pins s σ H Q I h
 exact UnaryOp_ (cP (ha pins s σ H _ I h) fun v s1 ⟨x,H1,I1,r1,q1⟩=>ho pins s1 σ H1 x v Q I1 r1 q1)
theorem Sv {f:Value→Value→Sem Value} {C:Int→Int→Prop} {g:Int→Int→Int}
  (rule:∀ (i j:Int) (t u:Tok) (s:Shared) (Q:Value→Shared→Prop) (E:Value→Shared→Prop),C i j→Q (.int (g i j) s.toks) { s with toks:=s.toks + 1 }→wpAny (model X.prog X.w) X.A (f (.int i t) (.int j u)) Q E s) :
  jW X f (rI C fun i j=>.int (g i j)):=by
 intro pins s σ H x y v u Q I rx ry h
 obtain ⟨i,j,rfl,rfl,hc,q⟩:=h
 obtain ⟨t,rfl⟩:=rx
 obtain ⟨t',rfl⟩:=ry
 exact rule i j t t' s _ _ hc ⟨.int (g i j),H,I.tok _,⟨_,rfl⟩,q⟩
theorem OD {f:Value→Value→Sem Value} {g:Int→Int→Int}
  (rule:∀ (i j:Int) (t u:Tok) (s:Shared) (Q:Value→Shared→Prop) (E:Value→Shared→Prop),Q (.int (g i j) s.toks) { s with toks:=s.toks + 1 }→wpAny (model X.prog X.w) X.A (f (.int i t) (.int j u)) Q E s) :
  jW X f (CB fun i j=>.int (g i j)):=by
 intro pins s σ H x y v u Q I rx ry h
 obtain ⟨i,j,rfl,rfl,q⟩:=h
 obtain ⟨t,rfl⟩:=rx
 obtain ⟨t',rfl⟩:=ry
 exact rule i j t t' s _ _ ⟨.int (g i j),H,I.tok _,⟨_,rfl⟩,q⟩
theorem LY {f:Value→Value→Sem Value} {g:Int→Int→Bool}
  (rule:∀ (i j:Int) (t u:Tok) (s:Shared) (Q:Value→Shared→Prop) (E:Value→Shared→Prop),Q (.bool (g i j)) s→wpAny (model X.prog X.w) X.A (f (.int i t) (.int j u)) Q E s) :
  jW X f (CB fun i j=>.bl (g i j)):=by
 intro pins s σ H x y v u Q I rx ry h
 obtain ⟨i,j,rfl,rfl,q⟩:=h
 obtain ⟨t,rfl⟩:=rx
 obtain ⟨t',rfl⟩:=ry
 exact rule i j t t' s _ _ ⟨.bl (g i j),H,I,rfl,q⟩
noncomputable def tB (i j:Int):Prop:=0 < j∧j < 1073741824
noncomputable def lz (i j:Int):Prop:=(-(2 ^ 64) < i∧i < 2 ^ 64)∨(-(2 ^ 64) < j∧j < 2 ^ 64)
theorem lz.ok {i j:Int} (h:lz i j):IntMulOk i j:=by
 rcases h with ⟨h1,h2⟩ | ⟨h1,h2⟩
 ·exact .of_left (intBits_le_64 h1 h2)
 ·exact .of_right (intBits_le_64 h1 h2)
theorem LZ:jW X (binaryOp .Add) (CB fun i j=>.int (i + j)):=OD fun _ _ _ _ _ _ _ q=>add_int q
theorem L0:jW X (binaryOp .Sub) (CB fun i j=>.int (i - j)):=OD fun _ _ _ _ _ _ _ q=>sub_int q
theorem L1:jW X (binaryOp .Mult) (rI lz fun i j=>.int (i * j)):=Sv fun _ _ _ _ _ _ _ hc q=>mul_int q hc.ok
theorem IK:jW X (binaryOp .FloorDiv) (rI tB fun i j=>.int (i / j)):=Sv fun i j _ _ _ _ _ hc q=>by
 have h1:(0:Int) < j:=hc.1
 have h2:j < 1073741824:=hc.2
 exact floordiv_int (by omega) (by rw [Int.fdiv_eq_ediv_of_nonneg i (by omega)]; exact q) (.inl (PyProof.noPylong_small (by omega)))
theorem L3:jW X (binaryOp .Mod) (rI (fun _ j=>0 < j) fun i j=>.int (i % j)):=Sv fun i j _ _ _ _ _ hc q=>by
 have h1:(0:Int) < j:=hc
 exact mod_int' (by omega) (by rw [Int.fmod_eq_emod_of_nonneg i (by omega)]; exact q)
theorem unI {f:Value→Sem Value} {g:Int→Int}
  (rule:∀ (i:Int) (t:Tok) (s:Shared) (Q:Value→Shared→Prop) (E:Value→Shared→Prop),Q (.int (g i) s.toks) { s with toks:=s.toks + 1 }→wpAny (model X.prog X.w) X.A (f (.int i t)) Q E s) :
  Ss X f (rU fun i=>.int (g i)):=by
 intro pins s σ H x v Q I rx h
 obtain ⟨i,rfl,q⟩:=h
 obtain ⟨t,rfl⟩:=rx
 exact rule i t s _ _ ⟨.int (g i),H,I.tok _,⟨_,rfl⟩,q⟩
theorem Fp:Ss X (unaryOp .USub) (rU fun i=>.int (-i)):=unI fun _ _ _ _ _ q=>neg_int q
end
section
variable {X:Cx} {a b c:Expr} {ta tb tc:TE} {pos:Pos}
theorem Fq {pins:List (Addr × Obj)} {σ:St} {H:Hp} {s:Shared} {Q:VK} {k k':Bool} (I:Inv X pins σ H s) (q:Q (.bl k) H) (e:k = k'):EP X pins σ Q (.bool k') s:=by
 subst e
 exact ⟨.bl k,H,I,rfl,q⟩
theorem KO:jW X (compareOp .Lt) (CB fun i j=>.bl (decide (i < j))):=LY fun _ _ _ _ _ _ _ q=>lt_int q
theorem KP:jW X (compareOp .LtE) (CB fun i j=>.bl (decide (i ≤ j))):=LY fun _ _ _ _ _ _ _ q=>le_int q
theorem KQ:jW X (compareOp .Gt) (CB fun i j=>.bl (decide (j < i))):=LY fun _ _ _ _ _ _ _ q=>gt_int q
theorem L4:jW X (compareOp .Is) (fun x y H Q=>y = .aU∧Q (.bl (decide (x = .aU))) H):=by
 intro pins s σ H x y v u Q I rx ry h
 obtain ⟨rfl,q⟩:=h
 cases ry
 refine is_none_gen (Fq I q ?_)
 cases x <;> first
  | (cases rx; rfl)
  | (obtain ⟨t,rfl⟩:=rx; rfl)
theorem IL:jW X (compareOp .IsNot) (fun x y H Q=>y = .aU∧Q (.bl (!decide (x = .aU))) H):=by
 intro pins s σ H x y v u Q I rx ry h
 obtain ⟨rfl,q⟩:=h
 cases ry
 refine isnot_none_gen (Fq I q ?_)
 cases x <;> first
  | (cases rx; rfl)
  | (obtain ⟨t,rfl⟩:=rx; rfl)
theorem iN (b:Expr) {op:CmpOp} (h:op ≠ .In:=by decide) (h2:op ≠ .NotIn:=by decide):behindInMarks op b = false:=by
 have e1:(op == CmpOp.In) = false:=by cases op <;> first | rfl | exact absurd rfl h
 have e2:(op == CmpOp.NotIn) = false:=by cases op <;> first | rfl | exact absurd rfl h2
 cases b <;> simp [behindInMarks,e1,e2]
theorem IM {op:CmpOp} {r:R2} (ho:jW X (compareOp op) r) (ha:PE X a ta) (hb:PE X b tb) (hm:behindInMarks op b = false):PE X (.Compare a [op] [b] pos) (OB r ta tb):=by
 intro pins s σ H Q I h
 exact wpAny_Compare1 (LX ha hb I h fun v u s2 x y H2 I2 rx ry q=>ho pins s2 σ H2 x y v u Q I2 rx ry q) hm
noncomputable def KR (t:TE):TT:=fun σ H Q=>t σ H fun x H'=>∃ k,x = .bl k∧Q k H'
theorem IP {op:CmpOp} {r:R2} (ho:jW X (compareOp op) r) (ha:PE X a ta) (hb:PE X b tb) (hm:behindInMarks op b = false):PT X (.Compare a [op] [b] pos) (KR (OB r ta tb)):=by
 intro pins s σ H Q I h
 refine wpAny_isTrue_Compare1 (cP (ha pins s σ H _ I h) fun v s1 ⟨x,H1,I1,r1,q1⟩=>cP (hb pins s1 σ H1 _ I1 q1) fun u s2 ⟨y,H2,I2,r2,q2⟩ =>
  cP (ho pins s2 σ H2 x y v u _ I2 r1 r2 q2) fun c s3 ⟨z,H3,I3,r3,k,e,q3⟩=>?_) hm
 subst e
 cases r3
 exact wpAny_truthy_bool ⟨H3,I3,q3⟩
noncomputable def Fs (r r':R2) (ta tb tc:TE):TE:=fun σ H Q=>ta σ H fun x H1=>tb σ H1 fun y H2=>r x y H2 fun z H3=>∃ k,z = .bl k ∧
 (if k = true then tc σ H3 fun w' H4=>r' y w' H4 Q else Q (.bl false) H3)
theorem Ft {op op':CmpOp} {r r':R2} (ho:jW X (compareOp op) r) (ho':jW X (compareOp op') r') (ha:PE X a ta) (hb:PE X b tb) (hc:PE X c tc)
  (hm:lastMarks [op,op'] [b,c] = false:=by with_unfolding_all rfl):PT X (.Compare a [op,op'] [b,c] pos) (KR (Fs r r' ta tb tc)):=by
 intro pins s σ H Q I h
 refine isTrue_chain (cP (ha pins s σ H _ I h) fun v s1 ⟨x,H1,I1,r1,q1⟩=>test_link (cP (hb pins s1 σ H1 _ I1 q1) fun u s2 ⟨y,H2,I2,r2,q2⟩ =>
  cP (ho pins s2 σ H2 x y v u _ I2 r1 r2 q2) fun d s3 ⟨z,H3,I3,r3,k,e,q3⟩=>?_)) hm
 subst e
 cases r3
 refine wpAny_truthy_bool ?_
 cases k with
 | false =>
  obtain ⟨k',e',q'⟩:=q3
  cases e'
  exact ite_ff ⟨H3,I3,q'⟩
 | true =>
  refine ite_tt (test_last (cP (hc pins s3 σ H3 _ I3 q3) fun w' s4 ⟨z',H4,I4,r4,q4⟩=>cP (ho' pins s4 σ H4 y z' u w' _ I4 r2 r4 q4) fun d' s5 ⟨z2,H5,I5,r5,k2,e2,q5⟩=>?_))
  subst e2
  cases r5
  exact wpAny_truthy_bool ⟨H5,I5,q5⟩
noncomputable def L5 (K:PySem.W.Frag) (x:V) (H:Hp) (k:Bool):Prop :=
 match x with
 | .aU=>k = false
 | .bl b=>k = b
 | .int i=>k = (i != 0)
 | .str y=>y.length ≤ sizeLine∧k = ((y.length:Int) != 0)
 | .NT y=>y.size ≤ sizeLine∧k = ((y.size:Int) != 0)
 | .ref p=>(∃ xs,gG K H p xs∧k = !xs.isEmpty)∨(∃ xs,kT K H p xs∧k = !xs.isEmpty)∨∃ kvs,H p = some (.dK kvs)∧k = !kvs.isEmpty
 | _=>False
theorem AQ {κ:Type} {kvs:List (κ × V)} {vs:List (κ × Value)} (r:KV kvs vs):(!vs.isEmpty) = !kvs.isEmpty:=by
 cases r <;> rfl
theorem tE {xs:List V} {its:List Value} (r:Vals xs its):(!its.toArray.isEmpty) = !xs.isEmpty:=by
 cases r <;> simp
theorem tF:(sizeLine:Nat) < 2 ^ 63:=by rw [sizeLine_eq]; decide
theorem L6:Su X (fun x H Q=>∃ k,L5 X.K x H k∧Q k H):=by
 intro pins s σ H x v Q I rx h
 obtain ⟨k,e,q⟩:=h
 have hl:=tF
 have hs:sizeLine = 16777216:=sizeLine_eq
 cases x with
 | aU =>
  cases rx
  have e':k = false:=e
  subst e'
  exact truthy_none ⟨H,I,q⟩
 | bl b =>
  cases rx
  have e':k = b:=e
  subst e'
  exact wpAny_truthy_bool ⟨H,I,q⟩
 | int i =>
  obtain ⟨t,rfl⟩:=rx
  have e':k = (i != 0):=e
  subst e'
  exact PySem.P.truthy_int ⟨H,I,q⟩
 | str y =>
  obtain ⟨t,rfl⟩:=rx
  obtain ⟨hy,e'⟩ : y.length ≤ sizeLine∧k = ((y.length : Int) != 0):=e
  subst e'
  exact PySem.P.truthy_str (by omega) ⟨H,I.tok _,q⟩
 | NT y =>
  obtain ⟨t,rfl⟩:=rx
  obtain ⟨hy,e'⟩ : y.size ≤ sizeLine∧k = ((y.size : Int) != 0):=e
  subst e'
  exact PySem.W.truthy_bytes (by omega) ⟨H,I.tok _,q⟩
 | ref p =>
  cases rx
  have e':(∃ xs,gG X.K H p xs∧k = !xs.isEmpty)∨(∃ xs,kT X.K H p xs∧k = !xs.isEmpty)∨∃ kvs,H p = some (.dK kvs)∧k = !kvs.isEmpty:=e
  rcases e' with ⟨xs,hx,e'⟩ | ⟨xs,hx,e'⟩ | ⟨kvs,hx,e'⟩
  ·subst e'
   obtain ⟨its,r,pl,hz⟩:=I.list hx
   have hlen:=r.length
   exact wpAny_truthy_list pl.isList (by simp only [List.size_toArray]; omega) ⟨H,I.tok _,by rw [tE r]; exact q⟩
  ·subst e'
   obtain ⟨its,r,pl,hz⟩:=I.tuple hx
   have hlen:=r.length
   exact truthy_tuple pl (by simp only [List.size_toArray]; omega) ⟨H,I.tok _,by rw [tE r]; exact q⟩
  ·subst e'
   obtain ⟨hz,hS,vs,r,m⟩ : kvs.length ≤ sizeLine∧(p == sysModules) = false∧∃ vs,KV kvs vs∧s.heap.DictOf (bz X.prog X.w) p vs:=I.bE p _ hx
   have hlen:kvs.length = vs.length:=Paired.length r
   exact wpAny_truthy_dict hS m (by omega) ⟨H,I.tok _,by rw [AQ r]; exact q⟩
 | _=>exact (show False from e).elim
theorem Fu (ha:PE X a ta) (he:∀ whole,isTrue a X.env whole = (do let v ← whole; standAt a.pos; holding [v] (truthy v))) :
  PT X a (fun σ H Q=>ta σ H fun x H'=>∃ k,L5 X.K x H' k∧Q k H'):=by
 intro pins s σ H Q I h
 exact isTrue_plain (cP (ha pins s σ H _ I h) fun v s1 ⟨x,H1,I1,r1,q1⟩=>L6 pins s1 σ H1 x v Q I1 r1 q1) (he _)
theorem AR:jW X (binaryOp .Add) (fun x y H Q=>∃ i j,x = .str i∧y = .str j∧i.length + j.length ≤ sizeLine∧Q (.str (i ++ j)) H):=by
 intro pins s σ H x y v u Q I rx ry h
 obtain ⟨i,j,rfl,rfl,hz,q⟩:=h
 obtain ⟨t,rfl⟩:=rx
 obtain ⟨t',rfl⟩:=ry
 exact add_str (fun t' tk=>⟨.str (i ++ j),H,I.tok _,⟨_,rfl⟩,q⟩) hz
theorem vals1 {x:V} {us:List Value} (r:Vals [x] us):∃ u,us = [u]∧RelV x u:=by
 cases r with
 | cons r1 r2=>cases r2; exact ⟨_,rfl,r1⟩
theorem vals2 {x y:V} {us:List Value} (r:Vals [x,y] us):∃ u w',us = [u,w']∧RelV x u∧RelV y w':=by
 cases r with
 | cons r1 r2 =>
  cases r2 with
  | cons r3 r4=>cases r4; exact ⟨_,_,rfl,r1,r3⟩
theorem DY (hc:X.calm = true):dq X (.builtin "max") (fun xs H Q=>∃ i j,xs = [.int i,.int j]∧Q (.int (if j > i then j else i)) H):=by
 intro pins s σ H xs us Q I r h
 obtain ⟨i,j,rfl,q⟩:=h
 obtain ⟨u,w',rfl,⟨t,rfl⟩,⟨t',rfl⟩⟩:=vals2 r
 refine max_two_ints (I.ok.hd hc) fun h' tk k=>⟨_,H,I.kept k,?_,q⟩
 by_cases hj:j > i
 ·rw [if_pos hj,if_pos hj]; exact ⟨_,rfl⟩
 ·rw [if_neg hj,if_neg hj]; exact ⟨_,rfl⟩
theorem DZ (hc:X.calm = true):dq X (.builtin "min") (fun xs H Q=>∃ i j,xs = [.int i,.int j]∧Q (.int (if j < i then j else i)) H):=by
 intro pins s σ H xs us Q I r h
 obtain ⟨i,j,rfl,q⟩:=h
 obtain ⟨u,w',rfl,⟨t,rfl⟩,⟨t',rfl⟩⟩:=vals2 r
 refine min_two_ints (I.ok.hd hc) fun h' tk k=>⟨_,H,I.kept k,?_,q⟩
 by_cases hj:j < i
 ·rw [if_pos hj,if_pos hj]; exact ⟨_,rfl⟩
 ·rw [if_neg hj,if_neg hj]; exact ⟨_,rfl⟩
end
end L2
namespace L2
open PySem PySem.Spec PyProof.Rows
structure AS (h:Heap) (x dx C:Addr) (mA:Str→Option Value):Prop where
 obj:h.get? x = some (PySem.W.instObj C dx)
 ns:h.Ns1 dx mA
 ne:dx ≠ x
theorem D0 {h:Heap} {dx:Addr} {mA:Str→Option Value} (n:h.Ns1 dx mA):∃ od,h.get? dx = some od∧∀ name,PySem.W.lookIn name od = some (mA name):=by
 obtain ⟨o,es,ep,ho,hd,hk,_,hm⟩:=n
 refine ⟨o,ho,fun name=>?_⟩
 have e:=hm name
 unfold nsFind findBy at e
 rw [← Array.find?_toList] at e
 unfold PySem.W.lookIn
 rw [hd]
 dsimp only
 split
 ·rename_i y q
  rw [q] at e
  exact congrArg some e
 ·rename_i q
  rw [q] at e
  have a:es.toList.any (·.refKey) = false:=by
   rw [List.any_eq_false]
   intro y hy
   obtain ⟨z,t,Fv⟩:=hk y (Array.mem_toList_iff.mp hy)
   simp [DictEntry.refKey,Fv]
  have a':¬ es.toList.any (·.refKey) = true:=by rw [a]; exact Bool.false_ne_true
  rw [if_neg a']
  exact congrArg some e
theorem AS.look {h:Heap} {x dx C:Addr} {mA:Str→Option Value} (I:AS h x dx C mA):∃ od,PySem.W.InstAt h x (PySem.W.instObj C dx) C (some od)∧∀ name,PySem.W.lookIn name od = some (mA name) :=
 let ⟨od,ho,hl⟩:=D0 I.ns
 ⟨od,⟨I.obj,rfl,rfl,ho⟩,hl⟩
section
variable {prog:Program} {w:World} {A:Around} {E:Value→Shared→Prop} {s:Shared} {K:PySem.W.Frag} {x dx C f:Addr} {mA:Str→Option Value} {name:Str} {v:Value}
theorem get_map {expr:Bool} {Q:Value→Shared→Prop} (X:K.In s.heap) (I:AS s.heap x dx C mA) (hg:PySem.W.plainGet K C name = true) (hh:PySem.W.hasDictIn K C = true)
  (ha:PySem.W.findIn K (.ref C) name = some none) (hv:mA name = some v) (hv':PySem.W.handedIn v = true) (h:Q v { s with toks:=s.toks + 1 }) :
  wpAny (model prog w) A (getAttr (.ref x) name expr) Q E s:=by
 obtain ⟨od,J,hl⟩:=I.look
 exact PySem.W.get_value X J (PySem.W.plainGet_of hg).1 (PySem.W.findObj_own hh ha rfl (by rw [hl,hv])) hv' h
theorem Fw {pl:Sem Bool} {Q:Value × List Value→Shared→Prop} (X:K.In s.heap) (I:AS s.heap x dx C mA) (hg:PySem.W.plainGet K C name = true)
  (hf:PySem.W.findIn K (.ref C) name = some (some (.ref f))) (ht:PySem.W.isFn K (.ref f) = true) (hv:mA name = none) (h:Q (.ref f,[.ref x]) s) :
  wpAny (model prog w) A (getMethod (.ref x) name pl) Q E s:=by
 obtain ⟨od,J,hl⟩:=I.look
 exact PySem.W.method_fn X J (PySem.W.plainGet_of hg).1 (PySem.W.plainGet_of hg).2 hf (beq_iff_eq.mp ht) (by show (PySem.W.lookIn name od).map (·.isSome) = some false; rw [hl,hv]; rfl) h
theorem IQ {ns:List Str} {Q:Unit→Shared→Prop} (X:K.In s.heap) (I:AS s.heap x dx C mA)
  (hs:PySem.W.findIn K (.ref C) "__setattr__" = some (some (.builtin "object.__setattr__"))) (hp:PySem.W.plainOver K C = true) (ht:PySem.W.takerIn K C name = some none) (hh:PySem.W.hasDictIn K C = true)
  (hw:PySem.Within mA ns) (hsz:ns.length ≤ sizeLine)
  (h:∀ h',AS h' x dx C (fun y=>if y = name then some v else mA y)→Heap.SameBut dx s.heap h'→Q () { s with heap:=h',toks:=s.toks + 2 }) :
  wpAny (model prog w) A (setAttr (.ref x) name v) Q E s:=by
 obtain ⟨od,J,hl⟩:=I.look
 refine PySem.W.set_plain X J hs (PySem.W.osa_open (s:={ s with toks:=s.toks + 1 }) (r:=none) X J hp ht fun b=>?_)
 obtain ⟨cd,hc,hd'⟩:=PySem.W.any_some hh
 have hx:s.heap.get? x = some ⟨.ref C,some dx,.plain,#[]⟩:=I.obj
 refine wpAny_bind (wpAny_pure (wpAny_bind (wpAny_bind (wpAny_loadPart hx (wpAny_bind (PySem.W.Looks.here (s:={ s with toks:=s.toks + 1 }) (PySem.W.looks_clsIn X hc) ?_))))))
 rw [hd']
 refine wpAny_pure (a:=some dx) (wpAny_bind (wpAny_pure (wpAny_bind ?_)))
 refine wpAny_nsSet1 (s:={ s with toks:=s.toks + 1 }) I.ns fun h' vL II=>?_
 obtain ⟨oD,esD,epD,hoD,hdD,hcD⟩:=vL.count (PySem.Within.cons name v hw)
 refine wpAny_bind (wpAny_lookBehind hoD (by rw [hdD]; exact pastItsLine_dict (Nat.le_trans hcD (by rw [List.length_cons]; omega))) ?_)
 exact wpAny_pure (h _ ⟨(II.2 _ (Ne.symm I.ne)).trans I.obj,vL,I.ne⟩ II)
theorem Fx {R:Result→Shared→Prop} {vs:List Value} {kw:List (Str × Value)} (X:K.In s.heap) (hm:PySem.W.makesIn K C = true)
  (hi:PySem.W.findIn K (.ref C) "__init__" = some (some (.ref f))) (hf:PySem.W.typeIn K (.ref f) = some (.type "function"))
  (h:codeAny (model prog w) (A.under (.builtin "type.__call__" ⟨.ref C :: vs,kw⟩)) (.call (.ref f) ⟨.ref (s.heap.objs.size + 1) :: vs,kw⟩) (PySem.W.InitBack (s.heap.objs.size + 1) R)
   { s with heap:=(s.heap.push PySem.W.emptyDict).push (PySem.W.instObj C s.heap.objs.size) }) :
  codeAny (model prog w) A (.call (.ref C) ⟨vs,kw⟩) R s:=by
 obtain ⟨hh,g,d,t,os⟩:=s
 exact PySem.W.make_core (PySem.W.makes_of X hm) (PySem.W.looks_findIn X hi) (fun self=>PySem.W.bind_fn X self hf) (.inl rfl) h
end
noncomputable def jj (f:Str) (v:V):List (Str × V)→List (Str × V)
 | []=>[(f,v)]
 | (g,x) :: r=>if g = f then (g,v) :: r else (g,x) :: jj f v r
theorem lR (f g:Str) (v:V):∀ fs:List (Str × V),(jj f v fs).lookup g = if g = f then some v else fs.lookup g
 | []=>by
  show List.lookup g [(f,v)] = _
  by_cases h:g = f
  ·have hb:(g == f) = true:=beq_iff_eq.mpr h
   simp only [List.lookup,hb,if_pos h]
  ·have hb:(g == f) = false:=beq_eq_false_iff_ne.mpr h
   simp only [List.lookup,hb,if_neg h]
 | (k,x) :: r=>by
  have ih:=lR f g v r
  rw [show jj f v ((k,x) :: r) = (if k = f then (k,v) :: r else (k,x) :: jj f v r) from rfl]
  by_cases hk:k = f
  ·rw [if_pos hk]
   by_cases h:g = k
   ·have hb:(g == k) = true:=beq_iff_eq.mpr h
    simp only [List.lookup,hb,if_pos (h.trans hk)]
   ·have hb:(g == k) = false:=beq_eq_false_iff_ne.mpr h
    simp only [List.lookup,hb,if_neg (fun e:g = f=>h (e.trans hk.symm))]
  ·rw [if_neg hk]
   by_cases h:g = k
   ·have hb:(g == k) = true:=beq_iff_eq.mpr h
    simp only [List.lookup,hb,if_neg (fun e:g = f=>hk (h.symm.trans e))]
   ·have hb:(g == k) = false:=beq_eq_false_iff_ne.mpr h
    simp only [List.lookup,hb]
    exact ih
theorem qj (f:Str) (v:V):∀ fs:List (Str × V),f ∈ (jj f v fs).map (·.1)∧∀ g,g ∈ fs.map (·.1)→g ∈ (jj f v fs).map (·.1)
 | []=>⟨by simp [jj],fun g h=>by simp at h⟩
 | (k,x) :: r=>by
  obtain ⟨i1,i2⟩:=qj f v r
  rw [show jj f v ((k,x) :: r) = (if k = f then (k,v) :: r else (k,x) :: jj f v r) from rfl]
  by_cases hk:k = f
  ·rw [if_pos hk]
   subst hk
   exact ⟨by simp,fun g h=>by simpa using h⟩
  ·rw [if_neg hk]
   refine ⟨?_,fun g h=>?_⟩
   ·rw [List.map_cons]
    exact List.mem_cons_of_mem _ i1
   ·rw [List.map_cons] at h ⊢
    rcases List.mem_cons.mp h with e | e
    ·exact List.mem_cons.mpr (.inl e)
    ·exact List.mem_cons_of_mem _ (i2 g e)
theorem qX (f:Str) (v:V):∀ fs:List (Str × V),(jj f v fs).length ≤ fs.length + 1
 | []=>by simp [jj]
 | (k,x) :: r=>by
  have ih:=qX f v r
  rw [show jj f v ((k,x) :: r) = (if k = f then (k,v) :: r else (k,x) :: jj f v r) from rfl]
  by_cases hk:k = f
  ·rw [if_pos hk,List.length_cons,List.length_cons]; omega
  ·rw [if_neg hk,List.length_cons,List.length_cons]; omega
theorem oh.some_of {v:V} {o:Option Value} (r:oh (some v) o):∃ u,o = some u∧RelV v u:=by
 cases o with
 | none=>exact (show False from r).elim
 | some u=>exact ⟨u,rfl,r⟩
theorem oh.none_of {o:Option Value} (r:oh none o):o = none:=by
 cases o with
 | none=>rfl
 | some u=>exact (show False from r).elim
theorem D1 {v:V} {u:Value} (r:RelV v u):PySem.W.handedIn u = true:=by
 cases v with
 | aU=>cases (show u = Value.none from r); rfl
 | bl b=>cases (show u = Value.bool b from r); rfl
 | int i=>obtain ⟨t,e⟩:=(show ∃ t,u = Value.int i t from r); cases e; rfl
 | str x=>obtain ⟨t,e⟩:=(show ∃ t,u = Value.str x t from r); cases e; rfl
 | NT b=>obtain ⟨t,e⟩:=(show ∃ t,u = Value.bytes b t from r); cases e; rfl
 | Q3 b=>obtain ⟨t,e⟩:=(show ∃ t,u = Value.float b t from r); cases e; rfl
 | ref a=>cases (show u = Value.ref a from r); rfl
 | ty n=>cases (show u = Value.type n from r); rfl
section
variable {P:Program} {w:World} {H H':Hp} {h h':Heap} {a C dx:Addr} {fs fs':List (Str × V)}
theorem wR (bE:nF P w H h) (e:H a = some (.ins C dx fs)):∃ mA,AS h a dx C mA∧(∀ f,oh (fs.lookup f) (mA f))∧PySem.Within mA (fs.map (·.1))∧fs.length ≤ 1000∧H dx = some (.own a):=by
 obtain ⟨d,z,ne,ob,mA,n,r,q⟩:=(show cG P w H h a (.ins C dx fs) from bE a _ e)
 exact ⟨mA,⟨ob,n,ne⟩,r,q,z,d⟩
end
structure wU (K:PySem.W.Frag) (C:Addr):Prop where
 pg:PySem.W.plainGet K C Str.empty = true
 hd:PySem.W.hasDictIn K C = true
 po:PySem.W.plainOver K C = true
 sa:PySem.W.findIn K (.ref C) "__setattr__" = some (some (.builtin "object.__setattr__"))
theorem wU.get {K:PySem.W.Frag} {C:Addr} (c:wU K C) (f:Str):PySem.W.plainGet K C f = true:=c.pg
noncomputable def eU (K:PySem.W.Frag) (C:Addr) (f:Str):Prop:=PySem.W.findIn K (.ref C) f = some none
theorem eU.OE {K:PySem.W.Frag} {C:Addr} {f:Str} (n:eU K C f):PySem.W.takerIn K C f = some none:=by
 unfold PySem.W.takerIn
 rw [show PySem.W.findIn K (.ref C) f = some none from n]
 rfl
structure Meth (K:PySem.W.Frag) (C:Addr) (m:Str) (f:Addr):Prop where
 at_:PySem.W.findIn K (.ref C) m = some (some (.ref f))
 fn:PySem.W.isFn K (.ref f) = true
 kp:PySem.W.keepIn K (.ref f) = true
section
variable {X:Cx} {pins:List (Addr × Obj)} {σ:St} {H:Hp} {s:Shared} {a C dx:Addr} {fs:List (Str × V)} {f:Str} {v:V} {A:Around} {E:Value→Shared→Prop}
theorem AU {b:Bool} {Q:Value→Shared→Prop} (I:Inv X pins σ H s) (e:H a = some (.ins C dx fs)) (c:wU X.K C) (n:eU X.K C f) (l:fs.lookup f = some v)
  (h:∀ u s',Inv X pins σ H s'→RelV v u→Q u s'):wpAny (model X.prog X.w) A (getAttr (.ref a) f b) Q E s:=by
 obtain ⟨mA,O,r,_,_,_⟩:=wR I.bE e
 obtain ⟨u,hu,ru⟩:=oh.some_of (v:=v) (o:=mA f) (by rw [← l]; exact r f)
 exact get_map I.Cy O (c.get f) c.hd n hu (D1 ru) (h u _ (I.tok _) ru)
theorem tG {m:Str} {g:Addr} {pl:Sem Bool} {Q:Value × List Value→Shared→Prop} (I:Inv X pins σ H s) (e:H a = some (.ins C dx fs)) (c:wU X.K C) (k:Meth X.K C m g) (l:fs.lookup m = none)
  (h:Q (.ref g,[.ref a]) s):wpAny (model X.prog X.w) A (getMethod (.ref a) m pl) Q E s:=by
 obtain ⟨mA,O,r,_,_,_⟩:=wR I.bE e
 have hn:mA m = none:=oh.none_of (by rw [← l]; exact r m)
 exact Fw I.Cy O (c.get m) k.at_ k.fn hn h
theorem AV {y:V} {u:Value} {Q:Unit→Shared→Prop} (I:Inv X pins σ H s) (e:H a = some (.ins C dx fs)) (c:wU X.K C) (n:eU X.K C f) (hl:fs.length < 1000) (ry:RelV y u)
  (h:∀ s',Inv X pins σ (upd H a (.ins C dx (jj f y fs))) s'→Q () s'):wpAny (model X.prog X.w) A (setAttr (.ref a) f u) Q E s:=by
 obtain ⟨mA,O,r,wi,_,ho⟩:=wR I.bE e
 have hz:(fs.map (·.1)).length ≤ sizeLine:=by rw [List.length_map,sizeLine_eq]; omega
 refine IQ I.Cy O c.sa c.po n.OE c.hd wi hz fun h' O' sb=>h _ ?_
 have hd:∃ o,h'.get? dx = some o:=let ⟨o,_,_,e',_⟩:=O'.ns; ⟨o,e'⟩
 refine I.write (x:=a) (e:=dx) (by rw [e]; exact True.intro) (.inr ho) (fun b q hb z=>(sb.2 b hb).trans z) hd ?_
 refine ⟨by rw [aj O.ne]; exact ho,?_,O.ne,O'.obj,_,O'.ns,fun g=>?_,fun g hg=>?_⟩
 ·have:=qX f y fs; omega
 ·show oh ((jj f y fs).lookup g) (if g = f then some u else mA g)
  rw [lR]
  by_cases q:g = f
  ·rw [if_pos q,if_pos q]; exact ry
  ·rw [if_neg q,if_neg q]; exact r g
 ·by_cases q:g = f
  ·rw [q]; exact (qj f y fs).1
  ·refine (qj f y fs).2 g (wi g fun z=>hg ?_)
   show (if g = f then some u else mA g) = none
   rw [if_neg q]; exact z
theorem Inv.made (I:Inv X pins σ H s):Inv X pins σ (upd (upd H s.heap.objs.size (.own (s.heap.objs.size + 1))) (s.heap.objs.size + 1) (.ins C s.heap.objs.size []))
  { s with heap:=(s.heap.push PySem.W.emptyDict).push (PySem.W.instObj C s.heap.objs.size) }:=by
 have e1:(s.heap.push PySem.W.emptyDict).get? s.heap.objs.size = some PySem.W.emptyDict:=Heap.get?_push_size s.heap rfl
 have e2:((s.heap.push PySem.W.emptyDict).push (PySem.W.instObj C s.heap.objs.size)).get? (s.heap.objs.size + 1) = some (PySem.W.instObj C s.heap.objs.size):=by
  have:=Heap.get?_push_size (s.heap.push PySem.W.emptyDict) (o:=PySem.W.instObj C s.heap.objs.size) rfl
  rwa [Heap.size_push] at this
 have e3:(s.heap.push PySem.W.emptyDict).Ns s.heap.objs.size (fun _=>none):=⟨PySem.W.emptyDict,#[],_,e1,rfl,(fun e he=>absurd he (by simp)),fun _=>rfl⟩
 have I1:=I.laid (a:=s.heap.objs.size) (o:=.own (s.heap.objs.size + 1)) (h':=s.heap.push PySem.W.emptyDict) (t':=s.toks) (fun b u q=>Heap.get?_push_of_some _ q) (Nat.le_refl _) ⟨_,e1⟩
 refine I1.laid (a:=s.heap.objs.size + 1) (o:=.ins C s.heap.objs.size []) (t':=s.toks) (fun b u q=>Heap.get?_push_of_some _ q) (Nat.le_of_eq (Heap.size_push _ _)) ?_
 have ne:s.heap.objs.size ≠ s.heap.objs.size + 1:=Nat.ne_of_lt (Nat.lt_succ_self _)
 refine ⟨by rw [aj ne,aq],Nat.zero_le _,ne,e2,fun _=>none,(Heap.Ns1.of_empty e3).at fun o q=>Heap.get?_push_of_some _ q,fun _=>True.intro,fun y hy=>absurd rfl hy⟩
theorem IS {prog:Program} {w:World} {env:Env} {e:Expr} {f:Str} {pos:Pos} {s:Shared} {Q:Value→Shared→Prop} (hb:attributeBase e f env (eval e env) = eval e env)
  (h:wpAny (model prog w) A (eval e env) (fun o s₁=>wpAny (model prog w) A (getAttr o f true) Q E s₁) E s):wpAny (model prog w) A (eval (.Attribute e f pos) env) Q E s :=
 Attribute_any_ h (by rw [arm_eval_Attribute,hb])
end
noncomputable def Sw (K:PySem.W.Frag) (ta:TE) (f:Str):TE:=fun σ H Q=>ta σ H fun x H1=>∃ a C dx fs v,x = .ref a∧H1 a = some (.ins C dx fs)∧wU K C∧eU K C f∧fs.lookup f = some v∧Q v H1
noncomputable def Sx (K:PySem.W.Frag) (ta tv:TE) (f:Str):TS:=fun D σ H=>tv σ H fun y H1=>ta σ H1 fun x H2=>∃ a C dx fs,x = .ref a∧H2 a = some (.ins C dx fs)∧wU K C∧eU K C f∧fs.length < 1000 ∧
 D.nx σ (upd H2 a (.ins C dx (jj f y fs)))
section
variable {X:Cx} {o e value:Expr} {f:Str} {pos pos' Sy:Pos} {ta tv:TE}
theorem wV (he:PE X e ta) (hb:attributeBase e f X.env (eval e X.env) = eval e X.env):PE X (.Attribute e f pos) (Sw X.K ta f):=by
 intro pins s σ H Q I h
 refine IS hb (cP (he pins s σ H _ I h) fun u s1 ⟨x,H1,I1,rx,a,C,dx,fs,v,ex,ea,c,n,l,q⟩=>?_)
 subst ex
 obtain rfl : u = Value.ref a:=rx
 exact AU I1 ea c n l fun u' s2 I2 ru=>⟨v,H1,I2,ru,q⟩
theorem Fy (ha:PE X o ta) (hv:PE X value tv) (hs:swapsWith value (some (.Attribute o f pos')) pos.line X.env = pure false):PS X (.Assign [.Attribute o f pos'] value pos) (Sx X.K ta tv f):=by
 intro pins s σ H D I h
 refine plainObj_wpAny_Assign_Attribute (cP (hv pins s σ H _ I h) fun u s1 ⟨y,H1,I1,ry,q⟩=>cP (ha pins s1 σ H1 _ I1 q) fun ov s2 ⟨x,H2,I2,rx,a,C,dx,fs,ex,ea,c,n,l,q2⟩=>?_) hs
 subst ex
 obtain rfl : ov = Value.ref a:=rx
 exact AV I2 ea c n l ry fun s3 I3=>⟨σ,_,I3,q2⟩
end
section
variable {X:Cx} {pins:List (Addr × Obj)} {σ:St} {H:Hp} {s:Shared} {A:Around} {E:Value→Shared→Prop} {Q:Value→Shared→Prop} {c:Value} {b:Bool}
end
end L2
namespace L2
open PySem PySem.Spec PyProof.Rows
structure eD (k:Nat) (A:Around):Prop where
 hd:A.handled = none
 dp:A.depth + 3 * k + 5 < recursionLimit
 un:A.units + 16 * k + 200 < cLine
theorem eD.mono {j k:Nat} {A:Around} (r:eD k A) (h:j ≤ k):eD j A:=⟨r.hd,by have:=r.dp; omega,by have:=r.un; omega⟩
theorem eD.deeper {k:Nat} {A:Around} (r:eD (k + 1) A) (env:Env):eD k (A.deeper env) :=
 ⟨r.hd,by have:=r.dp; show A.depth + 1 + 3 * k + 5 < _; omega,by have:=r.un; show A.units + 3 + 16 * k + 200 < _; omega⟩
theorem AW {A:Around} {C:Addr} {us:List Value} {kw:List (Str × Value)}:(A.under (.builtin "type.__call__" ⟨.ref C :: us,kw⟩)).depth = A.depth + 1:=by
 first | rfl | simp [Around.under,Code.weight,Code.isCreation,Code.isGuard,Code.isCaller,Code.frames,Code.isFrame,guardIds]
theorem AX {A:Around} {C:Addr} {us:List Value} {kw:List (Str × Value)}:(A.under (.builtin "type.__call__" ⟨.ref C :: us,kw⟩)).units = A.units + 1:=by
 first | rfl | simp [Around.under,Code.cUnits,Code.frames,Code.isFrame]
theorem eD.make {k:Nat} {A:Around} (r:eD (k + 1) A) (C:Addr) (us:List Value) (kw:List (Str × Value)):eD k (A.under (.builtin "type.__call__" ⟨.ref C :: us,kw⟩)) :=
 ⟨r.hd,by have:=r.dp; rw [AW]; omega,by have:=r.un; rw [AX]; omega⟩
theorem eD.depth {k:Nat} {A:Around} (r:eD k A):A.depth < recursionLimit:=by have:=r.dp; omega
theorem eD.units {k:Nat} {A:Around} (r:eD k A):A.units + 64 < cLine:=by have:=r.un; omega
noncomputable def OF:TA:=fun _ H Q=>Q [] H
noncomputable def OG (ta:TE) (tr:TA):TA:=fun σ H Q=>ta σ H fun x H1=>tr σ H1 fun xs H2=>Q (x :: xs) H2
section
variable {X:Cx} {e:Expr} {es:List Expr} {te:TE} {t:TA} {pos:Pos}
theorem oo:PA X [] OF:=fun _ _ _ _ H Q I h=>Calls.spliced_nil ⟨[],H,I,.nil,h⟩
theorem jX (ha:PE X e te) (hr:PA X es t) (hs:starEach (e :: es) X.env = (false,eval e X.env) :: starEach es X.env:=by rfl):PA X (e :: es) (OG te t):=by
 intro pos pins s σ H Q I h
 rw [hs]
 show wpAny _ _ (spliced ((false,eval e X.env) :: backTo pos (starEach es X.env))) _ _ s
 refine Calls.spliced_cons (cP (ha pins s σ H _ I h) fun u s1 ⟨x,H1,I1,r1,q1⟩=>?_)
 exact cP (hr pos pins s1 σ H1 _ I1 q1) fun us s2 ⟨xs,H2,I2,r2,q2⟩=>⟨x :: xs,H2,I2,.cons r1 r2,q2⟩
noncomputable def Sz (t:TA):TE:=fun σ H Q=>t σ H fun xs H1=>xs.length ≤ sizeLine∧∀ p,H1 p = none→Q (.ref p) (upd H1 p (.tup xs))
noncomputable def SA (t:TA):TE:=fun σ H Q=>t σ H fun xs H1=>xs.length ≤ sizeLine∧∀ p,H1 p = none→Q (.ref p) (upd H1 p (.lst xs))
theorem L7 {x1} (h:PA X es t):PE X (.Tuple es x1 pos) (Sz t):=by
 intro pins s σ H Q I hq
 refine wpAny_Tuple_spliced (cP (h pos pins s σ H _ I hq) fun us s1 ⟨xs,H1,I1,r,z,q⟩=>⟨by rw [← r.length]; exact z,?_⟩)
 have hf:H1 s1.heap.objs.size = none:=I1.bE.fresh (Nat.le_refl _)
 refine ⟨.ref s1.heap.objs.size,upd H1 s1.heap.objs.size (.tup xs),I1.laid (t':=s1.toks) (fun b u e=>Heap.get?_push_of_some _ e) (Nat.le_refl _) ?_,rfl,q _ hf⟩
 exact ⟨z,us,r,⟨_,Heap.get?_push_size _ rfl,rfl,_,rfl⟩⟩
theorem Fz (h:PA X es t):PE X (.List es pos) (SA t):=by
 intro pins s σ H Q I hq
 refine wpAny_List_spliced (cP (h pos pins s σ H _ I hq) fun us s1 ⟨xs,H1,I1,r,z,q⟩=>⟨by rw [← r.length]; exact z,?_⟩)
 have hf:H1 s1.heap.objs.size = none:=I1.bE.fresh (Nat.le_refl _)
 refine ⟨.ref s1.heap.objs.size,upd H1 s1.heap.objs.size (.lst xs),I1.laid (t':=s1.toks) (fun b u e=>Heap.get?_push_of_some _ e) (Nat.le_refl _) ?_,rfl,q _ hf⟩
 exact ⟨z,us,0,r,Heap.get?_push_size _ rfl⟩
end
noncomputable abbrev Sp:=List V→Hp→VK→XK→Prop
noncomputable abbrev FA:=List Env→Hp→Shared→XK→Value→Shared→Prop
structure AY (P:Program) (w:World) (K:PySem.W.Frag) (mg:Str→Option Value) (base:Heap) (A:Around) (outer:List Env) (s:Shared) (H:Hp):Prop where
 frames:A.frames = some outer
 mod:Mod K mg base
 bs:∀ b o,base.get? b = some o→s.heap.get? b = some o∧H b = none
 Io:base.objs.size ≤ s.heap.objs.size
 rR:s.heap.FunFrames base outer
 LG:∀ b ∈ AK outer,H b = none
 bE:nF P w H s.heap
 bare:AllBare s.gens
noncomputable def CE (outer:List Env) (P:Program) (w:World) (H:Hp) (s:Shared) (Q:VK) (u:Value) (s':Shared):Prop :=
 ∃ v H',s'.os = s.os∧AllBare s'.gens∧Un (AK outer) [] H H' s.heap s'.heap∧nF P w H' s'.heap∧RelV v u∧Q v H'
noncomputable def CR (CX:FA) (outer:List Env) (P:Program) (w:World) (H:Hp) (s:Shared) (Q:VK) (E:XK) (r:Result) (s':Shared):Prop :=
 match r with
 | .ok (.ret u)=>CE outer P w H s Q u s'
 | .ok _=>False
 | .error e=>CX outer H s E e s'
structure aJ (P:Program) (w:World) (K:PySem.W.Frag) (mg:Str→Option Value) (base:Heap) (CX:FA) (k:Nat) (f:Addr) (fd:FuncData) (ps:List Str) (sp:Sp):Prop where
 len:∀ vs H Q E,sp vs H Q E→vs.length = ps.length
 run:∀ (A:Around) (outer:List Env) (s:Shared) (H:Hp) (args:Args) (us:List Value) (vs:List V) (Q:VK) (E:XK),eD k A→AY P w K mg base A outer s H→BindsTo s fd args (ps.zip us)→Vals vs us→sp vs H Q E →
  codeAny (model P w) A (.call (.ref f) args) (CR CX outer P w H s Q E) s
theorem AY.make {P:Program} {w:World} {K:PySem.W.Frag} {mg:Str→Option Value} {base:Heap} {A:Around} {outer:List Env} {s:Shared} {H:Hp} (e:AY P w K mg base A outer s H) (C:Addr) (us:List Value) (kw:List (Str × Value)) :
  AY P w K mg base (A.under (.builtin "type.__call__" ⟨.ref C :: us,kw⟩)) outer s H:=⟨by first | exact e.frames | (simpa [Around.under,Code.envs,Code.isFrame,pushEnvs] using e.frames),e.mod,e.bs,e.Io,e.rR,e.LG,e.bE,e.bare⟩
section
variable {X:Cx} {pins:List (Addr × Obj)} {σ:St} {H:Hp} {s s':Shared}
theorem Inv.OH (I:Inv X pins σ H s):AY X.prog X.w X.K X.mg X.base X.A X.stack s H :=
 ⟨I.ok.frames,I.ok.mod,I.bs,Nat.le_trans I.ok.Io I.sz,I.stack,I.Cz,I.bE,I.bare⟩
theorem Inv.after {Q:VK} {u:Value} (I:Inv X pins σ H s) (h:CE X.stack X.prog X.w H s Q u s'):EP X pins σ Q u s':=by
 obtain ⟨v,H',os,bare,un,bE,r,q⟩:=h
 obtain ⟨hh,g,d,t,os'⟩:=s'
 obtain rfl : os' = s.os:=os
 exact ⟨v,H',I.call (h':=hh) (g':=g) (d':=d) (t':=t) (ch:=[]) un bE bare (fun b z=>absurd z (by simp)),r,q⟩
end
noncomputable def OI (sp:Sp) (va:List V) (E:XK) (t:TA):TE:=fun σ H Q=>t σ H fun vs H1=>sp (vs ++ va) H1 Q E
noncomputable def KU (C:Addr) (m:Str) (sp:Sp) (va:List V) (E:XK) (ta:TE) (t:TA):TE:=fun σ H Q=>ta σ H fun x H1=>∃ a dx fs,x = .ref a∧H1 a = some (.ins C dx fs)∧fs.lookup m = none ∧
 t σ H1 fun vs H2=>sp (x :: (vs ++ va)) H2 Q E
noncomputable def OJ (C:Addr) (sp:Sp) (va:List V) (E:XK) (t:TA):TE:=fun σ H Q=>t σ H fun vs H1=>∀ x dx,H1 x = none→H1 dx = none→dx ≠ x →
 sp (.ref x :: (vs ++ va)) (upd (upd H1 dx (.own x)) x (.ins C dx [])) (fun v H2=>v = .aU∧Q (.ref x) H2) E
noncomputable def Binds (K:PySem.W.Frag) (fd:FuncData) (ps:List Str) (ds:List Value):Prop :=
 ∀ (s:Shared) (us:List Value),K.In s.heap→(us ++ ds).length = ps.length→BindsTo s fd ⟨us,[]⟩ (ps.zip (us ++ ds))
theorem Binds.all {K:PySem.W.Frag} {fd:FuncData} {ps:List Str} (h:∀ us:List Value,us.length = ps.length→bindArgs fd ⟨us,[]⟩ = pure (ps.zip us)):Binds K fd ps []:=fun s us _ hl=>by
 rw [List.append_nil] at hl ⊢
 exact .of_eq (h us hl)
noncomputable def Passes (CX:FA) (X:Cx) (E:XK):Prop:=∀ (pins:List (Addr × Obj)) (σ:St) (H:Hp) (s:Shared) (e:Value) (s':Shared),Inv X pins σ H s→CX X.stack H s E e s'→X.xe e s'
section
variable {X:Cx} {CX:FA} {k:Nat} {f C:Addr} {fd:FuncData} {ps:List Str} {sp:Sp} {va:List V} {ds:List Value} {E:XK} {x m:Str} {p pos apos:Pos} {e o:Expr} {es:List Expr} {ta:TE} {t:TA}
theorem AZ {pins:List (Addr × Obj)} {σ:St} {H:Hp} {s:Shared} {Q:VK} {us:List Value} {vs:List V} (F:aJ X.prog X.w X.K X.mg X.base CX k f fd ps sp) (hr:eD k X.A) (hb:Binds X.K fd ps ds) (hd:Vals va ds) (hx:Passes CX X E)
  (I:Inv X pins σ H s) (r:Vals vs us) (h:sp (vs ++ va) H Q E):wpAny (model X.prog X.w) X.A (call (.ref f) us) (EP X pins σ Q) X.xe s:=by
 have r2:Vals (vs ++ va) (us ++ ds):=r.append hd
 have hl:(us ++ ds).length = ps.length:=by rw [← r2.length]; exact F.len _ _ _ _ h
 refine wpAny_call (codeAny_mono (F.run X.A X.stack s H ⟨us,[]⟩ (us ++ ds) (vs ++ va) Q E hr I.OH (hb s us I.Cy hl) r2 h) fun r s' hq=>?_)
 cases r with
 | error e=>exact hx pins σ H s e s' I hq
 | ok fl =>
  cases fl with
  | ret u=>exact I.after hq
  | next=>exact False.elim hq
  | brk=>exact False.elim hq
  | cont=>exact False.elim hq
theorem IT (F:aJ X.prog X.w X.K X.mg X.base CX k f fd ps sp) (hr:eD k X.A) (hg:Gl X x) (hm:X.mg x = some (.ref f)) (hk:PySem.W.keepIn X.K (.ref f) = true) (hb:Binds X.K fd ps ds) (hd:Vals va ds) (hx:Passes CX X E)
  (ha:PA X (e :: es) t) (A0:(x == ("__debug__":Str)) = false:=by decide) (he:starEach (e :: es) X.env = (false,eval e X.env) :: starEach es X.env:=by rfl) (lJ:(backTo pos (starEach es X.env)).any (·.1) = false:=by rfl) :
  PE X (.Call (.Name x p) (e :: es) [] pos) (OI sp va E t):=by
 intro pins s σ H Q I h
 refine wpAny_Call_Name_kw (wM I hg hm ?_ A0)
 refine PySem.W.callWith_K (h₀:=X.base) I.ok.mod.yp hk (cP (ha pos pins s σ H _ I h) fun us s1 ⟨vs,H1,I1,r,q⟩=>⟨I1.Cy,?_⟩) he lJ
 exact AZ F hr hb hd hx I1 r q
theorem IU {pl:Sem Bool} (he:PE X o ta) (c:wU X.K C) (hm:Meth X.K C m f) (F:aJ X.prog X.w X.K X.mg X.base CX k f fd ps sp) (hr:eD k X.A) (hb:Binds X.K fd ps ds) (hd:Vals va ds) (hx:Passes CX X E) (ha:PA X (e :: es) t)
  (ym:starEach (e :: es) X.env = (false,eval e X.env) :: starEach es X.env:=by rfl) (lJ:(backTo pos (starEach es X.env)).any (·.1) = false:=by rfl)
  (ht:eval (.Call (.Attribute o m apos) (e :: es) [] pos) X.env = (do
   let ov ← eval o X.env
   standAt apos.atName
   let (f,first) ← holding [ov] (getMethod ov m pl)
   callWith pos f first (backTo pos (starEach (e :: es) X.env)) (backToKw pos (keywordEach [] X.env))):=by rfl) :
  PE X (.Call (.Attribute o m apos) (e :: es) [] pos) (KU C m sp va E ta t):=by
 intro pins s σ H Q I h
 refine PySem.W.methodCall_KW (pl:=pl) (cP (he pins s σ H _ I h) fun u s1 ⟨x,H1,I1,rx,a,dx,fs,ex,ea,l,q⟩=>?_) ht
 subst ex
 obtain rfl : u = Value.ref a:=rx
 refine tG I1 ea c hm l ?_
 refine PySem.W.callWith_K (first:=[.ref a]) (h₀:=X.base) I.ok.mod.yp hm.kp (cP (ha pos pins s1 σ H1 _ I1 q) fun us s2 ⟨vs,H2,I2,r,q2⟩=>⟨I2.Cy,?_⟩) ym lJ
 exact AZ (us:=.ref a :: us) (vs:=.ref a :: vs) F hr hb hd hx I2 (.cons rfl r) q2
theorem yw {pl:Sem Bool} (he:PE X o ta) (c:wU X.K C) (hm:Meth X.K C m f) (F:aJ X.prog X.w X.K X.mg X.base CX k f fd ps sp) (hr:eD k X.A) (hb:Binds X.K fd ps ds) (hd:Vals va ds) (hx:Passes CX X E)
  (ht:eval (.Call (.Attribute o m apos) [] [] pos) X.env = (do
   let ov ← eval o X.env
   standAt apos.atName
   let (f,first) ← holding [ov] (getMethod ov m pl)
   callWith pos f first (backTo pos (starEach [] X.env)) (backToKw pos (keywordEach [] X.env))):=by rfl) :
  PE X (.Call (.Attribute o m apos) [] [] pos) (KU C m sp va E ta OF):=by
 intro pins s σ H Q I h
 refine PySem.W.methodCall_KW (pl:=pl) (cP (he pins s σ H _ I h) fun u s1 ⟨x,H1,I1,rx,a,dx,fs,ex,ea,l,q⟩=>?_) ht
 subst ex
 obtain rfl : u = Value.ref a:=rx
 refine tG I1 ea c hm l ?_
 exact PySem.W.callWith_K0 (first:=[.ref a]) I1.Cy hm.kp (AZ (us:=[.ref a]) (vs:=[.ref a]) F hr hb hd hx I1 (.cons rfl .nil) q)
structure Mk (K:PySem.W.Frag) (C f:Addr):Prop where
 makes:PySem.W.makesIn K C = true
 init:PySem.W.findIn K (.ref C) "__init__" = some (some (.ref f))
 fn:PySem.W.isFn K (.ref f) = true
 kp:PySem.W.keepIn K (.ref C) = true
theorem FC {pins:List (Addr × Obj)} {σ:St} {H:Hp} {s:Shared} {Q:VK} {us:List Value} {vs:List V} (M:Mk X.K C f) (F:aJ X.prog X.w X.K X.mg X.base CX k f fd ps sp) (hr:eD (k + 1) X.A) (hb:Binds X.K fd ps ds) (hd:Vals va ds)
  (hx:Passes CX X E) (I:Inv X pins σ H s) (r:Vals vs us)
  (h:∀ x dx,H x = none→H dx = none→dx ≠ x→sp (.ref x :: (vs ++ va)) (upd (upd H dx (.own x)) x (.ins C dx [])) (fun v H2=>v = .aU∧Q (.ref x) H2) E) :
  wpAny (model X.prog X.w) X.A (call (.ref C) us) (EP X pins σ Q) X.xe s:=by
 have hq:=h (s.heap.objs.size + 1) s.heap.objs.size (I.bE.fresh (Nat.le_succ _)) (I.bE.fresh (Nat.le_refl _)) (Nat.ne_of_lt (Nat.lt_succ_self _))
 have I2:=Inv.made (C:=C) I
 have r2:Vals (V.ref (s.heap.objs.size + 1) :: (vs ++ va)) (Value.ref (s.heap.objs.size + 1) :: (us ++ ds)):=.cons rfl (r.append hd)
 have hl:(Value.ref (s.heap.objs.size + 1) :: us ++ ds).length = ps.length:=by
  have e:=r2.length
  rw [F.len _ _ _ _ hq] at e
  exact e.symm
 refine wpAny_call (Fx (f:=f) I.Cy M.makes M.init (beq_iff_eq.mp M.fn) (codeAny_mono (F.run _ X.stack _ _ ⟨Value.ref (s.heap.objs.size + 1) :: us,[]⟩ (Value.ref (s.heap.objs.size + 1) :: (us ++ ds)) _ _ E (hr.make C us [])
  (I2.OH.make C us []) (hb _ (Value.ref (s.heap.objs.size + 1) :: us) I2.Cy hl) r2 hq) fun r s' hq'=>?_))
 cases r with
 | error e=>exact hx pins σ _ _ e s' I2 hq'
 | ok fl =>
  cases fl with
  | ret u =>
   obtain ⟨v,H',I3,rv,ev,q3⟩:=I2.after hq'
   subst ev
   exact ⟨rv,⟨V.ref (s.heap.objs.size + 1),H',I3,rfl,q3⟩⟩
  | next=>exact False.elim hq'
  | brk=>exact False.elim hq'
  | cont=>exact False.elim hq'
theorem IV (M:Mk X.K C f) (F:aJ X.prog X.w X.K X.mg X.base CX k f fd ps sp) (hr:eD (k + 1) X.A) (hg:Gl X x) (hm:X.mg x = some (.ref C)) (hb:Binds X.K fd ps ds) (hd:Vals va ds) (hx:Passes CX X E)
  (ha:PA X (e :: es) t) (A0:(x == ("__debug__":Str)) = false:=by decide) (he:starEach (e :: es) X.env = (false,eval e X.env) :: starEach es X.env:=by rfl) (lJ:(backTo pos (starEach es X.env)).any (·.1) = false:=by rfl) :
  PE X (.Call (.Name x p) (e :: es) [] pos) (OJ C sp va E t):=by
 intro pins s σ H Q I h
 refine wpAny_Call_Name_kw (wM I hg hm ?_ A0)
 refine PySem.W.callWith_K (h₀:=X.base) I.ok.mod.yp M.kp (cP (ha pos pins s σ H _ I h) fun us s1 ⟨vs,H1,I1,r,q⟩=>⟨I1.Cy,?_⟩) he lJ
 exact FC M F hr hb hd hx I1 r q
end
section
variable {X:Cx} {CX:FA} {k:Nat} {f C:Addr} {fd:FuncData} {ps ks:List Str} {sp:Sp} {E:XK} {x m:Str} {p pos apos kpos:Pos} {e o:Expr} {es:List Expr} {kws:List Keyword} {te ta:TE} {t tk:TA} {nm:Option Str}
variable {g:List Value→List Value→List Value} {gV:List V→List V→List V}
end
structure aK (N P:List Str) (sc:Scope):Prop where
 kind:sc.kind = .function
 co:sc.isCoroutine = false
 gen:sc.isGenerator = false
 nd:N.Nodup
 pre:N.take P.length = P
 par:∀ x ∈ P,sc.names.lookup x = some .local∨sc.names.lookup x = some .cell
 L8:∀ y ∈ sc.names,y.2 ≠ .free
theorem vM {kindOf:Str→Option NameKind} {x:Str}:∀ {binds:List (Str × Value)} {m:Str→Option Value},(∀ v,(x,v) ∉ binds)→bindL kindOf binds m x = m x
 | [],_,_=>rfl
 | (n,v) :: r,m,h=>by
  unfold bindL
  rw [vM fun w hw=>h w (List.mem_cons_of_mem _ hw)]
  split
  ·have:x ≠ n:=by rintro rfl; exact h v List.mem_cons_self
   simp [this]
  ·rfl
theorem vN {kindOf:Str→Option NameKind} {x:Str}:∀ {binds:List (Str × Value)} {m:Str→Option Value},(∀ v,(x,v) ∉ binds)→bindC kindOf binds m x = m x
 | [],_,_=>rfl
 | (n,v) :: r,m,h=>by
  unfold bindC
  rw [vN fun w hw=>h w (List.mem_cons_of_mem _ hw)]
  split
  ·rfl
  ·have:x ≠ n:=by rintro rfl; exact h v List.mem_cons_self
   simp [this]
theorem vO {kindOf:Str→Option NameKind} {x:Str} {v:Value}:∀ {P:List Str} {vs:List Value} {i:Nat} {m:Str→Option Value},P.Nodup→P[i]? = some x→vs[i]? = some v→kindOf x = some .local →
  bindL kindOf (P.zip vs) m x = some v
 | [],_,_,_,_,h,_,_=>by simp at h
 | _ :: _,[],_,_,_,_,h,_=>by simp at h
 | p :: P,w :: vs,0,m,nd,h1,h2,hk=>by
  simp at h1 h2; subst h1; subst h2
  show bindL kindOf ((p,w) :: P.zip vs) m p = _
  unfold bindL
  rw [vM fun v hv=>(List.nodup_cons.mp nd).1 (List.of_mem_zip hv).1,if_pos hk]
  simp
 | p :: P,w :: vs,i + 1,m,nd,h1,h2,hk=>by
  show bindL kindOf ((p,w) :: P.zip vs) m x = _
  unfold bindL
  exact vO (i:=i) (List.nodup_cons.mp nd).2 (by simpa using h1) (by simpa using h2) hk
theorem vP {kindOf:Str→Option NameKind} {x:Str} {v:Value}:∀ {P:List Str} {vs:List Value} {i:Nat} {m:Str→Option Value},P.Nodup→P[i]? = some x→vs[i]? = some v→kindOf x ≠ some .local →
  bindC kindOf (P.zip vs) m x = some v
 | [],_,_,_,_,h,_,_=>by simp at h
 | _ :: _,[],_,_,_,_,h,_=>by simp at h
 | p :: P,w :: vs,0,m,nd,h1,h2,hk=>by
  simp at h1 h2; subst h1; subst h2
  show bindC kindOf ((p,w) :: P.zip vs) m p = _
  unfold bindC
  rw [vN fun v hv=>(List.nodup_cons.mp nd).1 (List.of_mem_zip hv).1,if_neg hk]
  simp
 | p :: P,w :: vs,i + 1,m,nd,h1,h2,hk=>by
  show bindC kindOf ((p,w) :: P.zip vs) m x = _
  unfold bindC
  exact vP (i:=i) (List.nodup_cons.mp nd).2 (by simpa using h1) (by simpa using h2) hk
noncomputable def start (N:List Str) (vs:List V):St:=vs.map some ++ List.replicate (N.length - vs.length) none
noncomputable def yx (CX:FA) (P:Program) (w:World) (K:PySem.W.Frag) (mg:Str→Option Value) (base:Heap) (N:List Str) (qual:Str) (scope:Scope) (f:Addr) (cd:Value) (A:Around) (outer:List Env) (s:Shared) (H:Hp) (E:XK):Cx where
 prog:=P
 w:=w
 K:=K
 mg:=mg
 base:=base
 A:=A.deeper (envOfC qual scope s.heap.objs.size f cd)
 N:=N
 s₀:=s
 H₀:=H
 env:=envOfC qual scope s.heap.objs.size f cd
 outer:=outer
 stack:=envOfC qual scope s.heap.objs.size f cd :: outer
 ex:=[]
 calm:=true
 fn:=fun _=>true
 pn:=[]
 xe:=fun e s'=>wpAny (model P w) (A.deeper (envOfC qual scope s.heap.objs.size f cd)) (leaving (envOfC qual scope s.heap.objs.size f cd) e) (fun _ s''=>CX outer H s E e s'') (fun e' s''=>CX outer H s E e' s'') s'
theorem yy {sc:Scope} {n:Nat} {x:Str} (h:sc.names.lookup x = some .cell):∃ c,(cellsFrom n sc.names []).lookup x = some c:=by
 have q:=PySem.W.cellsFrom_some sc.names n [] (.inl h)
 exact Option.isSome_iff_exists.mp q
theorem D2 {CX:FA} {P:Program} {w:World} {K:PySem.W.Frag} {mg:Str→Option Value} {base:Heap} {N ps:List Str} {qual:Str} {scope:Scope} {f:Addr} {cd:Value} {A:Around} {outer:List Env} {s s1:Shared} {H:Hp} {E:XK} {us:List Value} {vs:List V}
  (S:aK N ps scope) (hd:A.handled = none) (e0:AY P w K mg base A outer s H) (hl:vs.length = ps.length) (r:Vals vs us)
  (x:InCallC s s.heap.objs.size (bindL (envOfC qual scope s.heap.objs.size f cd).kindOf (ps.zip us) fun _=>none) (cellsFrom (s.heap.objs.size + 1) scope.names []) (bindC (envOfC qual scope s.heap.objs.size f cd).kindOf (ps.zip us) fun _=>none) s1) :
  Inv (yx CX P w K mg base N qual scope f cd A outer s H E) [] (start N vs) H s1:=by
 have lJ:ps.length ≤ N.length:=by have:=congrArg List.length S.pre; rw [List.length_take] at this; omega
 obtain ⟨h1,tk,rfl,hk⟩:=x.done
 have OK:∀ b:Addr,b ∉ (yx CX P w K mg base N qual scope f cd A outer s H E).ex:=fun b z=>absurd (show b ∈ ([]:List Addr) from z) (by simp)
 refine ⟨⟨e0.mod,S.kind,rfl,rfl,Nat.le_refl _,fun y z c h1 h2=>?_,fun y hy=>?_,fun y c _ h=>?_,fun _=>hd,Around.frames_deeper e0.frames,.inr ⟨rfl,rfl⟩,fun b z=>absurd z (OK b),e0.bs,e0.Io,fun b _ _=>OK b,fun b z=>absurd z (OK b),e0.rR,e0.LG⟩,
  rfl,e0.bare,Un.kept hk,⟨_,x.toInCall.ns,fun i y v h1 h2 h3=>?_⟩,fun y c h=>⟨_,x.cell y c h⟩,e0.bE.fresh (Nat.le_refl _),fun y c h=>?_,fun p hp=>absurd (show p ∈ ([]:List (Addr × Obj)) from hp) (by simp),e0.bE.kept hk,?_⟩
 ·exact name_of_addr x.apart (PySem.mem_of_lookup h1) (PySem.mem_of_lookup h2)
 ·have hy:scope.names.lookup y = some .cell∨scope.names.lookup y = some .free:=hy
  rcases hy with hy | hy
  ·exact yy hy
  ·exact absurd rfl (S.L8 _ (PySem.mem_of_lookup hy))
 ·exact Nat.le_of_lt (x.above y c (PySem.mem_of_lookup h))
 ·have hi:i < vs.length:=by
   unfold start at h2
   by_cases hi:i < vs.length
   ·exact hi
   ·rw [List.getElem?_append_right (by simpa using hi)] at h2
    rw [List.getElem?_replicate] at h2
    split at h2 <;> cases h2
  have ha:vs[i]? = some v:=by
   unfold start at h2
   rw [List.getElem?_append_left (by simpa using hi),List.getElem?_map] at h2
   cases e:vs[i]? with
   | none=>rw [e] at h2; cases h2
   | some a=>rw [e] at h2; cases h2; rfl
  obtain ⟨u,hu,rv⟩:=r.get ha
  have hp:ps[i]? = some y:=by
   rw [← S.pre,List.getElem?_take_of_lt (by omega)]; exact h1
  have Zm:ps.Nodup:=by rw [← S.pre]; exact S.nd.sublist (List.take_sublist _ _)
  refine ⟨u,rv,?_⟩
  rcases S.par y (List.mem_of_getElem? hp) with k | k
  ·exact .inl ⟨k,vO Zm hp hu k⟩
  ·obtain ⟨c,e⟩:=yy (n:=s.heap.objs.size + 1) k
   refine .inr ⟨.inl k,c,e,?_⟩
   have q:=x.cell y c e
   rw [vP Zm hp hu (by show scope.names.lookup y ≠ _; rw [k]; decide)] at q
   exact q
 ·exact e0.bE.fresh (Nat.le_of_lt (x.above y c (PySem.mem_of_lookup h)))
 ·unfold start
  show _ = N.length
  rw [List.length_append,List.length_map,List.length_replicate]
  omega
theorem OL {CX:FA} {P:Program} {w:World} {K:PySem.W.Frag} {mg:Str→Option Value} {base:Heap} {k:Nat} {f:Addr} {name qual:Str} {params:Arguments} {body:List Stmt} {scope:Scope} {dV kV doc pm eu ct oc:Value} {an od:Option Addr}
  {KW:Array (Option Value)} {N ps:List Str} {sp:Sp} (lk:K.lookup f = some ⟨oc,od,.func (PySem.W.fnOf name qual params body scope dV kV doc pm an eu ct),KW⟩) (om:PySem.W.codeIn K eu qual = true) (S:aK N ps scope)
  (len:∀ vs H Q E,sp vs H Q E→vs.length = ps.length)
  (tH:∀ (A:Around) (outer:List Env) (s:Shared) (H:Hp) (vs:List V) (Q:VK) (E:XK),eD k (A.deeper (envOfC qual scope s.heap.objs.size f eu))→sp vs H Q E →
   ∃ t,AG (yx CX P w K mg base N qual scope f eu A outer s H E) body t∧t { nx:=fun _ H'=>Q .aU H',rt:=Q } (start N vs) H) :
  aJ P w K mg base CX (k + 1) f (PySem.W.fnOf name qual params body scope dV kV doc pm an eu ct) ps sp:=by
 refine ⟨len,fun A outer s H args us vs Q E hr e0 hb r KY=>?_⟩
 have hl:=len _ _ _ _ KY
 have KX:K.In s.heap:=e0.mod.yp.keeps fun b o e=>(e0.bs b o e).1
 have lim:s.heap.NoLimit:=e0.mod.nolimit.keeps fun b o e=>(e0.bs b o e).1
 have gH:∀ y ∈ ps.zip us,scope.names.lookup y.1 = some .local∨(scope.names.lookup y.1 = some .cell∧((cellsFrom (s.heap.objs.size + 1) scope.names []).lookup y.1).isSome = true):=fun ⟨n,v⟩ hy=>by
  rcases S.par n (List.of_mem_zip hy).1 with q | q
  ·exact .inl q
  ·exact .inr ⟨q,PySem.W.cellsFrom_some _ _ _ (.inl q)⟩
 refine codeAny_call_function hr.depth (KX _ _ lk) rfl S.co S.gen rfl (PySem.W.codeRec_of KX om) (hb _ _ _ _ ?_)
 refine wpAny_newFunctionEnv_cells S.kind gH fun env he s1 x=>?_
 subst he
 refine ⟨lim.keeps x.toInCall.keep,codeAny_func ?_⟩
 obtain ⟨t,ht,hq⟩:=tH A outer s H vs Q E (hr.deeper _) KY
 have I:Inv (yx CX P w K mg base N qual scope f eu A outer s H E) [] (start N vs) H s1:=D2 S hr.hd e0 hl r x
 refine wpAny_mono (ht [] s1 (start N vs) H _ I hq) (fun fl s' hs=>?_) fun e s' hs=>hs
 have fin:∀ {σ':St} {H':Hp} {v:V} {u:Value},Inv (yx CX P w K mg base N qual scope f eu A outer s H E) [] σ' H' s'→RelV v u→Q v H'→CE outer P w H s Q u s' :=
  fun {σ' H' v u} J rv q=>⟨v,H',J.os,J.bare,J.base,J.bE,rv,q⟩
 cases fl with
 | ret u =>
  obtain ⟨v,σ',H',J,rv,q⟩:=hs
  exact fin J rv q
 | next =>
  obtain ⟨σ',H',J,q⟩:=hs
  exact fin (v:=V.aU) (u:=Value.none) J rfl q
 | brk =>
  obtain ⟨_,_,_,q⟩:=hs
  exact False.elim q
 | cont =>
  obtain ⟨_,_,_,q⟩:=hs
  exact False.elim q
end L2
namespace L2
open PySem PySem.Spec PyProof.Rows
section
variable {X:Cx} {x:Str} {p pos:Pos} {e:Expr} {es:List Expr} {t:TA} {id T:String} {r:List V→Hp→VK→Prop}
noncomputable def SD (r:List V→Hp→VK→Prop) (t:TA):TE:=fun σ H Q=>t σ H fun vs H1=>r vs H1 Q
theorem tI (hc:dq X (.builtin id) r) (hg:Gl X x) (hm:X.mg x = none) (hv:bootBuiltins x = some (.builtin id)) (ha:PA X (e :: es) t) (hn:x ≠ "__name__":=by decide) (A0:(x == ("__debug__":Str)) = false:=by decide)
  (he:starEach (e :: es) X.env = (false,eval e X.env) :: starEach es X.env:=by rfl) (lJ:(backTo pos (starEach es X.env)).any (·.1) = false:=by rfl):PE X (.Call (.Name x p) (e :: es) [] pos) (SD r t):=by
 intro pins s σ H Q I h
 refine wpAny_Call_Name_kw (wN I hg hm hv ?_ hn A0)
 exact PyProof.Rows.callWith_builtin1 (cP (ha pos pins s σ H _ I h) fun us s1 ⟨vs,H1,I1,r1,q1⟩=>hc pins s1 σ H1 vs us Q I1 r1 q1) he lJ
theorem ng (hc:dq X (.type T) r) (hg:Gl X x) (hm:X.mg x = none) (hv:bootBuiltins x = some (.type T)) (ha:PA X (e :: es) t) (hn:x ≠ "__name__":=by decide) (A0:(x == ("__debug__":Str)) = false:=by decide)
  (he:starEach (e :: es) X.env = (false,eval e X.env) :: starEach es X.env:=by rfl) (lJ:(backTo pos (starEach es X.env)).any (·.1) = false:=by rfl):PE X (.Call (.Name x p) (e :: es) [] pos) (SD r t):=by
 intro pins s σ H Q I h
 refine wpAny_Call_Name_kw (wN I hg hm hv ?_ hn A0)
 exact PyProof.Rows.callWith_type1 (cP (ha pos pins s σ H _ I h) fun us s1 ⟨vs,H1,I1,r1,q1⟩=>hc pins s1 σ H1 vs us Q I1 r1 q1) he lJ
end
end L2
namespace HT
open PySem PyProof.Rows
section
open PySem.SeqAt
open PySem.AutoSeq1 (wpAny_loadPart')
open PySem.MeetsSeq PySem.MeetsSeq2 PySem.MeetsSeq3
end
section
variable {prog:Program} {w:World} {A:Around} {E:Value→Shared→Prop} {s:Shared}
theorem IW {t b:Addr} {vs ws:List Value} {Q:Value→Shared→Prop} (ht:IsTup s.heap t vs.toArray) (hb:IsTup s.heap b ws.toArray) (hv:vs ≠ [])
  (h1:ws = []→Q (.ref t) s) (h2:ws ≠ []→Q (.ref s.heap.objs.size) { s with heap:=s.heap.push { cls:=.type "tuple",data:=.seq (vs ++ ws).toArray } })
  (hsz:vs.length + ws.length ≤ sizeLine):wpAny (model prog w) A (binaryOp .Add (.ref t) (.ref b)) Q E s:=by
 obtain ⟨⟨cls,dd,data,sl⟩,ho,hc,n,hd⟩:=id ht
 obtain ⟨⟨L9,IX,data2,Iq⟩,Ir,A1,n2,hd2⟩:=id hb
 simp only at hc hd A1 hd2
 subst hc hd A1 hd2
 have e:vs.toArray ++ ws.toArray = (vs ++ ws).toArray:=by simp
 by_cases hw:ws = []
 ·exact concat_meets ⟨_,ho,rfl⟩ ⟨_,Ir,rfl⟩ noFill_tuple_add seq_tuple_add PySem.F.slot_tuple_add PySem.F.entry_tuple_add (PySem.F.args_tuple_add_2 _ _)
   (tuple_addW1 t b vs.toArray ws.toArray n n2 dd IX sl Iq (by simpa using hv) (by simp [hw])) ⟨ho,Ir,h1 hw⟩
 ·refine concat_meets ⟨_,ho,rfl⟩ ⟨_,Ir,rfl⟩ noFill_tuple_add seq_tuple_add PySem.F.slot_tuple_add PySem.F.entry_tuple_add (PySem.F.args_tuple_add_2 _ _)
   (tuple_addW2 t b vs.toArray ws.toArray n n2 dd IX sl Iq (by simpa using hv) (by simpa using hw) (by rw [List.size_toArray,List.size_toArray]; exact hsz)) ⟨ho,Ir,?_⟩
  rw [e]
  exact h2 hw
noncomputable def eB (n d:Nat):Option Int→Nat
 | none=>d
 | some v=>if v < 0 then (v + (n:Int)).toNat else min v.toNat n
theorem Ma (n d:Nat) (hd:d ≤ n) (o:Option Int):eB n d o ≤ n:=by
 cases o with
 | none=>exact hd
 | some v =>
  show (if v < 0 then (v + (n:Int)).toNat else min v.toNat n) ≤ n
  by_cases hv:v < 0
  ·rw [if_pos hv]; omega
  ·rw [if_neg hv]; exact Nat.min_le_right _ _
theorem CC (v:Int) (n d:Nat):(if v < 0 then max (v + (n:Int)) 0 else min v (n:Int)) = ((eB n d (some v):Nat):Int):=by
 show (if v < 0 then max (v + (n:Int)) 0 else min v (n:Int)) = (((if v < 0 then (v + (n:Int)).toNat else min v.toNat n):Nat):Int)
 by_cases hv:v < 0
 ·simp only [if_pos hv]; omega
 ·simp only [if_neg hv]; omega
theorem A2 (lo hi:Option Int) (n:Nat):Builtin.Slice.sliceAdjust lo hi 1 (n:Int) = (((eB n 0 lo:Nat):Int),((eB n n hi:Nat):Int)):=by
 have h1:¬ ((1:Int) < 0):=by omega
 unfold Builtin.Slice.sliceAdjust
 simp only [h1,if_false]
 refine Prod.ext ?_ ?_
 ·cases lo with
  | none=>rfl
  | some v=>exact CC v n 0
 ·cases hi with
  | none=>rfl
  | some v=>exact CC v n n
theorem A3 (i j:Nat):Builtin.Slice.slicePlaces (i:Int) (j:Int) 1 = j - i:=by
 unfold Builtin.Slice.slicePlaces
 have h1:(1:Int) > 0:=by omega
 simp only [h1,if_true,Int.ediv_one]
 split <;> omega
theorem tJ {v:Value} {o:Option Int} {Q:Option Int→Shared→Prop} (p:IsPart v o) (h:Q o s):wpAny (model prog w) A (Builtin.Slice.slicePartIndex v) Q E s:=by
 cases p with
 | none=>exact slicePart_none h
 | int i t=>exact slicePart_int h
theorem jw {sl:Addr} {vl vu:Value} {lo hi:Option Int} {n:Nat} {Q:Int × Int × Nat→Shared→Prop} (hs:s.heap.IsSliceOf sl vl vu .none) (pl:IsPart vl lo) (pu:IsPart vu hi)
  (h:Q (((eB n 0 lo:Nat):Int),1,eB n n hi - eB n 0 lo) s):wpAny (model prog w) A (Builtin.Slice.sliceApplied (.ref sl) (pure (n:Int))) Q E s:=by
 obtain ⟨os,OM,Zn,Q9⟩:=id hs
 unfold Builtin.Slice.sliceApplied Builtin.Slice.sliceFields
 refine wpAny_bind (wpAny_bind (wpAny_field OM Q9 (x:=vl) rfl (wpAny_bind (wpAny_field OM Q9 (x:=vu) rfl (wpAny_bind (wpAny_field OM Q9 (x:=.none) rfl (wpAny_pure ?_)))))))
 refine wpAny_bind (slicePart_none ?_)
 show wpAny _ _ (if ((1:Int) == 0) = true then _ else _) _ _ s
 rw [if_neg (by decide)]
 refine wpAny_bind (tJ pl (wpAny_bind (tJ pu (wpAny_bind (wpAny_pure ?_)))))
 show wpAny _ _ (match Builtin.Slice.sliceAdjust lo hi 1 (n:Int) with | (lo,hi)=>pure (lo,(1:Int),Builtin.Slice.slicePlaces lo hi 1)) _ _ s
 rw [A2 lo hi n]
 show wpAny _ _ (pure (((eB n 0 lo:Nat):Int),(1:Int),Builtin.Slice.slicePlaces ((eB n 0 lo:Nat):Int) ((eB n n hi:Nat):Int) 1)) _ _ s
 rw [A3]
 exact wpAny_pure h
theorem FD (xs:Array Value) (i k:Nat):((List.range k).filterMap fun (m:Nat)=>xs[((i:Int) + (m:Int) * 1).toNat]?).toArray = ((xs.toList.drop i).take k).toArray:=by
 have e:(fun (m:Nat)=>xs[((i:Int) + (m:Int) * 1).toNat]?) = fun m=>xs[i + m]?:=by
  funext m
  have:((i:Int) + (m:Int) * 1).toNat = i + m:=by omega
  rw [this]
 rw [e]
 have:=pick_run xs i k
 rw [List.filterMap_map] at this
 have e2:((fun x=>xs[x]?) ∘ fun x=>i + x) = fun m=>xs[i + m]?:=rfl
 rw [e2] at this
 rw [this]
theorem oY {t sl:Addr} {items:Array Value} {vl vu:Value} {lo hi:Option Int} {Q:Value→Shared→Prop} (ht:IsTup s.heap t items) (hs:s.heap.IsSliceOf sl vl vu .none) (pl:IsPart vl lo) (pu:IsPart vu hi)
  (hw:¬ (eB items.size 0 lo = 0∧eB items.size items.size hi = items.size))
  (h:Q (.ref s.heap.objs.size) { s with heap:=s.heap.push { cls:=.type "tuple",data:=.seq ((items.toList.drop (eB items.size 0 lo)).take (eB items.size items.size hi - eB items.size 0 lo)).toArray } })
  (hsz:items.size ≤ sizeLine):wpAny (model prog w) A (getItem (.ref t) (.ref sl)) Q E s:=by
 have CD:sizeOk (.seq ((items.toList.drop (eB items.size 0 lo)).take (eB items.size items.size hi - eB items.size 0 lo)).toArray):=by
  show ((items.toList.drop (eB items.size 0 lo)).take (eB items.size items.size hi - eB items.size 0 lo)).toArray.size ≤ sizeLine
  rw [List.size_toArray,List.length_take,List.length_drop,Array.length_toList]
  omega
 have hj:eB items.size items.size hi ≤ items.size:=Ma _ _ (Nat.le_refl _) hi
 obtain ⟨os,OM,Zn,Q9⟩:=id hs
 have hTs:s.TypeIs (.ref sl) "slice":=⟨os,OM,Zn⟩
 unfold getItem
 try with_reducible refine wpAny_holding ?_
 first | refine wpAny_bind (wpAny_pure ?_) | skip
 refine wpAny_bind (wpAny_sequenceKey ht.typeIs (by decide) ?_)
 refine wpAny_bind (wpAny_callSpecial?_slot (name:=Str.ofString "__getitem__") ht.typeIs PyProof.Rows.slot_tuple_getitem
  (wpAny_call_entry PyProof.Rows.slot_tuple_getitem ht.typeIs entry_tuple_getitem ?_ (args_tuple_getitem _ _)))
 show wpAny _ _ (Builtin.Tuple.tupleItemsOf (.ref t) >>= _) _ _ s
 refine wpAny_bind (tupleItemsOf_ ht ?_)
 refine wpAny_bind (wpAny_typeOf hTs ?_)
 rw [if_pos (by decide)]
 refine wpAny_bind (jw hs pl pu ?_)
 have SE:¬ ((((eB items.size 0 lo:Nat):Int) == 0 && (1:Int) == 1 && (eB items.size items.size hi - eB items.size 0 lo) == items.size) = true):=by
  intro q
  rw [Bool.and_eq_true,Bool.and_eq_true] at q
  have q1:((eB items.size 0 lo:Nat):Int) = 0:=eq_of_beq q.1.1
  have q2:eB items.size items.size hi - eB items.size 0 lo = items.size:=eq_of_beq q.2
  exact hw ⟨by omega,by omega⟩
 show wpAny _ _ (if (((eB items.size 0 lo:Nat):Int) == 0 && (1:Int) == 1 && (eB items.size items.size hi - eB items.size 0 lo) == items.size) = true then _ else _) _ _ s
 rw [if_neg SE,FD]
 first
  | exact wpAny_bind (m:=Builtin.Tuple.tupleExact _) (wpAny_newObj_type (wpAny_pure ⟨_,rfl,wpAny_pure h⟩) CD)
  | exact wpAny_bind (m:=Builtin.Tuple.tupleExact _) (wpAny_newObj_type (wpAny_bind (wpAny_pure (wpAny_pure ⟨_,rfl,wpAny_pure h⟩))) CD)
  | exact wpAny_bind (wpAny_bind (m:=Builtin.Tuple.tupleExact _) (wpAny_newObj_type (wpAny_pure (wpAny_pure ⟨_,rfl,wpAny_pure h⟩)) CD))
  | exact wpAny_bind (wpAny_bind (m:=Builtin.Tuple.tupleExact _) (wpAny_newObj_type (wpAny_pure ⟨_,rfl,wpAny_pure h⟩) CD))
end
end HT
namespace L2
open PySem PySem.Spec PyProof.Rows
noncomputable abbrev TO:=St→Hp→(Option Int→Hp→Prop)→Prop
noncomputable def PO (X:Cx) (e:Option Expr) (t:TO):Prop :=
 ∀ (pins:List (Addr × Obj)) (s:Shared) (σ:St) (H:Hp) (Q:Option Int→Hp→Prop),Inv X pins σ H s→t σ H Q →
  wpAny (model X.prog X.w) X.A (evalPart e X.env) (fun u s'=>∃ o H',Inv X pins σ H' s'∧IsPart u o∧Q o H') X.xe s
noncomputable def IY:TO:=fun _ H Q=>Q none H
noncomputable def ON (t:TE):TO:=fun σ H Q=>t σ H fun x H1=>∃ i,x = .int i∧Q (some i) H1
theorem intsAre_of {ns:List Int}:∀ {us:List Value},Vals (ns.map V.int) us→IntsAre us ns:=by
 induction ns with
 | nil=>intro us r; rw [List.map_nil] at r; cases r; exact .nil
 | cons n ns ih =>
  intro us r
  rw [List.map_cons] at r
  cases r with
  | cons r1 r2 =>
   obtain ⟨t,e⟩:=r1
   subst e
   exact .cons n t (ih r2)
section
variable {X:Cx} {e:Expr} {te:TE} {lo hi:Option Expr} {tl th:TO} {pos p2:Pos}
theorem IZ:PO X none IY:=by
 intro pins s σ H Q I h
 rw [evalPart_none]
 exact wpAny_pure ⟨none,H,I,.none,h⟩
theorem I0 (h:PE X e te):PO X (some e) (ON te):=by
 intro pins s σ H Q I hw
 rw [evalPart_some]
 refine cP (h pins s σ H _ I hw) fun u s1 ⟨x,H1,I1,r1,q1⟩=>?_
 obtain ⟨i,rfl,q⟩:=q1
 obtain ⟨t,rfl⟩:=r1
 exact ⟨some i,H1,I1,.int i t,q⟩
noncomputable def Iu (X:Cx) (r:V→Option Int→Option Int→Hp→VK→Prop):Prop :=
 ∀ (pins:List (Addr × Obj)) (s:Shared) (σ:St) (H:Hp) (x:V) (v vl vu:Value) (lo hi:Option Int) (sl:Addr) (Q:VK),Inv X pins σ H s→RelV x v→s.heap.IsSliceOf sl vl vu .none→IsPart vl lo→IsPart vu hi→r x lo hi H Q →
  ∃ T id,typeLookup (.type T) "__getitem__" = pure (some (.builtin id))∧s.TypeIs v T∧wpAny (model X.prog X.w) X.A (getItem v (.ref sl)) (EP X pins σ Q) X.xe s
noncomputable def tSl (r:V→Option Int→Option Int→Hp→VK→Prop) (te:TE) (tl th:TO):TE:=fun σ H Q=>te σ H fun x H1=>tl σ H1 fun l H2=>th σ H2 fun u H3=>r x l u H3 Q
theorem FE {r:V→Option Int→Option Int→Hp→VK→Prop} (hr:Iu X r) (he:PE X e te) (hl:PO X lo tl) (hu:PO X hi th):PE X (.Subscript e (.Slice lo hi none p2) pos) (tSl r te tl th):=by
 intro pins s σ H Q I h
 refine Subscript_ (cP (he pins s σ H _ I h) fun v s1 ⟨x,H1,I1,r1,q1⟩=>?_)
 refine wpAny_Slice (cP (hl pins s1 σ H1 _ I1 q1) fun vl s2 ⟨l,H2,I2,pl,q2⟩=>cP (hu pins s2 σ H2 _ I2 q2) fun vu s3 ⟨u,H3,I3,pu,q3⟩=>?_)
 rw [evalPart_none]
 refine wpAny_pure ?_
 have I4:Inv X pins σ H3 { s3 with heap:=s3.heap.push { cls:=.type "slice",data:=.fields #[vl,vu,.none] } }:=I3.kept (t':=s3.toks) fun b ob q=>Heap.get?_push_of_some _ q
 obtain ⟨T,id,hT,ht,hg⟩:=hr pins { s3 with heap:=s3.heap.push { cls:=.type "slice",data:=.fields #[vl,vu,.none] } } σ H3 x v vl vu l u s3.heap.objs.size Q I4 r1 (Heap.IsSliceOf.new ..) pl pu q3
 show wpAny (model X.prog X.w) X.A (subscriptTail e (.Slice lo hi none p2) v (.ref s3.heap.objs.size)) (EP X pins σ Q) X.xe { s3 with heap:=s3.heap.push { cls:=.type "slice",data:=.fields #[vl,vu,.none] } }
 exact tail_any (ops:=[.ref s3.heap.objs.size,v]) ht hT hg (by with_unfolding_all rfl)
noncomputable def yz (xs:List V) (lo hi:Option Int):List V:=(xs.drop (HT.eB xs.length 0 lo)).take (HT.eB xs.length xs.length hi - HT.eB xs.length 0 lo)
theorem qY (xs:List V) (lo hi:Option Int):(yz xs lo hi).length ≤ xs.length:=by
 unfold yz
 rw [List.length_take,List.length_drop]
 omega
noncomputable def SF (K:PySem.W.Frag):V→Option Int→Option Int→Hp→VK→Prop:=fun x lo hi H Q=>∃ a xs,x = .ref a∧kT K H a xs ∧
 ¬ (HT.eB xs.length 0 lo = 0∧HT.eB xs.length xs.length hi = xs.length)∧∀ p,H p = none→Q (.ref p) (upd H p (.tup (yz xs lo hi)))
theorem Mb:Iu X (SF X.K):=by
 intro pins s σ H x v vl vu lo hi sl Q I rx hs pl pu h
 obtain ⟨a,xs,rfl,hx,hw,q⟩:=h
 cases rx
 obtain ⟨its,r,ht,hz⟩:=I.tuple hx
 have hlen:its.toArray.size = xs.length:=by rw [List.size_toArray]; exact r.length.symm
 refine ⟨"tuple",_,PyProof.Rows.slot_tuple_getitem.lookup,ht.typeIs,?_⟩
 refine HT.oY ht hs pl pu (by rw [hlen]; exact hw) ?_ (by rw [hlen]; exact hz)
 rw [hlen]
 refine ⟨.ref s.heap.objs.size,_,I.laid (t':=s.toks) (o:=.tup (yz xs lo hi)) (fun b ob q=>Heap.get?_push_of_some _ q) (Nat.le_refl _) ?_,rfl,q _ (I.bE.fresh (Nat.le_refl _))⟩
 exact ⟨Nat.le_trans (qY xs lo hi) hz,_,(r.drop (HT.eB xs.length 0 lo)).take (HT.eB xs.length xs.length hi - HT.eB xs.length 0 lo),IsTup.new _ _⟩
noncomputable def FF (K:PySem.W.Frag):R2:=fun x y H Q=>∃ a b xs ys,x = .ref a∧y = .ref b∧kT K H a xs∧kT K H b ys∧xs ≠ []∧xs.length + ys.length ≤ sizeLine ∧
 (ys = []→Q (.ref a) H)∧(ys ≠ []→∀ p,H p = none→Q (.ref p) (upd H p (.tup (xs ++ ys))))
theorem Vals.wW {xs:List V} {us:List Value} (r:Vals xs us):us = [] ↔ xs = []:=by
 cases r with
 | nil=>simp
 | cons _ _=>simp
theorem Ja:jW X (binaryOp .Add) (FF X.K):=by
 intro pins s σ H x y v u Q I rx ry h
 obtain ⟨a,b,xs,ys,rfl,rfl,ha,hb,hx,hz,q1,q2⟩:=h
 cases rx
 cases ry
 obtain ⟨its,r1,p1,_⟩:=I.tuple ha
 obtain ⟨vb,r2,p2,_⟩:=I.tuple hb
 refine HT.IW p1 p2 (fun z=>hx (r1.wW.mp z)) (fun z=>⟨.ref a,H,I,rfl,q1 (r2.wW.mp z)⟩) (fun z=>?_) (by rw [← r1.length,← r2.length]; exact hz)
 refine ⟨.ref s.heap.objs.size,_,I.laid (t':=s.toks) (o:=.tup (xs ++ ys)) (fun b ob q=>Heap.get?_push_of_some _ q) (Nat.le_refl _) ?_,rfl,q2 (fun w=>z (r2.wW.mpr w)) _ (I.bE.fresh (Nat.le_refl _))⟩
 exact ⟨by rw [List.length_append]; exact hz,_,r1.append r2,IsTup.new _ _⟩
end
end L2
namespace L2
open PySem PySem.Spec PyProof.Rows
noncomputable def KZ (n:Nat) (i:Int):Option Nat:=if 0 ≤ i then (if i < n then some i.toNat else none) else if -(n:Int) ≤ i then some (i + n).toNat else none
noncomputable def oV {α:Type} (xs:List α) (i:Int):Option α:=(KZ xs.length i).bind fun j=>xs[j]?
theorem Jb {n:Nat} {i:Int} {j:Nat} (h:KZ n i = some j):seqIndex? i n = some j∧j < n∧-(n:Int) ≤ i∧i < n:=by
 unfold KZ at h
 by_cases h0:0 ≤ i
 ·rw [if_pos h0] at h
  by_cases h1:i < n
  ·rw [if_pos h1] at h
   have e:i.toNat = j:=Option.some.inj h
   exact ⟨by rw [seqIndex_of h0 h1,e],by omega,by omega,h1⟩
  ·rw [if_neg h1] at h; cases h
 ·rw [if_neg h0] at h
  by_cases h1:-(n:Int) ≤ i
  ·rw [if_pos h1] at h
   have e:(i + n).toNat = j:=Option.some.inj h
   exact ⟨by rw [seqIndex_neg (by omega) h1,e],by omega,h1,by omega⟩
  ·rw [if_neg h1] at h; cases h
theorem wX {α:Type} {xs:List α} {i:Int} {v:α} (h:oV xs i = some v):∃ j,seqIndex? i xs.length = some j∧xs[j]? = some v∧j < xs.length∧-(xs.length:Int) ≤ i∧i < xs.length:=by
 unfold oV at h
 cases e:KZ xs.length i with
 | none=>rw [e] at h; cases h
 | some j =>
  rw [e] at h
  obtain ⟨h1,h2,h3,h4⟩:=Jb e
  exact ⟨j,h1,h,h2,h3,h4⟩
theorem il {α:Type} {xs:List α} {j:Nat} {v:α} (h:xs[j]? = some v):oV xs (j:Int) = some v:=by
 have hj:j < xs.length:=(List.getElem?_eq_some_iff.mp h).1
 have e:KZ xs.length (j:Int) = some j:=by
  unfold KZ
  rw [if_pos (by omega),if_pos (by omega)]; simp
 unfold oV; rw [e]; exact h
noncomputable def sM (b:Expr):Prop:=∀ o i,subscripted b false o i = operate [o,i] (getItem o i)
noncomputable def Iv (X:Cx) (r:R2):Prop :=
 ∀ (value slice:Expr) (pins:List (Addr × Obj)) (s:Shared) (σ:St) (H:Hp) (x y:V) (v u:Value) (Q:VK),Inv X pins σ H s→RelV x v→RelV y u→r x y H Q →
  subscripted slice false v u = operate [v,u] (getItem v u)→wpAny (model X.prog X.w) X.A (subscriptTail value slice v u) (EP X pins σ Q) X.xe s
noncomputable def Zo (X:Cx) (id:String) (r:V→List V→Hp→VK→Prop):Prop :=
 ∀ (pins:List (Addr × Obj)) (s:Shared) (σ:St) (H:Hp) (x:V) (xs:List V) (v:Value) (us:List Value) (Q:VK),Inv X pins σ H s→RelV x v→Vals xs us→r x xs H Q →
  wpAny (model X.prog X.w) X.A (call (.builtin id) (v :: us)) (EP X pins σ Q) X.xe s
section
variable {X:Cx} {a b:Expr} {ta tb:TE} {pos:Pos}
theorem Iv.or {r r':R2} (h:Iv X r) (h':Iv X r'):Iv X (fun x y H Q=>r x y H Q∨r' x y H Q):=by
 intro value slice pins s σ H x y v u Q I rx ry q hs
 rcases q with q | q
 ·exact h value slice pins s σ H x y v u Q I rx ry q hs
 ·exact h' value slice pins s σ H x y v u Q I rx ry q hs
theorem OO {r:R2} (hr:Iv X r) (ha:PE X a ta) (hb:PE X b tb) (hs:sM b):PE X (.Subscript a b pos) (OB r ta tb):=by
 intro pins s σ H Q I h
 exact Subscript_ (LX ha hb I h fun v u s2 x y H2 I2 rx ry q=>hr a b pins s2 σ H2 x y v u Q I2 rx ry q (hs _ _))
noncomputable def OP (K:PySem.W.Frag):R2:=fun x y H Q=>∃ p xs i v,x = .ref p∧y = .int i∧gG K H p xs∧oV xs i = some v∧Q v H
noncomputable def OQ (K:PySem.W.Frag):R2:=fun x y H Q=>∃ p xs i v,x = .ref p∧y = .int i∧kT K H p xs∧oV xs i = some v∧Q v H
noncomputable def OR:R2:=fun x y H Q=>∃ z i c,x = .str z∧y = .int i∧z.length ≤ sizeLine∧oV z.cps.toList i = some c∧Q (.str ⟨#[c]⟩) H
theorem Jc:Iv X (OP X.K):=by
 intro value slice pins s σ H x y v u Q I rx ry h hs
 obtain ⟨p,xs,i,z,rfl,rfl,hq,he,q⟩:=h
 cases rx
 obtain ⟨t,rfl⟩:=ry
 obtain ⟨its,r,pl,hz⟩:=I.list hq
 obtain ⟨j,h1,h2,h3,h4,h5⟩:=wX he
 obtain ⟨w,ew,rw'⟩:=r.get h2
 have hl:=r.length
 have hn:=tF
 have fin:EP X pins σ Q w s:=⟨z,H,I,rw',q⟩
 by_cases h0:0 ≤ i
 ·have hj:i.toNat = j:=by
   rw [seqIndex_of h0 h5] at h1
   exact Option.some.inj h1
  exact item_listR pl.isList h0 (by omega) (by rw [hj]; simpa using ew) fin hs
 ·have hj:(i + (its.toArray.size:Int)).toNat = j:=by
   rw [seqIndex_neg (by omega) h4] at h1
   rw [List.size_toArray,← hl]
   exact Option.some.inj h1
  exact subscriptTail_builtinR (x:=w) pl.isList.typeIs slot_list_getitem.lookup
   (wpAny_getItem_list_neg (Q:=fun r s'=>r = w∧EP X pins σ Q r s') pl.isList (by omega) (by rw [List.size_toArray] <;> omega) (by omega) (by rw [hj]; simpa using ew) ⟨rfl,fin⟩) hs
theorem Mc:Iv X (OQ X.K):=by
 intro value slice pins s σ H x y v u Q I rx ry h hs
 obtain ⟨p,xs,i,z,rfl,rfl,hq,he,q⟩:=h
 cases rx
 obtain ⟨t,rfl⟩:=ry
 obtain ⟨its,r,pl,hz⟩:=I.tuple hq
 obtain ⟨j,h1,h2,h3,h4,h5⟩:=wX he
 obtain ⟨w,ew,rw'⟩:=r.get h2
 have hl:=r.length
 have hn:=tF
 have fin:EP X pins σ Q w s:=⟨z,H,I,rw',q⟩
 exact subscriptTail_builtinR (x:=w) pl.typeIs slot_tuple_getitem.lookup
  (getItem_tuple (j:=j) (Q:=fun r s'=>r = w∧EP X pins σ Q r s') pl (by omega) (by omega) (by rw [List.size_toArray,← hl]; exact h1) (by simpa using ew) ⟨rfl,fin⟩) hs
theorem Md:Iv X OR:=by
 intro value slice pins s σ H x y v u Q I rx ry h hs
 obtain ⟨z,i,c,rfl,rfl,hz,he,q⟩:=h
 obtain ⟨t,rfl⟩:=rx
 obtain ⟨t',rfl⟩:=ry
 obtain ⟨j,h1,h2,h3,h4,h5⟩:=wX he
 have hl:z.cps.toList.length = z.length:=by simp [Str.length]
 rw [hl] at h1 h4 h5
 have hn:=tF
 exact tail_any (typeIs_str s z t) slot_str_getitem.lookup (getItem_str (c:=c) (by
  have e1:decide (i < -(2 ^ 63:Int)) = false:=decide_eq_false (by omega)
  have e2:decide (i ≥ 2 ^ 63) = false:=decide_eq_false (by omega)
  rw [e1,e2,Bool.or_false]) (by rw [h1]; simpa using h2) ⟨.str ⟨#[c]⟩,H,I.tok _,⟨_,rfl⟩,q⟩) hs
noncomputable def SG (K:PySem.W.Frag):R2:=fun x y H Q=>OP K x y H Q∨OQ K x y H Q∨OR x y H Q
theorem FG:Iv X (SG X.K):=Jc.or (Mc.or Md)
theorem wY (lo hi:Option Int) (n:Nat):(sliceBounds lo hi none n).1 = ((HT.eB n 0 lo:Nat):Int)∧(sliceBounds lo hi none n).2.1 = ((HT.eB n n hi:Nat):Int)∧(sliceBounds lo hi none n).2.2 = 1:=by
 refine ⟨?_,?_,rfl⟩
 ·cases lo with
  | none=>simp [sliceBounds,HT.eB]
  | some i =>
   simp only [sliceBounds,HT.eB,Option.getD_none,show (1:Int) > 0 by decide,if_true]
   by_cases h:i < 0
   ·simp only [h,if_true] <;> omega
   ·simp only [h,if_false] <;> omega
 ·cases hi with
  | none=>simp [sliceBounds,HT.eB]
  | some i =>
   simp only [sliceBounds,HT.eB,Option.getD_none,show (1:Int) > 0 by decide,if_true]
   by_cases h:i < 0
   ·simp only [h,if_true] <;> omega
   ·simp only [h,if_false] <;> omega
theorem vc (its:List Value) (lo hi:Option Int):slicePick its.toArray lo hi none = ((its.drop (HT.eB its.length 0 lo)).take (HT.eB its.length its.length hi - HT.eB its.length 0 lo)).toArray:=by
 obtain ⟨h1,h2,h3⟩:=wY lo hi its.toArray.size
 unfold slicePick
 rw [h1,h2,h3]
 simp only [sliceRange_one,pick_run,List.size_toArray] <;> rfl
noncomputable def SH (K:PySem.W.Frag):V→Option Int→Option Int→Hp→VK→Prop:=fun x lo hi H Q=>∃ a xs,x = .ref a∧gG K H a xs∧∀ p,H p = none→Q (.ref p) (upd H p (.lst (yz xs lo hi)))
theorem Jd:Iu X (SH X.K):=by
 intro pins s σ H x v vl vu lo hi sl Q I rx hs pl pu h
 obtain ⟨a,xs,rfl,hx,q⟩:=h
 cases rx
 obtain ⟨its,r,ht,hz⟩:=I.list hx
 have hlen:=r.length
 refine ⟨"list",_,slot_list_getitem.lookup,ht.isList.typeIs,?_⟩
 refine wpAny_getItem_list_slice ht.isList hs pl pu .none (by simp) ?_ (by rw [List.size_toArray] <;> omega)
 rw [vc,← hlen]
 refine ⟨.ref s.heap.objs.size,_,I.laid (t':=s.toks) (o:=.lst (yz xs lo hi)) (fun b ob q=>Heap.get?_push_of_some _ q) (Nat.le_refl _) ?_,rfl,q _ (I.bE.fresh (Nat.le_refl _))⟩
 exact ⟨Nat.le_trans (qY xs lo hi) hz,_,0,(r.drop (HT.eB xs.length 0 lo)).take (HT.eB xs.length xs.length hi - HT.eB xs.length 0 lo),Heap.get?_push_size _ rfl⟩
theorem wZ:dq X (.builtin "len") (fun xs H Q=>∃ p ys,xs = [.ref p]∧(gG X.K H p ys∨kT X.K H p ys)∧Q (.int ys.length) H):=by
 intro pins s σ H xs us Q I r h
 obtain ⟨p,ys,rfl,hq,q⟩:=h
 obtain ⟨u,rfl,rx⟩:=vals1 r
 cases rx
 have hn:=tF
 rcases hq with hq | hq
 ·obtain ⟨its,r',pl,hz⟩:=I.list hq
  have hlen:=r'.length
  exact Calls.call_len_list pl.isList (by simp only [List.size_toArray] <;> omega) ⟨.int ys.length,H,I.tok _,⟨s.toks + 1,by rw [List.size_toArray,hlen]⟩,q⟩
 ·obtain ⟨its,r',pl,hz⟩:=I.tuple hq
  have hlen:=r'.length
  exact len_tuple pl (by simp only [List.size_toArray] <;> omega) ⟨.int ys.length,H,I.tok _,⟨s.toks + 1,by rw [List.size_toArray,hlen]⟩,q⟩
theorem vd:dq X (.type "tuple") (fun xs H Q=>∃ p ys,xs = [.ref p]∧((gG X.K H p ys∧∀ l,H l = none→Q (.ref l) (upd H l (.tup ys)))∨(kT X.K H p ys∧Q (.ref p) H))):=by
 intro pins s σ H xs us Q I r h
 obtain ⟨p,ys,rfl,h⟩:=h
 obtain ⟨u,rfl,rx⟩:=vals1 r
 cases rx
 rcases h with ⟨hq,q⟩ | ⟨hq,q⟩
 ·obtain ⟨its,r',pl,hz⟩:=I.list hq
  have hlen:=r'.length
  refine call_tuple_list pl.isList (fun h' kp=>?_) (by simp only [List.size_toArray] <;> omega)
  have I1:Inv X pins σ H { s with heap:=h' }:=I.kept (t':=s.toks) kp
  have I2:Inv X pins σ (upd H h'.objs.size (.tup ys)) { s with heap:=h'.push { cls:=.type "tuple",data:=.seq its.toArray } } :=
   I1.laid (t':=s.toks) (fun b o e=>Heap.get?_push_of_some _ e) (Nat.le_refl _) (show cG X.prog X.w _ _ _ (.tup ys) from ⟨hz,its,r',IsTup.new _ _⟩)
  exact ⟨.ref h'.objs.size,_,I2,rfl,q _ (I1.bE.fresh (Nat.le_refl _))⟩
 ·obtain ⟨its,r',pl,hz⟩:=I.tuple hq
  exact call_tuple_same pl ⟨.ref p,H,I,rfl,q⟩
noncomputable def Zp (K:PySem.W.Frag) (T:String) (x:V) (H:Hp):Prop:=match x with
 | .str _=>T = "str"
 | .int _=>T = "int"
 | .ref p=>(T = "list"∧∃ xs,gG K H p xs)∨(T = "tuple"∧∃ o,K.lookup p = some o∧o.cls = .type "tuple"∧o.dict = none) ∨
   (T = "dict"∧((∃ kvs,H p = some (.dK kvs))∨∃ kvs,H p = some (.dT kvs)))∨(T = "set"∧∃ S n,H p = some (.set S n))
 | _=>False
theorem Me {pins:List (Addr × Obj)} {σ:St} {H:Hp} {s:Shared} {T:String} {x:V} {v:Value} (I:Inv X pins σ H s) (r:RelV x v) (ty:Zp X.K T x H) :
  s.TypeIs v T∧∀ a,v = .ref a→∃ ob,s.heap.get? a = some ob∧ob.dict = none:=by
 cases x with
 | str z =>
  obtain ⟨t,rfl⟩:=r
  cases (show T = "str" from ty)
  exact ⟨typeIs_str s z t,fun _ e=>nomatch e⟩
 | int i =>
  obtain ⟨t,rfl⟩:=r
  cases (show T = "int" from ty)
  exact ⟨typeIs_int s i t,fun _ e=>nomatch e⟩
 | ref p =>
  cases r
  rcases ty with ⟨rfl,xs,hq⟩ | ⟨rfl,o,hk,hc,hd⟩ | ⟨rfl,hk⟩ | ⟨rfl,S,n,hk⟩
  ·obtain ⟨its,_,pl,_⟩:=I.list hq
   refine ⟨pl.isList.typeIs,fun a e=>?_⟩
   cases e
   obtain ⟨o,n,e,c,hd,_⟩:=pl
   exact ⟨o,e,hd⟩
  ·refine ⟨⟨o,I.Cy p o hk,hc⟩,fun a e=>?_⟩
   cases e
   exact ⟨o,I.Cy _ o hk,hd⟩
  ·have z:∃ o,s.heap.get? p = some o∧o.ExactDict:=by
    rcases hk with ⟨kvs,hk⟩ | ⟨kvs,hk⟩
    ·obtain ⟨_,_,_,_,o,_,_,e,ex,_⟩:=I.bE p _ hk
     exact ⟨o,e,ex⟩
    ·obtain ⟨_,_,_,_,o,_,_,e,ex,_⟩:=I.bE p _ hk
     exact ⟨o,e,ex⟩
   obtain ⟨o,e,ex⟩:=z
   refine ⟨⟨o,e,ex.1⟩,fun a e2=>?_⟩
   cases e2
   exact ⟨o,e,ex.2.1⟩
  ·obtain ⟨o,_,_,_,e,ex,_⟩:=I.bE p _ hk
   refine ⟨⟨o,e,ex.1⟩,fun a e2=>?_⟩
   cases e2
   exact ⟨o,e,ex.2.1⟩
 | _=>exact False.elim ty
noncomputable def tBM (K:PySem.W.Frag) (T:String) (r:V→List V→Hp→VK→Prop) (to:TE) (t:TA):TE:=fun σ H Q=>to σ H fun x H1=>Zp K T x H1∧t σ H1 fun xs H2=>r x xs H2 Q
variable {o e:Expr} {es:List Expr} {to:TE} {t:TA} {name:Str} {apos tK:Pos} {T id:String} {r:V→List V→Hp→VK→Prop}
theorem FH (pa:PlainAttrs T) (slot:Slot T name id) (hty:typeOf (.builtin id) = pure (.type "method_descriptor")) (hm:Zo X id r) (ho:PE X o to) (ha:PA X (e :: es) t)
  (lU:attributeBase o name X.env (eval o X.env) = eval o X.env:=by rfl)
  (tL:((backTo tK (starEach (e :: es) X.env)).all (fun x=>!x.1) && (backToKw tK (keywordEach [] X.env)).all (fun x=>x.1.isSome)
   && decide ((e :: es).length + ([]:List Keyword).length + (if ([]:List Keyword).isEmpty then 0 else 1) < 30)) = true:=by rfl)
  (lV:(apos.endLine == tK.line) = true:=by rfl) (hs:starEach (e :: es) X.env = (false,eval e X.env) :: starEach es X.env:=by rfl) (oq:(backTo tK (starEach es X.env)).any (·.1) = false:=by rfl) :
  PE X (.Call (.Attribute o name apos) (e :: es) [] tK) (tBM X.K T r to t):=by
 intro pins s σ H Q I h
 refine wpAny_Call_method_late lU tL lV rfl (cP (ho pins s σ H _ I h) fun v s1 ⟨x,H1,I1,r1,ty,q1⟩=>?_)
 obtain ⟨h1,h2⟩:=Me I1 r1 ty
 refine ⟨T,id,pa,slot,hty,h1,h2,?_⟩
 have hA:=ha tK pins s1 σ H1 _ I1 q1
 rw [hs] at hA ⊢
 refine Calls.callWith_builtin (by show (false || (backTo tK (starEach es X.env)).any (·.1)) = false; rw [oq] <;> rfl) (Calls.evalArgs_plain ?_)
 exact cP hA fun us s2 ⟨vs,H2,I2,r2,q2⟩=>hm pins s2 σ H2 x vs v us Q I2 r1 r2 q2
end
end L2
namespace L2
open PySem PySem.Spec PyProof.Rows
noncomputable def Zq (X:Cx) (id:String) (r:V→List V→Hp→VK→Prop):Prop :=
 ∀ (pins:List (Addr × Obj)) (s:Shared) (σ:St) (H:Hp) (x:V) (xs:List V) (v:Value) (us:List Value) (Q:VK),Inv X pins σ H s→RelV x v→Vals xs us→r x xs H Q →
  wpAny (model X.prog X.w) X.A (call (.builtin id) (v :: us)) (EP X pins σ Q) X.xe s
theorem Vals.one:∀ {x:V} {us:List Value},Vals [x] us→∃ u,us = [u]∧RelV x u
 | _,_,.cons r .nil=>⟨_,rfl,r⟩
section
variable {X:Cx} {pins:List (Addr × Obj)} {σ:St} {H:Hp} {s:Shared} {l b:Addr} {xs ys zs:List V}
theorem Inv.OS {its its':List Value} {n:Nat} {f:Array Value→Array Value} {t':Nat} (I:Inv X pins σ H s) (hH:H l = some (.lst xs))
  (e:s.heap.get? l = some { cls:=.type "list",data:=.seq its.toArray n }) (hf:f its.toArray = its'.toArray) (hv:Vals ys its') (hz:ys.length ≤ sizeLine) :
  Inv X pins σ (upd H l (.lst ys)) { s with heap:=s.heap.update l (Obj.mapSeq f),toks:=t' }:=by
 have q:=PySem.IsL.update e f
 rw [hf] at q
 refine I.write (x:=l) (e:=l) (by rw [hH]; exact trivial) (.inl rfl) (fun b' u hb hu=>(Heap.get?_update_other s.heap (Obj.mapSeq f) (Ne.symm hb)).trans hu) ⟨_,q⟩ ?_
 exact ⟨hz,its',_,hv,q⟩
theorem Inv.Je {its:List Value} {t':Nat} (I:Inv X pins σ H s) (hv:Vals ys its) (hz:ys.length ≤ sizeLine) :
  Inv X pins σ (upd H s.heap.objs.size (.lst ys)) { s with heap:=s.heap.push { cls:=.type "list",data:=.seq its.toArray },toks:=t' } :=
 I.laid (fun _ _ q=>Heap.get?_push_of_some _ q) (Nat.le_refl _) ⟨hz,its,0,hv,Heap.get?_push_size _ rfl⟩
theorem Inv.fresh (I:Inv X pins σ H s):H s.heap.objs.size = none:=I.bE.fresh (Nat.le_refl _)
theorem Inv.OT (I:Inv X pins σ H s) (hH:H l = some (.lst xs)):xs.length ≤ sizeLine∧∃ (its:List Value) (n:Nat),Vals xs its∧xs.length = its.length∧s.heap.get? l = some { cls:=.type "list",data:=.seq its.toArray n }:=by
 obtain ⟨z,its,n,r,e⟩:=I.bE l _ hH
 exact ⟨z,its,n,r,r.length,e⟩
theorem FI {n:Nat} (h:n ≤ sizeLine):Builtin.List.listTooLong n = false:=by
 unfold Builtin.List.listTooLong
 exact decide_eq_false (by omega)
end
section
variable {X:Cx}
noncomputable def Jf:V→List V→Hp→VK→Prop:=fun x vs H Q=>∃ l xs y,x = .ref l∧vs = [y]∧H l = some (.lst xs)∧xs.length < sizeLine∧Q .aU (upd H l (.lst (xs ++ [y])))
theorem qk:Zq X "list.append" Jf:=by
 intro pins s σ H x vs v us Q I rx rv h
 obtain ⟨l,xs,y,rfl,rfl,hH,hz,q⟩:=h
 cases rx
 obtain ⟨u,rfl,ru⟩:=rv.one
 obtain ⟨z,its,n,r,hl,e⟩:=I.OT hH
 refine call_meets F.slot_list_append ⟨_,e,rfl⟩ F.entry_list_append (F.args_list_append_2 _ _) (PySem.list_append l its.toArray n u (by rw [List.size_toArray]; omega)) ⟨e,?_⟩
 refine ⟨.aU,_,I.OS (its':=its ++ [u]) hH e (by simp) (r.append (.cons ru .nil)) ?_,rfl,q⟩
 rw [List.length_append,List.length_singleton]
 omega
end
section
variable {prog:Program} {w:World} {A:Around} {E:Value→Shared→Prop} {s:Shared}
end
section
variable {X:Cx}
end
end L2
namespace Zr
open PySem PySem.W PySem.Calls PyProof.Rows
theorem rS {P:Params} {h:Heap}:∀ (ns:List Int) (vs:List Value),WellAll P h vs (ns.map WData.int)→IntsAre vs ns:=by
 intro ns
 induction ns with
 | nil =>
  intro vs w
  rw [List.map_nil] at w
  cases w
  exact .nil
 | cons n ns ih =>
  intro vs w
  rw [List.map_cons] at w
  cases w with
  | cons a b =>
   cases a
   exact .cons _ _ (ih _ b)
theorem D3 {l:OpenLaw} {n:Nat} (hn:l.most = some n) {P:Params} {h:Heap} {args:List WData} {vals:List Value}
  (Jg:l.row.toRowW.claim.pre args = true) (SI:WellAll P h vals args) :
  ∃ a vs ns,vals = [Value.ref a]∧args = [WData.list (ns.map WData.int)]∧h.get? a = some { cls:=.type "list",data:=.seq vs.toArray }∧IntsAre vs ns∧ns.length ≤ n:=by
 have Jh:WShape.hasAll [] args [.list .int] = true:=(pre_splitW Jg).1
 have hc:l.pre.holds [] { args:=args } = true:=(pre_splitW Jg).2
 obtain ⟨d,r,rfl,h1,h2⟩:=hasAllW_cons Jh
 obtain rfl:=hasAllW_nil h2
 obtain ⟨xs,rfl,h3⟩:=hasW_list h1
 obtain ⟨ns,rfl⟩:=items_int h3
 have hlen:ns.length ≤ n:=by
  unfold OpenLaw.pre at hc
  have h4:(WTm.not (.lt (.lit (.int (n:Int))) (.len (.arg 0)))).holds [] { args:=[.list (ns.map .int)] } = true:=by
   have h4:=(holds_andW hc).1
   rw [hn] at h4
   exact h4
  have h5:=condW_of h4 (w_not (w_lt w_lit (w_len_list (w_arg rfl))))
  rw [List.length_map] at h5
  refine Nat.le_of_not_lt fun q=>?_
  have q':(n:Int) < ((ns.length:Nat):Int):=by omega
  first
   | (rw [decide_eq_true q'] at h5; exact absurd h5 (by decide))
   | (simp at h5; omega)
 cases SI with
 | cons w1 w2 =>
  cases w2
  cases w1 with
  | list ho D4=>exact ⟨_,_,ns,rfl,rfl,ho,rS ns _ D4,hlen⟩
theorem D5 (l:OpenLaw) (args:List WData):l.row.toRowW.claim.post args (.bool true) args = true :=
 postW_of (r:=l.row.toRowW) (X:=(true == true))
  (show WShape.has [] (.bool true) .bool = true by first | rfl | decide | simp [WShape.has,WShape.arms,WShape.armsAll])
  (show (WTm.eq .res (.lit (.bool true))).value [] { args:=args,res:=some (.bool true),after:=args } = some (.bool (true == true)) from w_eq_bool (w_res rfl) w_lit) rfl
theorem yA {l:OpenLaw} {n:Nat} {q:Program} {loose:List Str} {XP:(Str→Option Value)→Heap→Prop} {YP:World→Heap→Prop} {d:DefRec}
  (hn:l.most = some n) (OU:d.params.defaults = [])
  (call:∀ (w:World) (s₀ s₁:Shared) (mg mb:Str→Option Value) (fa:Addr) (o:Obj) (pm cd doc:Value) (a:Addr) (vs:List Value) (ns:List Int),
   Ground q loose [] XP w s₀ mg mb s₁.heap→YP w s₁.heap →
   s₁.heap.get? fa = some o→o.data = .func (docDef d.name d.params d.body d.scope pm cd doc)→s₁.heap.CodeRec cd d.name→mg d.name = some (.ref fa) →
   s₁.heap.get? a = some { cls:=.type "list",data:=.seq vs.toArray }→IntsAre vs ns→ns.length ≤ n→s₁.gens = #[] →
   codeAny (model l.prog w) callerA (.call (.ref fa) ⟨[.ref a],[]⟩) (fun r s'=>r = .ok (.ret (.bool true))∧OldK s₁.heap s'.heap∧s'.os = s₁.os∧AllBare s'.gens) s₁) :
  WalkO q loose XP YP l.row.toRowW d [] (fun f vs=>PySem.call f vs):=by
 intro w s₀ s₁ mg mb G Y fa o pm cd doc dV kV ho hd om hD OV hg args vals as Jg hlay hrd SI Iw
 obtain rfl : dV = .none:=Dflts.none hD OU
 obtain rfl : kV = .none:=Dflts.noKw hD
 obtain ⟨a,vs,ns,rfl,rfl,Mf,hints,hlen⟩:=D3 hn Jg SI
 refine enter_call (codeAny_mono (call w s₀ s₁ mg mb fa o pm cd doc a vs ns G Y ho (fd_plain hd) om OV Mf hints hlen hg) fun r s' hq=>?_)
 obtain ⟨rfl,h2,h3,h4⟩:=hq
 exact ⟨.inl ⟨.bool true,.bool true,[],rfl,fun _=>rfl,.bool true,D5 l _,fun _=>⟨List.Pairwise.nil,fun _ hm=>(nomatch hm)⟩⟩,h2,h3,h4⟩
section
variable {prog:Program} {w:World} {A:Around} {E:Value→Shared→Prop} {s:Shared} {K:Frag}
end
end Zr
namespace L2
open PySem PySem.Spec PyProof.Rows
theorem vQ:∀ {vs:List Value} {ns:List Int},IntsAre vs ns→Vals (ns.map V.int) vs
 | _,_,.nil=>.nil
 | _,_,.cons n t h=>.cons ⟨t,rfl⟩ (vQ h)
noncomputable def Mi (H:Hp):Prop:=∀ b,H b = none∨∃ o xs,H b = some (.iK o (.lst xs))
theorem FJ {P:Program} {w:World} {K:PySem.W.Frag} {mg mb:Str→Option Value} {CX:FA} {k:Nat} {fa a:Addr} {fd:FuncData} {x:Str} {sp:Sp} {s₁:Shared} {vs:List Value} {ns:List Int}
  (KX:K.In s₁.heap) (Ra:s₁.heap.Ns mainGlobals mg) (hb:s₁.heap.Ns builtinsNs mb) (hbb:∀ x:Str,x ≠ "__name__"→mb x = bootBuiltins x) (SJ:s₁.heap.NoLimit) (hg:s₁.gens = #[])
  (ha:s₁.heap.get? a = some { cls:=.type "list",data:=.seq vs.toArray }) (hi:IntsAre vs ns) (hl:ns.length ≤ sizeLine) (hr:eD k callerA)
  (F:∀ base:Heap,K.In base→base.Ns mainGlobals mg→aJ P w K mg base CX k fa fd [x] sp) (OW:∀ (s:Shared) (u:Value),BindsTo s fd ⟨[u],[]⟩ [(x,u)])
  (KY:∀ H:Hp,Mi H→gG K H a (ns.map V.int)→sp [.ref a] H (fun v _=>v = .bl true) fun _ _ _=>False)
  (SK:∀ H e s',CX [] H s₁ (fun _ _ _=>False) e s'→False) :
  codeAny (model P w) callerA (.call (.ref fa) ⟨[.ref a],[]⟩) (fun r s'=>r = .ok (.ret (.bool true))∧OldK s₁.heap s'.heap∧s'.os = s₁.os∧AllBare s'.gens) s₁:=by
 have rv:=vQ hi
 have SM:=hi.length
 have core:∀ H:Hp,Mi H→gG K H a (ns.map V.int)→nF P w H s₁.heap→(∀ b,H b ≠ none→b = a)→(H a ≠ none→K.lookup a = none) →
   codeAny (model P w) callerA (.call (.ref fa) ⟨[.ref a],[]⟩) (fun r s'=>r = .ok (.ret (.bool true))∧OldK s₁.heap s'.heap∧s'.os = s₁.os∧AllBare s'.gens) s₁:=by
  intro H hO hS bE hA hK
  have CF:∀ {b:Addr} {o:Obj},s₁.heap.get? b = some o→H b = none→(wL s₁.heap H).get? b = some o:=fun e n=>E9 e n
  have OK:∀ {b:Addr} {o:Obj} {es:Array DictEntry} {ep:Nat},s₁.heap.get? b = some o→o.data = .dict es ep→H b = none:=fun {b o es ep} e d=>by
   cases q:H b with
   | none=>rfl
   | some u =>
    have e':b = a:=hA b (by rw [q]; simp)
    subst e'
    rw [ha] at e; cases e
    have d':Data.seq vs.toArray _ = Data.dict es ep:=d
    cases d'
  have Rb:∀ {b:Addr} {m:Str→Option Value},s₁.heap.Ns b m→(wL s₁.heap H).Ns b m:=fun {b m} ⟨o,es,ep,e,d,r⟩=>⟨o,es,ep,CF e (OK e d),d,r⟩
  have Zs:K.In (wL s₁.heap H):=fun b o e=>CF (KX b o e) (by
   cases q:H b with
   | none=>rfl
   | some u =>
    have e':b = a:=hA b (by rw [q]; simp)
    subst e'
    rw [hK (by rw [q]; simp)] at e; cases e)
  have hM:Mod K mg (wL s₁.heap H):=⟨Zs,Rb Ra,⟨mb,Rb hb,hbb⟩,let ⟨mc,h1,h2⟩:=SJ; ⟨mc,Rb h1,h2⟩⟩
  have e0:AY P w K mg (wL s₁.heap H) callerA [] s₁ H:=⟨rfl,hM,fun b o e=>IB e,Nat.le_of_eq (DM _ _),trivial,fun b hb=>absurd (show b ∈ ([]:List Addr) from hb) (by simp),bE,.of_eq hg⟩
  refine codeAny_mono ((F _ Zs (Rb Ra)).run callerA [] s₁ H ⟨[.ref a],[]⟩ [.ref a] [.ref a] _ _ hr e0 (OW s₁ (.ref a)) (.cons rfl .nil) (KY H hO hS)) fun r s' h=>?_
  cases r with
  | error e=>exact (SK H e s' h).elim
  | ok fl =>
   cases fl with
   | next=>exact False.elim h
   | brk=>exact False.elim h
   | cont=>exact False.elim h
   | ret u =>
    obtain ⟨v,H',os,bare,un,hok',r',q⟩:=h
    have q':v = .bl true:=q
    subst q'
    obtain rfl : u = Value.bool true:=r'
    refine ⟨rfl,OldK.of_keep fun b o e=>?_,os,bare⟩
    cases q:H b with
    | none=>exact un.keep b o e q (by intro z; exact absurd (show b ∈ ([]:List Addr) from z) (by simp)) (by simp)
    | some u =>
     rcases hO b with z | ⟨ob,xs,z⟩
     ·rw [q] at z; cases z
     ·have z2:=un.rP b ob _ z
      obtain ⟨e1,_⟩:=bE b _ z
      obtain ⟨e2,_⟩:=hok' b _ z2
      rw [e] at e1; cases e1
      exact e2
 cases hk:K.lookup a with
 | some o =>
  have e:=KX a o hk
  rw [ha] at e
  cases e
  refine core (fun _=>none) (fun _=>.inl rfl) (.inr ⟨_,vs.toArray,_,hk,rfl,rfl,rfl,by rw [List.size_toArray,SM]; exact hl,by simpa using rv⟩) (fun b u z=>by have z':(none:Option HO) = some u:=z; cases z') (fun b z=>absurd rfl z) fun z=>absurd rfl z
 | none =>
  refine core (fun b=>if b = a then some (.iK { cls:=.type "list",data:=.seq vs.toArray } (.lst (ns.map V.int))) else none) (fun b=>?_) (.inl (.inr ⟨{ cls:=.type "list",data:=.seq vs.toArray },if_pos rfl⟩)) (fun b u z=>?_) (fun b z=>?_) fun _=>hk
  ·by_cases hb:b = a
   ·exact .inr ⟨_,_,if_pos hb⟩
   ·exact .inl (if_neg hb)
  ·by_cases hb:b = a
   ·have z':=(if_pos hb).symm.trans z
    cases z'
    subst hb
    exact ⟨ha,by rw [List.length_map]; exact hl,vs,_,rv,ha⟩
   ·have z':=(if_neg hb).symm.trans z
    cases z'
  ·by_cases hb:b = a
   ·exact hb
   ·exact absurd (if_neg hb) z
end L2
namespace L2
open PySem PySem.Spec PyProof.Rows
theorem Ji {l:PySem.W.OpenLaw} {n k:Nat} {q:Program} {loose:List Str} {XP:(Str→Option Value)→Heap→Prop} {YP:World→Heap→Prop} {d:DefRec} {K:Params→PySem.W.Frag} {CX:World→FA} {sp:World→Sp} {x:Str}
  (hn:l.most = some n) (vL:n ≤ sizeLine) (OU:d.params.defaults = []) (hr:eD k callerA)
  (hY:∀ (w:World) (h:Heap),YP w h→(K w.params).In h)
  (F:∀ (w:World) (mg:Str→Option Value) (fa:Addr) (h:Heap),(K w.params).In h→h.Ns mainGlobals mg→mg d.name = some (.ref fa) →
   ∃ fd:FuncData,(∀ (s:Shared) (u:Value),BindsTo s fd ⟨[u],[]⟩ [(x,u)]) ∧
    ∀ base:Heap,(K w.params).In base→base.Ns mainGlobals mg→aJ l.prog w (K w.params) mg base (CX w) k fa fd [x] (sp w))
  (KY:∀ (w:World) (H:Hp) (a:Addr) (ns:List Int),ns.length ≤ n→Mi H→gG (K w.params) H a (ns.map V.int)→sp w [.ref a] H (fun v _=>v = .bl true) fun _ _ _=>False)
  (SK:∀ (w:World) (H:Hp) (s:Shared) (e:Value) (s':Shared),CX w [] H s (fun _ _ _=>False) e s'→False) :
  PySem.W.WalkO q loose XP YP l.row.toRowW d [] (fun f vs=>PySem.call f vs):=by
 refine Zr.yA hn OU fun w s₀ s₁ mg mb fa o pm cd doc a vs ns G Y ho hd om OV Mf hints hlen hg=>?_
 have KX:=hY w _ Y
 obtain ⟨fd,hb,hF⟩:=F w mg fa _ KX G.T.g OV
 exact FJ KX G.T.g G.T.b G.T.builtins G.T.nolimit hg Mf hints (Nat.le_trans hlen vL) hr hF hb (fun H hO hS=>KY w H a ns hlen hO hS) fun H e s'=>SK w H s₁ e s'
end L2
namespace L2
open PySem PySem.Spec PyProof.Rows
noncomputable def inClass (s:Stmt) (j:Nat):Stmt:=match s with
 | .ClassDef _ _ _ body _ _ _ _ _ _ _=>body.getD j (.Pass ⟨0,0,0,0⟩)
 | _=>.Pass ⟨0,0,0,0⟩
noncomputable def aL (s:Stmt):Arguments:=match s with
 | .FunctionDef _ a _ _ _ _ _ _ _ _=>a
 | _=>{ posonlyargs:=[],args:=[],vararg:=none,kwonlyargs:=[],kw_defaults:=[],kwarg:=none,defaults:=[] }
noncomputable def aG (s:Stmt):List Stmt:=match s with
 | .FunctionDef _ _ b _ _ _ _ _ _ _=>b
 | _=>[]
noncomputable def ag (s:Stmt):Scope:=match s with
 | .FunctionDef _ _ _ _ _ _ sc _ _ _=>sc
 | _=>{ kind:=.function,names:=[],isGenerator:=false,isCoroutine:=false }
noncomputable abbrev bT:FA:=fun _ _ _ _ _ _=>False
noncomputable abbrev E0:XK:=fun _ _ _=>False
theorem yB {X:Cx}:Passes bT X E0:=fun _ _ _ _ _ _ _ h=>h.elim
structure jU (K:PySem.W.Frag) (x qual:Str) (st:Stmt) (f:Addr) (fd:FuncData):Prop where
 ex:∃ (oc:Value) (od:Option Addr) (kV doc pm:Value) (an:Option Addr) (eu ct:Value) (KW:Array (Option Value)),
  fd = PySem.W.fnOf x qual (aL st) (aG st) (ag st) .none kV doc pm an eu ct∧K.lookup f = some ⟨oc,od,.func fd,KW⟩∧PySem.W.codeIn K eu qual = true
 kp:PySem.W.keepIn K (.ref f) = true
section
variable {P:Program} {w:World} {K:PySem.W.Frag} {mg:Str→Option Value} {base:Heap}
theorem jU.ok {x qual:Str} {st:Stmt} {f:Addr} {fd:FuncData} {N ps:List Str} {k:Nat} {sp:Sp} (F:jU K x qual st f fd) (S:aK N ps (ag st)) (len:∀ vs H Q E,sp vs H Q E→vs.length = ps.length)
  (tH:∀ (eu:Value) (A:Around) (outer:List Env) (s:Shared) (H:Hp) (vs:List V) (Q:VK) (E:XK),eD k (A.deeper (envOfC qual (ag st) s.heap.objs.size f eu))→sp vs H Q E →
   ∃ t,AG (yx bT P w K mg base N qual (ag st) f eu A outer s H E).NV (aG st) t∧t { nx:=fun _ H'=>Q .aU H',rt:=Q } (start N vs) H):aJ P w K mg base bT (k + 1) f fd ps sp:=by
 obtain ⟨oc,od,kV,doc,pm,an,eu,ct,KW,rfl,lk,om⟩:=F.ex
 refine OL lk om S len fun A outer s H vs Q E hr KY=>?_
 obtain ⟨t,h,q⟩:=tH eu A outer s H vs Q E hr KY
 exact ⟨t,h.NV,q⟩
theorem jU.binds {x qual:Str} {st:Stmt} {f:Addr} {fd:FuncData} {ps:List Str} (F:jU K x qual st f fd)
  (h:∀ (kV doc pm:Value) (an:Option Addr) (eu ct:Value) (us:List Value),us.length = ps.length→bindArgs (PySem.W.fnOf x qual (aL st) (aG st) (ag st) .none kV doc pm an eu ct) ⟨us,[]⟩ = pure (ps.zip us)):Binds K fd ps []:=by
 obtain ⟨oc,od,kV,doc,pm,an,eu,ct,KW,rfl,lk,om⟩:=F.ex
 exact .all (h kV doc pm an eu ct)
theorem aY {x qual:Str} {st:Stmt} {f:Addr} {oc:Value} {od an:Option Addr} {KW:Array (Option Value)} {kV doc pm eu ct:Value} (l:K.lookup f = some ⟨oc,od,.func (PySem.W.fnOf x qual (aL st) (aG st) (ag st) .none kV doc pm an eu ct),KW⟩)
  (c:PySem.W.codeIn K eu qual = true) (k:PySem.W.keepIn K (.ref f) = true):jU K x qual st f (PySem.W.fnOf x qual (aL st) (aG st) (ag st) .none kV doc pm an eu ct):=⟨⟨oc,od,kV,doc,pm,an,eu,ct,KW,rfl,l,c⟩,k⟩
end
section
variable {X:Cx}
end
theorem D6 {A B:Prop} (h:B):if false = true then A else B:=by
 rw [if_neg Bool.false_ne_true]
 exact h
theorem D7 {A B:Prop} (h:A):if true = true then A else B:=by
 rw [if_pos rfl]
 exact h
theorem fC {c A B:Prop} [Decidable c] (h1:c→A) (h2:¬ c→B):if c then A else B:=by
 by_cases h:c
 ·rw [if_pos h]
  exact h1 h
 ·rw [if_neg h]
  exact h2 h
noncomputable def av (H H':Hp):Prop:=∀ b o,H b = some o→H' b = some o
theorem av.refl (H:Hp):av H H:=fun _ _ h=>h
theorem av.trans {H H1 H2:Hp} (a:av H H1) (b:av H1 H2):av H H2:=fun c o h=>b c o (a c o h)
theorem av.free {H H':Hp} (e:av H H') {l:Addr} (h:H' l = Option.none):H l = Option.none:=by
 cases q:H l with
 | none=>rfl
 | some o =>
  rw [e l o q] at h
  cases h
theorem av.seq {K:PySem.W.Frag} {H H':Hp} {a:Addr} {xs:List V} (e:av H H') (h:gG K H a xs):gG K H' a xs:=by
 rcases h with (h | ⟨o,h⟩) | h
 ·exact .inl (.inl (e _ _ h))
 ·exact .inl (.inr ⟨o,e _ _ h⟩)
 ·exact .inr h
end L2
namespace Dl
open PySem PySem.Spec PyProof.Rows L2
inductive D where
 | aU | bl (b:Bool) | int (i:Int) | str (x:Str) | tup (l:List D) | lst (l:List D) | pt (a:Nat)
 deriving Inhabited
mutual
inductive Den (K:PySem.W.Frag) (G:Hp):V→D→Prop
 | aU:Den K G .aU .aU
 | bl (b:Bool):Den K G (.bl b) (.bl b)
 | int (i:Int):Den K G (.int i) (.int i)
 | str (x:Str):Den K G (.str x) (.str x)
 | pt (a:Nat):Den K G (.ref a) (.pt a)
 | tup {a:Addr} {vs:List V} {ds:List D}:kT K G a vs→aH K G vs ds→Den K G (.ref a) (.tup ds)
 | lst {a:Addr} {vs:List V} {ds:List D}:gG K G a vs→aH K G vs ds→Den K G (.ref a) (.lst ds)
inductive aH (K:PySem.W.Frag) (G:Hp):List V→List D→Prop
 | nil:aH K G [] []
 | cons {v:V} {d:D} {vs:List V} {ds:List D}:Den K G v d→aH K G vs ds→aH K G (v :: vs) (d :: ds)
end
theorem av.tupS {K:PySem.W.Frag} {H H':Hp} {a:Addr} {xs:List V} (e:av H H') (h:kT K H a xs):kT K H' a xs:=by
 rcases h with (h | ⟨o,h⟩) | h
 ·exact .inl (.inl (e _ _ h))
 ·exact .inl (.inr ⟨o,e _ _ h⟩)
 ·exact .inr h
section
variable {K:PySem.W.Frag} {G G':Hp}
mutual
theorem Den.up (e:av G G'):∀ {v:V} {d:D},Den K G v d→Den K G' v d
 | _,_,.aU=>.aU
 | _,_,.bl b=>.bl b
 | _,_,.int i=>.int i
 | _,_,.str x=>.str x
 | _,_,.pt a=>.pt a
 | _,_,.tup h l=>.tup (av.tupS e h) (aH.up e l)
 | _,_,.lst h l=>.lst (e.seq h) (aH.up e l)
theorem aH.up (e:av G G'):∀ {vs:List V} {ds:List D},aH K G vs ds→aH K G' vs ds
 | _,_,.nil=>.nil
 | _,_,.cons h t=>.cons (Den.up e h) (aH.up e t)
end
theorem aH.length:∀ {vs:List V} {ds:List D},aH K G vs ds→vs.length = ds.length
 | _,_,.nil=>rfl
 | _,_,.cons _ t=>by simp [aH.length t]
theorem aH.get:∀ {vs:List V} {ds:List D} {i:Nat} {d:D},aH K G vs ds→ds[i]? = some d→∃ v,vs[i]? = some v∧Den K G v d
 | _,_,_,_,.nil,e=>by simp at e
 | _,_,0,_,.cons h _,e=>by simp at e; subst e; exact ⟨_,rfl,h⟩
 | _,_,i + 1,_,.cons _ t,e=>by
  obtain ⟨v,h1,h2⟩:=aH.get (i:=i) t (by simpa using e)
  exact ⟨v,by simpa using h1,h2⟩
theorem aH.w6:∀ {vs:List V} {ds:List D} {i:Nat} {v:V},aH K G vs ds→vs[i]? = some v→∃ d,ds[i]? = some d∧Den K G v d
 | _,_,_,_,.nil,e=>by simp at e
 | _,_,0,_,.cons h _,e=>by simp at e; subst e; exact ⟨_,rfl,h⟩
 | _,_,i + 1,_,.cons _ t,e=>by
  obtain ⟨v,h1,h2⟩:=aH.w6 (i:=i) t (by simpa using e)
  exact ⟨v,by simpa using h1,h2⟩
theorem aH.append:∀ {vs ws:List V} {ds es:List D},aH K G vs ds→aH K G ws es→aH K G (vs ++ ws) (ds ++ es)
 | _,_,_,_,.nil,h=>h
 | _,_,_,_,.cons a t,h=>.cons a (aH.append t h)
theorem aH.take:∀ {vs:List V} {ds:List D} (n:Nat),aH K G vs ds→aH K G (vs.take n) (ds.take n)
 | _,_,0,_=>.nil
 | _,_,_ + 1,.nil=>.nil
 | _,_,n + 1,.cons a t=>.cons a (aH.take n t)
theorem aH.drop:∀ {vs:List V} {ds:List D} (n:Nat),aH K G vs ds→aH K G (vs.drop n) (ds.drop n)
 | _,_,0,h=>h
 | _,_,_ + 1,.nil=>.nil
 | _,_,n + 1,.cons _ t=>aH.drop n t
theorem aH.ints:∀ (ns:List Int),aH K G (ns.map V.int) (ns.map D.int)
 | []=>.nil
 | _ :: r=>.cons (.int _) (aH.ints r)
theorem Den.int_inv {v:V} {i:Int} (h:Den K G v (.int i)):v = .int i:=by cases h; rfl
theorem Den.w8 {v:V} {i:Bool} (h:Den K G v (.bl i)):v = .bl i:=by cases h; rfl
theorem Den.str_inv {v:V} {i:Str} (h:Den K G v (.str i)):v = .str i:=by cases h; rfl
theorem Den.FK {v:V} {a:Nat} (h:Den K G v (.pt a)):v = .ref a:=by cases h; rfl
theorem Den.w9 {v:V} (h:Den K G v .aU):v = .aU:=by cases h; rfl
theorem Den.gA {v:V} {l:List D} (h:Den K G v (.tup l)):∃ a vs,v = .ref a∧kT K G a vs∧aH K G vs l:=by
 cases h with | tup h t=>exact ⟨_,_,rfl,h,t⟩
theorem Den.lst_inv {v:V} {l:List D} (h:Den K G v (.lst l)):∃ a vs,v = .ref a∧gG K G a vs∧aH K G vs l:=by
 cases h with | lst h t=>exact ⟨_,_,rfl,h,t⟩
end
inductive Fl where
 | sh (d:D) | ow (l:List D) | dc (kvs:List (Key × D)) | fz (q:Nat) (kvs:List (Key × D))
 deriving Inhabited
inductive Sl where
 | no | sh (d:D) | ow (l:List D) | mu (a:Nat) (l:List D) | ob (h:Option Nat) (C:Nat) (fs:List (Str × Fl)) | pt (a:Nat) | rc (h:Option Nat) (fs:List (Str × Fl)) | hb (a:Nat) (C:Nat) (fs:List (Str × Fl))
noncomputable abbrev Ev:=List Sl
structure En where
 G:Hp
 H:Hp
 M:Addr→Prop
noncomputable abbrev Ow:=Addr→Option (Nat × Str)
inductive eV (K:PySem.W.Frag) (G:Hp):List (Key × V)→List (Key × D)→Prop
 | nil:eV K G [] []
 | cons {k:Key} {v:V} {d:D} {r:List (Key × V)} {s:List (Key × D)}:Den K G v d→eV K G r s→eV K G ((k,v) :: r) ((k,d) :: s)
theorem eV.up {K:PySem.W.Frag} {G G':Hp} {vs:List (Key × V)} {ds:List (Key × D)} (hG:av G G') (h:eV K G vs ds):eV K G' vs ds:=by
 induction h with
 | nil=>exact .nil
 | cons a _ ih=>exact .cons (Den.up hG a) ih
noncomputable def E4 (K:PySem.W.Frag) (G H:Hp) (ow:Ow) (i:Nat) (f:Str) (v:V):Fl→Prop
 | .sh d=>Den K G v d
 | .ow l=>∃ q vs,v = .ref q∧H q = some (.lst vs)∧ow q = some (i,f)∧aH K G vs l
 | .dc kvs=>∃ q vs,v = .ref q∧H q = some (.dK vs)∧ow q = some (i,f)∧eV K G vs kvs
 | .fz q kvs=>∃ ob vs,v = .ref q∧G q = some (.iK ob (.dK vs))∧eV K G vs kvs
noncomputable def kx (p:Str × V):Key × V:=(Sum.inr p.1,p.2)
structure qZ (K:PySem.W.Frag) (G H:Hp) (ow:Ow) (i:Nat) (bo:List (Str × V)) (fs:List (Str × Fl)):Prop where
 keys:bo.map (·.1) = fs.map (·.1)
 at_:∀ f s,fs.lookup f = some s→∃ v,bo.lookup f = some v∧E4 K G H ow i f v s
noncomputable def A4 (K:PySem.W.Frag) (n:En) (G H:Hp) (ow:Ow) (i:Nat) (o:Option (Option V)):Sl→Prop
 | .no=>True
 | .sh d=>∃ v,o = some (some v)∧Den K G v d
 | .ow l=>∃ p vs,o = some (some (.ref p))∧H p = some (.lst vs)∧n.H p = none∧ow p = some (i,("":Str))∧aH K G vs l
 | .mu a l=>∃ vs,o = some (some (.ref a))∧H a = some (.lst vs)∧ow a = some (i,("":Str))∧aH K G vs l
 | .ob h C fs=>∃ a dx bo,o = some (some (.ref a))∧(∀ a0,h = some a0→a = a0)∧H a = some (.ins C dx bo)∧H dx = some (.own a)∧ow a = some (i,("":Str))∧ow dx = some (i,("":Str))∧qZ K G H ow i bo fs
 | .pt a=>o = some (some (.ref a))
 | .rc h fs=>∃ a bo,o = some (some (.ref a))∧(∀ a0,h = some a0→a = a0)∧H a = some (.dK (bo.map kx))∧ow a = some (i,("":Str))∧qZ K G H ow i bo fs
 | .hb a C fs=>∃ dx bo,H a = some (.ins C dx bo)∧H dx = some (.own a)∧ow a = some (i,("":Str))∧ow dx = some (i,("":Str))∧qZ K G H ow i bo fs
noncomputable def SN (K:PySem.W.Frag) (n:En) (G H:Hp) (o:Option (Option V)):Sl→Prop
 | .no=>True
 | .sh d=>∃ v,o = some (some v)∧Den K G v d
 | .ow l=>∃ p vs,o = some (some (.ref p))∧H p = some (.lst vs)∧G p = none∧n.H p = none∧aH K G vs l
 | .mu a l=>∃ vs,o = some (some (.ref a))∧H a = some (.lst vs)∧G a = none∧aH K G vs l
 | .ob h C fs=>∃ a dx bo,o = some (some (.ref a))∧(∀ a0,h = some a0→a = a0)∧H a = some (.ins C dx bo)∧H dx = some (.own a)∧∃ ow i,qZ K G H ow i bo fs
 | .pt a=>o = some (some (.ref a))
 | .rc h fs=>∃ a bo,o = some (some (.ref a))∧(∀ a0,h = some a0→a = a0)∧H a = some (.dK (bo.map kx))∧∃ ow i,qZ K G H ow i bo fs
 | .hb a C fs=>∃ dx bo,H a = some (.ins C dx bo)∧H dx = some (.own a)∧∃ ow i,qZ K G H ow i bo fs
structure FL (n:En) (G H:Hp) (ow:Ow):Prop where
 is:∀ p k,ow p = some k→G p = none∧H p ≠ none∧(n.H p = none∨n.M p)
structure Rel (K:PySem.W.Frag) (n:En) (δ:Ev) (σ:L2.St) (G H:Hp):Prop where
 sub:av G H
 eg:av n.G G
 eh:∀ b o,n.H b = some o→¬ n.M b→H b = some o
 al:∀ b,H b = none→n.H b = none
 fr:∀ b o,G b = some o→n.G b = none→n.H b = none
 gh:∃ ow:Ow,FL n G H ow∧∀ (i:Nat) (s:Sl),δ[i]? = some s→A4 K n G H ow i σ[i]? s
 len:δ.length = σ.length
section
variable {K:PySem.W.Frag} {n:En} {δ δ':Ev} {σ σ':L2.St} {G H G' H':Hp} {p:Addr} {o:HO} {ow ow':Ow} {i i':Nat}
theorem E4.keep {f:Str} {v:V} {s:Fl} (hG:av G G') (hO:∀ p f,ow p = some (i,f)→ow' p = some (i',f)) (hH:∀ p f o,ow p = some (i,f)→H p = some o→H' p = some o) (h:E4 K G H ow i f v s):E4 K G' H' ow' i' f v s:=by
 cases s with
 | sh d=>exact Den.up hG h
 | ow l=>obtain ⟨q,vs,h1,h2,h3,h4⟩:=h; exact ⟨q,vs,h1,hH _ _ _ h3 h2,hO _ _ h3,h4.up hG⟩
 | dc l=>obtain ⟨q,vs,h1,h2,h3,h4⟩:=h; exact ⟨q,vs,h1,hH _ _ _ h3 h2,hO _ _ h3,h4.up hG⟩
 | fz q l=>obtain ⟨ob,vs,h1,h2,h3⟩:=h; exact ⟨ob,vs,h1,hG _ _ h2,h3.up hG⟩
theorem qZ.keep {bo:List (Str × V)} {fs:List (Str × Fl)} (hG:av G G') (hO:∀ p f,ow p = some (i,f)→ow' p = some (i',f)) (hH:∀ p f o,ow p = some (i,f)→H p = some o→H' p = some o) (h:qZ K G H ow i bo fs):qZ K G' H' ow' i' bo fs :=
 ⟨h.keys,fun f s e=>let ⟨v,h1,h2⟩:=h.at_ f s e; ⟨v,h1,h2.keep hG hO hH⟩⟩
theorem A4.keep {s:Sl} {x:Option (Option V)} (hG:av G G') (hO:∀ p f,ow p = some (i,f)→ow' p = some (i',f)) (hH:∀ p f o,ow p = some (i,f)→H p = some o→H' p = some o) (h:A4 K n G H ow i x s):A4 K n G' H' ow' i' x s:=by
 cases s with
 | no=>trivial
 | sh d=>obtain ⟨v,h1,h2⟩:=h; exact ⟨v,h1,h2.up hG⟩
 | ow l=>obtain ⟨p,vs,h1,h2,h3,h4,h5⟩:=h; exact ⟨p,vs,h1,hH _ _ _ h4 h2,h3,hO _ _ h4,h5.up hG⟩
 | mu a l=>obtain ⟨vs,h1,h2,h4,h5⟩:=h; exact ⟨vs,h1,hH _ _ _ h4 h2,hO _ _ h4,h5.up hG⟩
 | ob q C fs=>obtain ⟨a,dx,bo,h1,h2,h3,h4,h5,h6,h7⟩:=h; exact ⟨a,dx,bo,h1,h2,hH _ _ _ h5 h3,hH _ _ _ h6 h4,hO _ _ h5,hO _ _ h6,h7.keep hG hO hH⟩
 | pt a=>exact h
 | rc q fs=>obtain ⟨a,bo,h1,h2,h3,h5,h7⟩:=h; exact ⟨a,bo,h1,h2,hH _ _ _ h5 h3,hO _ _ h5,h7.keep hG hO hH⟩
 | hb a C fs=>obtain ⟨dx,bo,h3,h4,h5,h6,h7⟩:=h; exact ⟨dx,bo,hH _ _ _ h5 h3,hH _ _ _ h6 h4,hO _ _ h5,hO _ _ h6,h7.keep hG hO hH⟩
theorem Rel.sl (R:Rel K n δ σ G H) (i:Nat) (s:Sl) (hs:δ[i]? = some s):SN K n G H σ[i]? s:=by
 obtain ⟨ow,ok,gh⟩:=R.gh
 have h:=gh i s hs
 cases s with
 | no=>trivial
 | sh d=>exact h
 | ow l=>obtain ⟨p,vs,h1,h2,h3,h4,h5⟩:=h; exact ⟨p,vs,h1,h2,(ok.is _ _ h4).1,h3,h5⟩
 | mu a l=>obtain ⟨vs,h1,h2,h4,h5⟩:=h; exact ⟨vs,h1,h2,(ok.is _ _ h4).1,h5⟩
 | ob q C fs=>obtain ⟨a,dx,bo,h1,h2,h3,h4,h5,h6,h7⟩:=h; exact ⟨a,dx,bo,h1,h2,h3,h4,ow,i,h7⟩
 | pt a=>exact h
 | rc q fs=>obtain ⟨a,bo,h1,h2,h3,h5,h7⟩:=h; exact ⟨a,bo,h1,h2,h3,ow,i,h7⟩
 | hb a C fs=>obtain ⟨dx,bo,h3,h4,h5,h6,h7⟩:=h; exact ⟨dx,bo,h3,h4,ow,i,h7⟩
end
structure Ext (G H G' H':Hp):Prop where
 gg:av G G'
 gh:av G' H'
 hh:av H H'
 fr:∀ b o,G' b = some o→G b = none→H b = none
theorem aC {H:Hp} {p:Addr} (h:H p = none) (o:HO):av H (upd H p o):=fun b u q=>by rw [aj (aR q h)]; exact q
theorem Ext.refl {G H:Hp} (s:av G H):Ext G H G H:=⟨av.refl _,s,av.refl _,fun b o e e0=>(by rw [e0] at e; cases e)⟩
theorem Ext.laid {G H:Hp} {p:Addr} (s:av G H) (h:H p = none) (o:HO):Ext G H (upd G p o) (upd H p o):=by
 have hG:G p = none:=s.free h
 refine ⟨aC hG o,fun b u e=>?_,aC h o,fun b u e e0=>?_⟩
 ·by_cases hb:b = p
  ·subst hb; rw [aq] at e ⊢; exact e
  ·rw [aj hb] at e ⊢; exact s b u e
 ·by_cases hb:b = p
  ·subst hb; exact h
  ·rw [aj hb,e0] at e; cases e
theorem Ext.trans {G H G1 H1 G2 H2:Hp} (a:Ext G H G1 H1) (b:Ext G1 H1 G2 H2):Ext G H G2 H2:=by
 refine ⟨a.gg.trans b.gg,b.gh,a.hh.trans b.hh,fun c o e e0=>?_⟩
 cases q:G1 c with
 | none=>exact a.hh.free (b.fr c o e q)
 | some u=>exact a.fr c u q e0
theorem oZ {H:Hp} {p b:Addr} {o:HO} (h:H b ≠ none):upd H p o b ≠ none:=by
 by_cases hb:b = p
 ·subst hb; rw [aq]; exact fun z=>by cases z
 ·rw [aj hb]; exact h
theorem vR {H H':Hp} (s:av H H') {b:Addr} (h:H b ≠ none):H' b ≠ none:=fun z=>h (s.free z)
noncomputable def ic (ow:Ow) (p:Addr) (k:Option (Nat × Str)):Ow:=fun b=>if b = p then k else ow b
theorem du {ow:Ow} {p:Addr} {k:Option (Nat × Str)}:ic ow p k p = k:=if_pos rfl
theorem aS {ow:Ow} {p b:Addr} {k:Option (Nat × Str)} (h:b ≠ p):ic ow p k b = ow b:=if_neg h
section
variable {K:PySem.W.Frag} {n:En} {δ δ':Ev} {σ σ':L2.St} {G H G' H':Hp} {p:Addr} {o:HO}
theorem Rel.ext (R:Rel K n δ σ G H) (e:Ext G H G' H'):Rel K n δ σ G' H':=by
 obtain ⟨ow,ok,gh⟩:=R.gh
 refine ⟨e.gh,R.eg.trans e.gg,fun b u q m=>e.hh b u (R.eh b u q m),fun b q=>R.al b (e.hh.free q),fun b u q q0=>?_,⟨ow,⟨fun p k hk=>?_⟩,fun i s hs=>(gh i s hs).keep e.gg (fun _ _ z=>z) fun p f u _ z=>e.hh p u z⟩,R.len⟩
 ·cases h:G b with
  | none=>exact R.al b (e.fr b u q h)
  | some w=>exact R.fr b w h q0
 ·obtain ⟨h1,h2,h3⟩:=ok.is p k hk
  refine ⟨?_,vR e.hh h2,h3⟩
  cases q:G' p with
  | none=>rfl
  | some w=>exact absurd (e.fr p w q h1) h2
theorem Rel.laid (R:Rel K n δ σ G H) (h:H p = none) (o:HO):Rel K n δ σ (upd G p o) (upd H p o):=R.ext (.laid R.sub h o)
theorem fD {α:Type} {l:List α} {i j:Nat} {a b:α} (h:(l.set i a)[j]? = some b):(i = j∧b = a∧i < l.length)∨(i ≠ j∧l[j]? = some b):=by
 by_cases e:i = j
 ·subst e
  rw [List.getElem?_set_self'] at h
  cases q:l[i]? with
  | none=>rw [q] at h; cases h
  | some w =>
   rw [q] at h
   have hb:a = b:=by simpa using h
   have:=List.getElem?_eq_some_iff.mp q
   exact .inl ⟨rfl,hb.symm,this.1⟩
 ·rw [List.getElem?_set_ne e] at h
  exact .inr ⟨e,h⟩
theorem Rel.set (R:Rel K n δ σ G H) {v:V} {d:D} (i:Nat) (hv:Den K G v d):Rel K n (δ.set i (.sh d)) (σ.set i (some v)) G H:=by
 obtain ⟨ow,ok,gh⟩:=R.gh
 refine ⟨R.sub,R.eg,R.eh,R.al,R.fr,⟨ow,ok,fun j s hs=>?_⟩,by rw [List.length_set,List.length_set]; exact R.len⟩
 rcases fD hs with ⟨e,rfl,hl⟩ | ⟨e,hs⟩
 ·subst e
  refine ⟨v,?_,hv⟩
  rw [List.getElem?_set_self (Nat.lt_of_lt_of_le hl (Nat.le_of_eq R.len))]
 ·rw [List.getElem?_set_ne e]
  exact gh j s hs
theorem Rel.own (R:Rel K n δ σ G H) {vs:List V} {ds:List D} (i:Nat) (hp:H p = none) (hv:aH K G vs ds):Rel K n (δ.set i (.ow ds)) (σ.set i (some (.ref p))) G (upd H p (.lst vs)):=by
 obtain ⟨ow,ok,gh⟩:=R.gh
 have hG:G p = none:=R.sub.free hp
 have A5:∀ b k,ow b = some k→b ≠ p:=fun b k hk z=>by subst z; exact (ok.is _ _ hk).2.1 hp
 refine ⟨R.sub.trans (aC hp _),R.eg,fun b u q m=>aC hp _ b u (R.eh b u q m),fun b q=>R.al b ((aC hp _).free q),R.fr,⟨ic ow p (some (i,("":Str))),⟨fun b k hk=>?_⟩,fun j s hs=>?_⟩,by rw [List.length_set,List.length_set]; exact R.len⟩
 ·by_cases hb:b = p
  ·subst hb; exact ⟨hG,by rw [aq]; exact (fun z=>by cases z),.inl (R.al _ hp)⟩
  ·rw [aS hb] at hk
   obtain ⟨h1,h2,h3⟩:=ok.is b k hk
   exact ⟨h1,oZ h2,h3⟩
 ·rcases fD hs with ⟨e,rfl,hl⟩ | ⟨e,hs⟩
  ·subst e
   exact ⟨p,vs,List.getElem?_set_self (Nat.lt_of_lt_of_le hl (Nat.le_of_eq R.len)),aq,R.al p hp,du,hv⟩
  ·rw [List.getElem?_set_ne e]
   exact (gh j s hs).keep (av.refl _) (fun b f z=>by rw [aS (A5 _ _ z)]; exact z) fun b f u z q=>by rw [aj (A5 _ _ z)]; exact q
theorem Rel.freeze (R:Rel K n δ σ G H) {l:List D} {i:Nat} (hi:δ[i]? = some (.ow l)):∃ G',Rel K n (δ.set i (.sh (.lst l))) σ G' H∧av G G':=by
 obtain ⟨ow,ok,gh⟩:=R.gh
 obtain ⟨p,vs,g1,g2,g4,g6,g5⟩:=gh i _ hi
 have g3:=(ok.is _ _ g6).1
 have s1:av G (upd G p (.lst vs)):=aC g3 _
 refine ⟨upd G p (.lst vs),⟨fun b u e=>?_,R.eg.trans s1,R.eh,R.al,fun b u e e0=>?_,⟨ic ow p none,⟨fun b k hk=>?_⟩,fun j s hs=>?_⟩,by rw [List.length_set]; exact R.len⟩,s1⟩
 ·by_cases hb:b = p
  ·subst hb; rw [aq] at e; rw [g2]; exact e
  ·rw [aj hb] at e; exact R.sub b u e
 ·by_cases hb:b = p
  ·subst hb; exact g4
  ·rw [aj hb] at e; exact R.fr b u e e0
 ·by_cases hb:b = p
  ·subst hb; rw [du] at hk; cases hk
  ·rw [aS hb] at hk; rw [aj hb]; exact ok.is b k hk
 ·rcases fD hs with ⟨e,rfl,hl⟩ | ⟨e,hs⟩
  ·subst e
   exact ⟨.ref p,g1,.lst (gG.of aq) (g5.up s1)⟩
  ·refine (gh j s hs).keep s1 (fun b f z=>?_) fun _ _ _ _ q=>q
   have:b ≠ p:=fun w=>by subst w; rw [g6] at z; cases z; exact e rfl
   rw [aS this]; exact z
theorem Rel.change (R:Rel K n δ σ G H) {l:List D} {i:Nat} (hi:δ[i]? = some (.ow l)) (hp:σ[i]? = some (some (.ref p))) {vs:List V} {ds:List D} (hv:aH K G vs ds) :
  Rel K n (δ.set i (.ow ds)) σ G (upd H p (.lst vs)):=by
 obtain ⟨ow,ok,gh⟩:=R.gh
 obtain ⟨q,ws,g1,g2,g4,g6,g5⟩:=gh i _ hi
 have g3:=(ok.is _ _ g6).1
 rw [hp] at g1; cases g1
 have ne:∀ b u,G b = some u→b ≠ p:=fun b u e z=>by subst z; rw [g3] at e; cases e
 refine ⟨fun b u e=>by rw [aj (ne b u e)]; exact R.sub b u e,R.eg,fun b u q m=>?_,fun b q=>?_,R.fr,⟨ow,⟨fun b k hk=>?_⟩,fun j s hs=>?_⟩,by rw [List.length_set]; exact R.len⟩
 ·have:b ≠ p:=fun z=>by subst z; rw [g4] at q; cases q
  rw [aj this]; exact R.eh b u q m
 ·by_cases hb:b = p
  ·subst hb; exact g4
  ·rw [aj hb] at q; exact R.al b q
 ·obtain ⟨h1,h2,h3⟩:=ok.is b k hk; exact ⟨h1,oZ h2,h3⟩
 ·rcases fD hs with ⟨e,rfl,hl⟩ | ⟨e,hs⟩
  ·subst e
   exact ⟨p,vs,hp,aq,g4,g6,hv⟩
  ·refine (gh j s hs).keep (av.refl _) (fun _ _ z=>z) fun b f u z q=>?_
   have:b ≠ p:=fun w=>by subst w; rw [g6] at z; cases z; exact e rfl
   rw [aj this]; exact q
theorem Rel.rebase (R:Rel K n δ σ G H):Rel K ⟨G,n.H,n.M⟩ δ σ G H:=by
 obtain ⟨ow,ok,gh⟩:=R.gh
 refine ⟨R.sub,av.refl _,R.eh,R.al,fun b o e (e0:G b = none)=>(by rw [e0] at e; cases e),⟨ow,⟨ok.is⟩,fun i s hs=>?_⟩,R.len⟩
 have h:=gh i s hs
 cases s <;> exact h
theorem Rel.xa (R:Rel K n δ σ G H) (S:Rel K ⟨G,n.H,n.M⟩ δ' σ' G' H'):Rel K n δ' σ' G' H':=by
 obtain ⟨ow,ok,gh⟩:=S.gh
 refine ⟨S.sub,R.eg.trans S.eg,S.eh,S.al,fun b o e e0=>(by
  cases q:G b with
  | none=>exact S.fr b o e q
  | some w=>exact R.fr b w q e0),⟨ow,⟨ok.is⟩,fun i s hs=>?_⟩,S.len⟩
 have h:=gh i s hs
 cases s <;> exact h
end
section
variable {K:PySem.W.Frag} {n:En} {δ:Ev} {σ:L2.St} {G H:Hp} {D₀:Addr} {o u:HO}
theorem Rel.xb (R:Rel K n δ σ G H) (h:H D₀ = none):H D₀ = none:=h
theorem Rel.other (R:Rel K n δ σ G H) (hG:G D₀ = none) (hn:n.H D₀ = none) (ho:H D₀ = none) (o:HO):Rel K n δ σ G (upd H D₀ o) :=
 R.ext ⟨av.refl _,R.sub.trans (aC ho o),aC ho o,fun b v e e0=>(by rw [e0] at e; cases e)⟩
noncomputable def del (H:Hp) (D₀:Addr):Hp:=fun b=>if b = D₀ then none else H b
theorem bL:del H D₀ D₀ = none:=if_pos rfl
theorem bB {b:Addr} (h:b ≠ D₀):del H D₀ b = H b:=if_neg h
theorem yC (h:H D₀ = none):del H D₀ = H:=by
 funext b
 by_cases hb:b = D₀
 ·subst hb; rw [bL,h]
 ·exact bB hb
theorem sN:del (upd H D₀ o) D₀ = del H D₀:=by
 funext b
 by_cases hb:b = D₀
 ·subst hb; rw [bL,bL]
 ·rw [bB hb,bB hb,aj hb]
theorem CG (h:H D₀ = some o):upd (del H D₀) D₀ o = H:=by
 funext b
 by_cases hb:b = D₀
 ·subst hb; rw [aq,h]
 ·rw [aj hb,bB hb]
theorem Ext.del {G' H':Hp} (e:Ext G H G' H') (h:G' D₀ = none):Ext G (del H D₀) G' (Dl.del H' D₀):=by
 refine ⟨e.gg,fun b v q=>?_,fun b v q=>?_,fun b v q q0=>?_⟩
 ·rw [bB (aR q h)]; exact e.gh b v q
 ·by_cases hb:b = D₀
  ·subst hb; rw [bL] at q; cases q
  ·rw [bB hb] at q ⊢; exact e.hh b v q
 ·rw [bB (aR q h)]; exact e.fr b v q q0
theorem Rel.OX (R:Rel K n δ σ G (del H D₀)) (hH:H D₀ = some o):Rel K n δ σ (upd G D₀ o) H:=by
 have z:=R.laid (p:=D₀) bL o
 rwa [CG hH] at z
theorem Rel.K0 (R:Rel K n δ σ G (del H D₀)) (hH:H D₀ = some o):Rel K n δ σ G H:=by
 have z:=R.other (R.sub.free bL) (R.al _ bL) bL o
 rwa [CG hH] at z
noncomputable def jY (δ:Ev):Ev:=δ.map fun s=>match s with
 | .sh d=>.sh d
 | _=>.no
theorem Rel.inner (R:Rel K n δ σ G H) (k:Nat):Rel K ⟨G,H,fun _=>False⟩ (jY δ ++ List.replicate k .no) (σ ++ List.replicate k none) G H:=by
 refine ⟨R.sub,av.refl _,fun b o e _=>e,fun b e=>e,fun b o e (e0:G b = none)=>(by rw [e0] at e; cases e),⟨fun _=>none,⟨fun _ _ z=>by cases z⟩,fun i s hs=>?_⟩,?_⟩
 ·by_cases hi:i < (jY δ).length
  ·have hi':i < σ.length:=by rw [← R.len]; simpa [jY] using hi
   rw [List.getElem?_append_left hi,jY,List.getElem?_map] at hs
   rw [List.getElem?_append_left hi']
   cases q:δ[i]? with
   | none=>rw [q] at hs; cases hs
   | some s' =>
    rw [q] at hs
    have h:=R.sl i s' q
    cases s' with
    | sh d=>cases hs; exact h
    | no=>cases hs; trivial
    | ow l=>cases hs; trivial
    | mu a l=>cases hs; trivial
    | ob h C fs=>cases hs; trivial
    | pt a=>cases hs; trivial
    | rc h fs=>cases hs; trivial
    | hb a C fs=>cases hs; trivial
  ·rw [List.getElem?_append_right (by omega),List.getElem?_replicate] at hs
   split at hs
   ·cases hs; trivial
   ·cases hs
 ·rw [List.length_append,List.length_append,List.length_replicate,List.length_replicate,jY,List.length_map,R.len]
theorem Rel.K1 {G' H':Hp} (R:Rel K ⟨G,H,fun _=>False⟩ δ σ G' H'):Ext G H G' H':=⟨R.eg,R.sub,fun b o e=>R.eh b o e (fun z=>z),fun b o e e0=>R.fr b o e e0⟩
end
end Dl
namespace Dl
open PySem PySem.Spec PyProof.Rows L2
noncomputable abbrev QE:=D→Ev→Prop
noncomputable abbrev cx:=Ev→QE→Prop
noncomputable abbrev lK:=Ev→(List D→Ev→Prop)→Prop
noncomputable abbrev lB:=Ev→(Bool→Ev→Prop)→Prop
noncomputable def lE (K:PySem.W.Frag) (t:cx):TE:=fun σ H Q2=>∃ (n:En) (δ:Ev) (G:Hp) (Q:QE),Rel K n δ σ G H∧t δ Q ∧
 ∀ (v:V) (G' H':Hp) (d:D) (δ':Ev),Rel K n δ' σ G' H'→av G G'→Den K G' v d→Q d δ'→Q2 v H'
theorem lE.el {K:PySem.W.Frag} {t:cx} {σ H Q2} {P:Prop} (x:lE K t σ H Q2) (k:∀ (n:En) (δ:Ev) (G:Hp) (Q:QE),(Rel K n δ σ G H)→(t δ Q)→(∀ (v:V) (G' H':Hp) (d:D) (δ':Ev),Rel K n δ' σ G' H'→av G G'→Den K G' v d→Q d δ'→Q2 v H')→P):P:=by
 obtain ⟨n,δ,G,Q,h0,h1,h2⟩:=x
 exact k n δ G Q h0 h1 h2
noncomputable def lA (K:PySem.W.Frag) (t:lK):TA:=fun σ H Q2=>∃ (n:En) (δ:Ev) (G:Hp) (Q:List D→Ev→Prop),Rel K n δ σ G H∧t δ Q ∧
 ∀ (v:List V) (G' H':Hp) (d:List D) (δ':Ev),Rel K n δ' σ G' H'→av G G'→aH K G' v d→Q d δ'→Q2 v H'
theorem lA.el {K:PySem.W.Frag} {t:lK} {σ H Q2} {P:Prop} (x:lA K t σ H Q2) (k:∀ (n:En) (δ:Ev) (G:Hp) (Q:List D→Ev→Prop),(Rel K n δ σ G H)→(t δ Q)→(∀ (v:List V) (G' H':Hp) (d:List D) (δ':Ev),Rel K n δ' σ G' H'→av G G'→aH K G' v d→Q d δ'→Q2 v H')→P):P:=by
 obtain ⟨n,δ,G,Q,h0,h1,h2⟩:=x
 exact k n δ G Q h0 h1 h2
noncomputable def lT (K:PySem.W.Frag) (t:lB):TT:=fun σ H Q2=>∃ (n:En) (δ:Ev) (G:Hp) (Q:Bool→Ev→Prop),Rel K n δ σ G H∧t δ Q ∧
 ∀ (b:Bool) (G' H':Hp) (δ':Ev),Rel K n δ' σ G' H'→av G G'→Q b δ'→Q2 b H'
theorem lT.el {K:PySem.W.Frag} {t:lB} {σ H Q2} {P:Prop} (x:lT K t σ H Q2) (k:∀ (n:En) (δ:Ev) (G:Hp) (Q:Bool→Ev→Prop),(Rel K n δ σ G H)→(t δ Q)→(∀ (b:Bool) (G' H':Hp) (δ':Ev),Rel K n δ' σ G' H'→av G G'→Q b δ'→Q2 b H')→P):P:=by
 obtain ⟨n,δ,G,Q,h0,h1,h2⟩:=x
 exact k n δ G Q h0 h1 h2
noncomputable abbrev DE (X:Cx) (e:Expr) (t:cx):Prop:=PE X e (lE X.K t)
noncomputable abbrev DA (X:Cx) (es:List Expr) (t:lK):Prop:=PA X es (lA X.K t)
noncomputable abbrev DT (X:Cx) (e:Expr) (t:lB):Prop:=PT X e (lT X.K t)
noncomputable abbrev DW (X:Cx) (e:Expr) (t:lB):Prop:=PW X e (lT X.K t)
theorem bx {X:Cx} {e:Expr} {t t':TE} (h:PE X e t) (hi:∀ σ H Q,t' σ H Q→t σ H Q):PE X e t':=fun pins s σ H Q I q=>h pins s σ H Q I (hi σ H Q q)
theorem xc {X:Cx} {e:Expr} {t t':TT} (h:PT X e t) (hi:∀ σ H Q,t' σ H Q→t σ H Q):PT X e t':=fun pins s σ H Q I q=>h pins s σ H Q I (hi σ H Q q)
theorem FN {X:Cx} {e:Expr} {t t':TT} (h:PW X e t) (hi:∀ σ H Q,t' σ H Q→t σ H Q):PW X e t':=fun wh pins s σ H Q I q=>h wh pins s σ H Q I (hi σ H Q q)
theorem FO {X:Cx} {es:List Expr} {t t':TA} (h:PA X es t) (hi:∀ σ H Q,t' σ H Q→t σ H Q):PA X es t':=fun pos pins s σ H Q I q=>h pos pins s σ H Q I (hi σ H Q q)
theorem gc {X:Cx} {st:Stmt} {t t':TS} (h:PS X st t) (hi:∀ D σ H,t' D σ H→t D σ H):PS X st t':=fun pins s σ H D I q=>h pins s σ H D I (hi D σ H q)
theorem xf {X:Cx} {st:List Stmt} {t t':TS} (h:AG X st t) (hi:∀ D σ H,t' D σ H→t D σ H):AG X st t':=fun pins s σ H D I q=>h pins s σ H D I (hi D σ H q)
noncomputable def ae (i:Nat):cx:=fun δ Q=>match δ[i]? with
 | some (.sh d)=>Q d δ
 | _=>False
noncomputable def dC (d:D):cx:=fun δ Q=>Q d δ
section
variable {X:Cx} {a b c:Expr} {ta tb tc:cx} {pos:Pos}
theorem dv (i:Nat) {x:Str} {pos:Pos} (hN:X.N[i]? = some x:=by rfl) (hv:rQ X.env.scope x:=by first | exact Or.inl rfl | exact Or.inr (Or.inl rfl) | exact Or.inr (Or.inr rfl)) (hd:(x == ("__debug__":Str)) = false:=by decide)
  (om:(x == ("__classdict__":Str)) = false:=by decide):DE X (.Name x pos) (ae i) :=
 bx (iM hN hv hd om) fun σ H Q2 hx=>hx.el fun n δ G Q R h k=>by
  unfold ae at h
  split at h
  ·rename_i d e
   obtain ⟨v,h1,h2⟩:=R.sl i _ e
   exact ⟨v,h1,k v G H d δ R (av.refl _) h2 h⟩
  ·exact h.elim
theorem yD {d:D} {v:V} {e:Expr} (h:PE X e (tC v)) (hd:∀ G,Den X.K G v d):DE X e (dC d) :=
 bx h fun σ H Q2 hx=>hx.el fun n δ G Q R h k=>k v G H d δ R (av.refl _) (hd G) h
theorem ai {i j pos}:DE X (.Constant (.int i) j pos) (dC (.int i)):=yD Fd fun _=>.int i
theorem tM {i j pos}:DE X (.Constant (.bool i) j pos) (dC (.bl i)):=yD Om fun _=>.bl i
theorem dh {j pos}:DE X (.Constant .none j pos) (dC .aU):=yD LI fun _=>.aU
theorem gf {x j pos}:DE X (.Constant (.str x) j pos) (dC (.str x)):=yD LJ fun _=>.str x
theorem eI {x:Str} {i:Int} {t:Tok} {pos:Pos} (hm:X.mg x = some (.int i t)) (hg:Gl X x:=by rfl) (hd:(x == ("__debug__":Str)) = false:=by decide):DE X (.Name x pos) (dC (.int i)) :=
 yD (v:=.int i) (IC hg hm ⟨t,rfl⟩ hd) fun _=>.int i
noncomputable abbrev RD:=D→D→(D→Prop)→Prop
noncomputable def aD (r:RD) (ta tb:cx):cx:=fun δ Q=>ta δ fun x δ1=>tb δ1 fun y δ2=>r x y fun d=>Q d δ2
noncomputable def AH (K:PySem.W.Frag) (r2:R2) (r:RD):Prop:=∀ (G H:Hp) (x y:V) (dx dy:D) (Q:D→Prop) (Q2:VK),av G H→Den K G x dx→Den K G y dy→r dx dy Q →
 (∀ (v:V) (G' H':Hp) (d:D),Ext G H G' H'→Den K G' v d→Q d→Q2 v H')→r2 x y H Q2
theorem jW.or {f:Value→Value→Sem Value} {r r':R2} (h:jW X f r) (h':jW X f r'):jW X f (fun x y H Q=>r x y H Q∨r' x y H Q) :=
 fun pins s σ H x y v u Q I rx ry q=>q.elim (h pins s σ H x y v u Q I rx ry) (h' pins s σ H x y v u Q I rx ry)
theorem sO {r2:R2} {r:RD} (hs:AH X.K r2 r):∀ σ H Q,lE X.K (aD r ta tb) σ H Q→OB r2 (lE X.K ta) (lE X.K tb) σ H Q:=fun σ H Q2 hx=>hx.el fun n δ G Q R h k =>
 ⟨n,δ,G,_,R,h,fun v G1 H1 x δ1 R1 s1 d1 h1=>⟨n,δ1,G1,_,R1,h1,fun w G2 H2 y δ2 R2 s2 d2 h2 =>
  hs G2 H2 v w x y _ Q2 R2.sub (d1.up s2) d2 h2 fun u G3 H3 d e3 d3 q3=>k u G3 H3 d δ2 (R2.ext e3) (s1.trans (s2.trans e3.gg)) d3 q3⟩⟩
theorem tN {op:Operator} {r2:R2} {r:RD} (ho:jW X (binaryOp op) r2) (hs:AH X.K r2 r) (ha:DE X a ta) (hb:DE X b tb):DE X (.BinOp a op b pos) (aD r ta tb) :=
 bx (OC ho ha hb) (sO hs)
theorem A6 {op:CmpOp} {r2:R2} {r:RD} (ho:jW X (compareOp op) r2) (hs:AH X.K r2 r) (ha:DE X a ta) (hb:DE X b tb) (hm:behindInMarks op b = false):DE X (.Compare a [op] [b] pos) (aD r ta tb) :=
 bx (IM ho ha hb hm) (sO hs)
theorem FP {r2:R2} {r:RD} (ho:Iv X r2) (hs:AH X.K r2 r) (ha:DE X a ta) (hb:DE X b tb) (hp:sM b):DE X (.Subscript a b pos) (aD r ta tb) :=
 bx (OO ho ha hb hp) (sO hs)
noncomputable def dB (t:cx):lB:=fun δ Q=>t δ fun x δ1=>match x with
 | .bl c=>Q c δ1
 | _=>False
theorem lW {op:CmpOp} {r2:R2} {r:RD} (ho:jW X (compareOp op) r2) (hs:AH X.K r2 r) (ha:DE X a ta) (hb:DE X b tb) (hm:behindInMarks op b = false):DT X (.Compare a [op] [b] pos) (dB (aD r ta tb)) :=
 xc (IP ho ha hb hm) fun σ H Q2 hx=>hx.el fun n δ G Q R h k=>sO hs σ H _ ⟨n,δ,G,_,R,h,fun v G1 H1 d δ1 R1 s1 d1 h1=>by
  cases d with
  | bl c=>exact ⟨c,d1.w8,k c G1 H1 δ1 R1 s1 h1⟩
  | _=>exact h1.elim⟩
noncomputable def Mj:D→(Bool→Prop)→Prop
 | .aU,Q=>Q false
 | .bl b,Q=>Q b
 | .int i,Q=>Q (i != 0)
 | .str y,Q=>y.length ≤ sizeLine∧Q ((y.length:Int) != 0)
 | .tup l,Q=>Q (!l.isEmpty)
 | .lst l,Q=>Q (!l.isEmpty)
 | .pt _,_=>False
theorem Jj {K:PySem.W.Frag} {G H:Hp} {x:V} {d:D} (s:av G H) (h:Den K G x d) {Q:Bool→Prop} (q:Mj d Q):∃ k,L5 K x H k∧Q k:=by
 cases h with
 | aU=>exact ⟨_,rfl,q⟩
 | bl b=>exact ⟨_,rfl,q⟩
 | int i=>exact ⟨_,rfl,q⟩
 | pt a=>exact q.elim
 | str y=>exact ⟨_,⟨q.1,rfl⟩,q.2⟩
 | tup h l=>refine ⟨_,.inr (.inl ⟨_,av.tupS s h,rfl⟩),?_⟩; cases l <;> exact q
 | lst h l=>refine ⟨_,.inl ⟨_,s.seq h,rfl⟩,?_⟩; cases l <;> exact q
noncomputable def A7 (t u:lB):lB:=fun δ Q=>t δ fun c δ1=>if c = true then u δ1 Q else Q false δ1
noncomputable def Jk (t u:lB):lB:=fun δ Q=>t δ fun c δ1=>if c = true then Q true δ1 else u δ1 Q
noncomputable def FQ (t:lB):lB:=fun δ Q=>t δ fun c δ1=>Q (!c) δ1
variable {tA tB':lB} {rest:List Expr}
theorem o6 (ha:DT X a tA):DW X (.BoolOp .And [a] pos) tA:=ID ha
theorem ou (ha:DT X a tA):DW X (.BoolOp .Or [a] pos) tA:=LK ha
theorem tO (ha:DT X a tA) (hb:DW X (.BoolOp .And (b :: rest) pos) tB'):DW X (.BoolOp .And (a :: b :: rest) pos) (A7 tA tB') :=
 FN (LL ha hb) fun σ H Q2 hx=>hx.el fun n δ G Q R h k=>⟨n,δ,G,_,R,h,fun c G1 H1 δ1 R1 s1 h1=>by
  cases c with
  | true=>exact D7 ⟨n,δ1,G1,Q,R1,h1,fun b G2 H2 δ2 R2 s2 h2=>k b G2 H2 δ2 R2 (s1.trans s2) h2⟩
  | false=>exact D6 (k false G1 H1 δ1 R1 s1 h1)⟩
theorem tP (ha:DT X a tA) (hb:DW X (.BoolOp .Or (b :: rest) pos) tB'):DW X (.BoolOp .Or (a :: b :: rest) pos) (Jk tA tB') :=
 FN (Oo ha hb) fun σ H Q2 hx=>hx.el fun n δ G Q R h k=>⟨n,δ,G,_,R,h,fun c G1 H1 δ1 R1 s1 h1=>by
  cases c with
  | false=>exact D6 ⟨n,δ1,G1,Q,R1,h1,fun b G2 H2 δ2 R2 s2 h2=>k b G2 H2 δ2 R2 (s1.trans s2) h2⟩
  | true=>exact D7 (k true G1 H1 δ1 R1 s1 h1)⟩
theorem rT {e:Expr} (h:DW X e tA):DT X e tA:=h.pt
theorem A8 (ha:DT X a tA):DT X (.UnaryOp .Not a pos) (FQ tA) :=
 xc (LM ha) fun σ H Q2 hx=>hx.el fun n δ G Q R h k=>⟨n,δ,G,_,R,h,fun c G1 H1 δ1 R1 s1 h1=>k (!c) G1 H1 δ1 R1 s1 h1⟩
noncomputable def yE (ta tb:cx):cx:=fun δ Q=>ta δ fun x δ1=>match x with
 | .bl c=>if c = true then tb δ1 Q else Q (.bl false) δ1
 | _=>False
theorem A9 {op} (h:DE X a ta):DE X (.BoolOp op [a] pos) ta:=LN h
theorem Ba (ha:DE X a ta) (hb:DE X (.BoolOp .And (b :: rest) pos) tb):DE X (.BoolOp .And (a :: b :: rest) pos) (yE ta tb) :=
 bx (L2.LO ha hb) fun σ H Q2 hx=>hx.el fun n δ G Q R h k=>⟨n,δ,G,_,R,h,fun v G1 H1 d δ1 R1 s1 d1 h1=>by
  cases d with
  | bl c =>
   refine ⟨c,d1.w8,?_⟩
   cases c with
   | true=>exact D7 ⟨n,δ1,G1,Q,R1,h1,fun b G2 H2 d δ2 R2 s2 d2 h2=>k b G2 H2 d δ2 R2 (s1.trans s2) d2 h2⟩
   | false=>exact D6 (k _ G1 H1 _ δ1 R1 s1 (.bl false) h1)
  | _=>exact h1.elim⟩
noncomputable def NW (t:lB) (ta tb:cx):cx:=fun δ Q=>t δ fun c δ1=>if c = true then ta δ1 Q else tb δ1 Q
theorem CH (hc:DT X c tA) (ha:DE X a ta) (hb:DE X b tb):DE X (.IfExp c a b pos) (NW tA ta tb) :=
 bx (Fe hc ha hb) fun σ H Q2 hx=>hx.el fun n δ G Q R h k=>⟨n,δ,G,_,R,h,fun c G1 H1 δ1 R1 s1 h1=>by
  cases c with
  | true=>exact D7 ⟨n,δ1,G1,Q,R1,h1,fun v G2 H2 d δ2 R2 s2 d2 h2=>k v G2 H2 d δ2 R2 (s1.trans s2) d2 h2⟩
  | false=>exact D6 ⟨n,δ1,G1,Q,R1,h1,fun v G2 H2 d δ2 R2 s2 d2 h2=>k v G2 H2 d δ2 R2 (s1.trans s2) d2 h2⟩⟩
variable {e:Expr} {es:List Expr} {te:cx} {t:lK}
noncomputable def aw:lK:=fun δ Q=>Q [] δ
noncomputable def af (ta:cx) (tr:lK):lK:=fun δ Q=>ta δ fun x δ1=>tr δ1 fun xs δ2=>Q (x :: xs) δ2
theorem ak:DA X [] aw:=FO oo fun σ H Q2 hx=>hx.el fun n δ G Q R h k=>k [] G H [] δ R (av.refl _) .nil h
theorem aa (ha:DE X e te) (hr:DA X es t) (hs:starEach (e :: es) X.env = (false,eval e X.env) :: starEach es X.env:=by rfl):DA X (e :: es) (af te t) :=
 FO (jX ha hr hs) fun σ H Q2 hx=>hx.el fun n δ G Q R h k=>⟨n,δ,G,_,R,h,fun v G1 H1 d δ1 R1 s1 d1 h1=>⟨n,δ1,G1,_,R1,h1,fun vs G2 H2 ds δ2 R2 s2 d2 h2 =>
  k (v :: vs) G2 H2 (d :: ds) δ2 R2 (s1.trans s2) (.cons (d1.up s2) d2) h2⟩⟩
noncomputable def tQ (t:lK):cx:=fun δ Q=>t δ fun xs δ1=>xs.length ≤ sizeLine∧Q (.tup xs) δ1
noncomputable def o7 (t:lK):cx:=fun δ Q=>t δ fun xs δ1=>xs.length ≤ sizeLine∧Q (.lst xs) δ1
theorem jZ {x1} (h:DA X es t):DE X (.Tuple es x1 pos) (tQ t) :=
 bx (L2.L7 h) fun σ H Q2 hx=>hx.el fun n δ G Q R h k=>⟨n,δ,G,_,R,h,fun vs G1 H1 ds δ1 R1 s1 d1 h1=>⟨by rw [d1.length]; exact h1.1,fun p hp =>
  k _ _ _ _ δ1 (R1.laid hp _) (s1.trans (aC (R1.sub.free hp) _)) (.tup (kT.of aq) (d1.up (aC (R1.sub.free hp) _))) h1.2⟩⟩
theorem jk (h:DA X es t):DE X (.List es pos) (o7 t) :=
 bx (L2.Fz h) fun σ H Q2 hx=>hx.el fun n δ G Q R h k=>⟨n,δ,G,_,R,h,fun vs G1 H1 ds δ1 R1 s1 d1 h1=>⟨by rw [d1.length]; exact h1.1,fun p hp =>
  k _ _ _ _ δ1 (R1.laid hp _) (s1.trans (aC (R1.sub.free hp) _)) (.lst (gG.of aq) (d1.up (aC (R1.sub.free hp) _))) h1.2⟩⟩
noncomputable abbrev RC:=List D→(D→Prop)→Prop
noncomputable def kU (K:PySem.W.Frag) (r2:List V→Hp→VK→Prop) (r:RC):Prop:=∀ (G H:Hp) (xs:List V) (ds:List D) (Q:D→Prop) (Q2:VK),av G H→aH K G xs ds→r ds Q →
 (∀ (v:V) (G' H':Hp) (d:D),Ext G H G' H'→Den K G' v d→Q d→Q2 v H')→r2 xs H Q2
noncomputable def ay (r:RC) (t:lK):cx:=fun δ Q=>t δ fun ds δ1=>r ds fun d=>Q d δ1
theorem dq.or {f:Value} {r r':List V→Hp→VK→Prop} (h:dq X f r) (h':dq X f r'):dq X f (fun xs H Q=>r xs H Q∨r' xs H Q) :=
 fun pins s σ H xs us Q I rx q=>q.elim (h pins s σ H xs us Q I rx) (h' pins s σ H xs us Q I rx)
theorem vS {r2:List V→Hp→VK→Prop} {r:RC} (hs:kU X.K r2 r):∀ σ H Q,lE X.K (ay r t) σ H Q→SD r2 (lA X.K t) σ H Q:=fun σ H Q2 hx=>hx.el fun n δ G Q R h k =>
 ⟨n,δ,G,_,R,h,fun vs G1 H1 ds δ1 R1 s1 d1 h1=>hs G1 H1 vs ds _ Q2 R1.sub d1 h1 fun u G3 H3 d e3 d3 q3=>k u G3 H3 d δ1 (R1.ext e3) (s1.trans e3.gg) d3 q3⟩
variable {x:Str} {p:Pos} {id T:String}
theorem jx {r2:List V→Hp→VK→Prop} {r:RC} (hc:dq X (.builtin id) r2) (hs:kU X.K r2 r) (hm:X.mg x = none) (hv:bootBuiltins x = some (.builtin id)) (ha:DA X (e :: es) t) (hg:Gl X x:=by rfl) (hn:x ≠ "__name__":=by decide) (A0:(x == ("__debug__":Str)) = false:=by decide)
  (he:starEach (e :: es) X.env = (false,eval e X.env) :: starEach es X.env:=by rfl) (lJ:(backTo pos (starEach es X.env)).any (·.1) = false:=by rfl):DE X (.Call (.Name x p) (e :: es) [] pos) (ay r t) :=
 bx (tI hc hg hm hv ha hn A0 he lJ) (vS hs)
theorem D8 {r2:List V→Hp→VK→Prop} {r:RC} (hc:dq X (.type T) r2) (hs:kU X.K r2 r) (hm:X.mg x = none) (hv:bootBuiltins x = some (.type T)) (ha:DA X (e :: es) t) (hg:Gl X x:=by rfl) (hn:x ≠ "__name__":=by decide) (A0:(x == ("__debug__":Str)) = false:=by decide)
  (he:starEach (e :: es) X.env = (false,eval e X.env) :: starEach es X.env:=by rfl) (lJ:(backTo pos (starEach es X.env)).any (·.1) = false:=by rfl):DE X (.Call (.Name x p) (e :: es) [] pos) (ay r t) :=
 bx (ng hc hg hm hv ha hn A0 he lJ) (vS hs)
end
noncomputable abbrev qm:=List D→(D→Prop)→Prop
noncomputable def bp (K:PySem.W.Frag) (S:qm):Sp:=fun vs H Q _=>∃ (G:Hp) (ds:List D) (Qd:D→Prop),av G H∧aH K G vs ds∧S ds Qd ∧
 ∀ (v:V) (G' H':Hp) (d:D),Ext G H G' H'→Den K G' v d→Qd d→Q v H'
section
variable {X:Cx} {k:Nat} {f:Addr} {fd:FuncData} {ps:List Str} {S:qm} {x:Str} {p pos:Pos} {e:Expr} {es:List Expr} {t:lK}
theorem az (F:aJ X.prog X.w X.K X.mg X.base bT k f fd ps (bp X.K S)) (hr:eD k X.A) (hm:X.mg x = some (.ref f)) (hk:PySem.W.keepIn X.K (.ref f) = true) (hb:Binds X.K fd ps [])
  (ha:DA X (e :: es) t) (hg:Gl X x:=by rfl) (A0:(x == ("__debug__":Str)) = false:=by decide) (he:starEach (e :: es) X.env = (false,eval e X.env) :: starEach es X.env:=by rfl) (lJ:(backTo pos (starEach es X.env)).any (·.1) = false:=by rfl) :
  DE X (.Call (.Name x p) (e :: es) [] pos) (ay S t) :=
 bx (IT F hr hg hm hk hb .nil yB ha A0 he lJ) fun σ H Q2 hx=>hx.el fun n δ G Q R h kk=>⟨n,δ,G,_,R,h,fun vs G1 H1 ds δ1 R1 s1 d1 h1=>by
  show bp X.K S (vs ++ []) H1 Q2 E0
  rw [List.append_nil]
  exact ⟨G1,ds,_,R1.sub,d1,h1,fun v G2 H2 d e2 d2 q2=>kk v G2 H2 d δ1 (R1.ext e2) (s1.trans e2.gg) d2 q2⟩⟩
end
end Dl
namespace Dl
open PySem PySem.Spec PyProof.Rows L2
structure tR where
 nx:Ev→Prop
 rt:D→Ev→Prop
 bk:Ev→Prop:=fun _=>False
 ct:Ev→Prop:=fun _=>False
noncomputable abbrev bC:=tR→Ev→Prop
structure FR (K:PySem.W.Frag) (n:En) (E:tR) (F:Ends):Prop where
 nx:∀ δ σ G H,Rel K n δ σ G H→E.nx δ→F.nx σ H
 rt:∀ v d δ σ G H,Rel K n δ σ G H→Den K G v d→E.rt d δ→F.rt v H
 bk:∀ δ σ G H,Rel K n δ σ G H→E.bk δ→F.bk σ H
 ct:∀ δ σ G H,Rel K n δ σ G H→E.ct δ→F.ct σ H
noncomputable def lS (K:PySem.W.Frag) (t:bC):TS:=fun F σ H=>∃ (n:En) (δ:Ev) (G:Hp) (E:tR),Rel K n δ σ G H∧t E δ∧FR K n E F
theorem lS.el {K:PySem.W.Frag} {t:bC} {F σ H} {P:Prop} (x:lS K t F σ H) (k:∀ (n:En) (δ:Ev) (G:Hp) (E:tR),(Rel K n δ σ G H)→(t E δ)→(FR K n E F)→P):P:=by
 obtain ⟨n,δ,G,E,h0,h1,h2⟩:=x
 exact k n δ G E h0 h1 h2
noncomputable abbrev DS (X:Cx) (st:Stmt) (t:bC):Prop:=PS X st (lS X.K t)
noncomputable abbrev E5 (X:Cx) (st:List Stmt) (t:bC):Prop:=AG X st (lS X.K t)
section
variable {X:Cx} {st:Stmt} {rest:List Stmt} {t u:bC} {pos:Pos} {e:Expr} {te:cx}
noncomputable def b8:bC:=fun E δ=>E.nx δ
noncomputable def au (t u:bC):bC:=fun E δ=>t { E with nx:=u E } δ
theorem aX:E5 X [] b8:=xf IE fun F σ H hx=>hx.el fun n δ G E R h k=>k.nx δ σ G H R h
theorem ah (h1:DS X st t) (h2:E5 X rest u):E5 X (st :: rest) (au t u) :=
 xf (Fh h1 h2) fun F σ H hx=>hx.el fun n δ G E R h k=>⟨n,δ,G,_,R,h,⟨fun δ' σ' G' H' R' h'=>⟨n,δ',G',E,R',h',k⟩,k.rt,k.bk,k.ct⟩⟩
theorem ao (h1:DS X st t):E5 X [st] t:=IF h1
noncomputable def jy (te:cx):bC:=fun E δ=>te δ fun _ δ1=>E.nx δ1
theorem ip (he:DE X e te) (hs:swapsWith e none pos.line X.env = pure false:=by rfl):DS X (.Expr e pos) (jy te) :=
 gc (wO he hs) fun F σ H hx=>hx.el fun n δ G E R h k=>⟨n,δ,G,_,R,h,fun v G1 H1 d δ1 R1 s1 d1 h1=>k.nx δ1 σ G1 H1 R1 h1⟩
noncomputable def bF (te:cx):bC:=fun E δ=>te δ E.rt
theorem aI (he:DE X e te):DS X (.Return (some e) pos) (bF te) :=
 gc (LP he) fun F σ H hx=>hx.el fun n δ G E R h k=>⟨n,δ,G,_,R,h,fun v G1 H1 d δ1 R1 s1 d1 h1=>k.rt v d δ1 σ G1 H1 R1 d1 h1⟩
noncomputable def fA (c:lB) (t u:bC):bC:=fun E δ=>c δ fun b δ1=>if b = true then t E δ1 else u E δ1
theorem cu {c:Expr} {a b:List Stmt} {tc:lB} (hc:DT X c tc) (ha:E5 X a t) (hb:E5 X b u):DS X (.If c a b pos) (fA tc t u) :=
 gc (Ov hc ha hb) fun F σ H hx=>hx.el fun n δ G E R h k=>⟨n,δ,G,_,R,h,fun c G1 H1 δ1 R1 s1 h1=>by
  cases c with
  | true=>exact D7 ⟨n,δ1,G1,E,R1,h1,k⟩
  | false=>exact D6 ⟨n,δ1,G1,E,R1,h1,k⟩⟩
noncomputable def tS:bC:=fun _ _=>False
theorem tT:DS X st tS:=fun _ _ _ _ _ _ ⟨_,_,_,_,_,h,_⟩=>h.elim
noncomputable def bw (i:Nat) (te:cx):bC:=fun E δ=>te δ fun d δ1=>E.nx (δ1.set i (.sh d))
theorem aP (i:Nat) {x:Str} {pos':Pos} (hN:X.N.Nodup) (he:DE X e te) (hi:X.N[i]? = some x:=by rfl) (hx:Loc X.env.scope x:=by first | exact Or.inl rfl | exact Or.inr rfl) (hs:swapsWith e (some (.Name x pos')) pos.line X.env = pure false:=by rfl)
  (hf:X.fn x = true∨X.env.scope.names.lookup x = some .local:=by first | exact .inl rfl | exact .inr rfl | assumption):DS X (.Assign [.Name x pos'] e pos) (bw i te) :=
 gc (Fi (i:=i) hN hi hx he hs hf) fun F σ H hx=>hx.el fun n δ G E R h k=>⟨n,δ,G,_,R,h,fun v G1 H1 d δ1 R1 s1 d1 h1=>k.nx _ _ G1 H1 (R1.set i d1) h1⟩
noncomputable def FT (i:Nat) (ta:lK):bC:=fun E δ=>ta δ fun ds δ1=>ds.length ≤ sizeLine∧E.nx (δ1.set i (.ow ds))
theorem Bb (i:Nat) {x:Str} {pos' lp:Pos} {es:List Expr} {ta:lK} (hN:X.N.Nodup) (he:DA X es ta) (hi:X.N[i]? = some x:=by rfl) (hx:Loc X.env.scope x:=by first | exact Or.inl rfl | exact Or.inr rfl) (hs:swapsWith (.List es lp) (some (.Name x pos')) pos.line X.env = pure false:=by rfl)
  (hf:X.fn x = true∨X.env.scope.names.lookup x = some .local:=by first | exact .inl rfl | exact .inr rfl | assumption):DS X (.Assign [.Name x pos'] (.List es lp) pos) (FT i ta) :=
 gc (Fi (i:=i) hN hi hx (L2.Fz he) hs hf) fun F σ H hx=>hx.el fun n δ G E R h k=>⟨n,δ,G,_,R,h,fun vs G1 H1 ds δ1 R1 s1 d1 h1=>⟨by rw [d1.length]; exact h1.1,fun p hp =>
  k.nx _ _ G1 _ (R1.own i hp d1) h1.2⟩⟩
noncomputable def D9 (i:Nat) (t:bC):bC:=fun E δ=>match δ[i]? with
 | some (.ow l)=>t E (δ.set i (.sh (.lst l)))
 | _=>False
theorem xg (i:Nat) {Zt:List Stmt} (h1:E5 X Zt t):E5 X Zt (D9 i t) :=
 xf h1 fun F σ H hx=>hx.el fun n δ G E R h k=>by
  unfold D9 at h
  split at h
  ·rename_i l e
   obtain ⟨G',R',_⟩:=R.freeze e
   exact ⟨n,_,G',E,R',h,k⟩
  ·exact h.elim
noncomputable def FU (i:Nat) (te:cx):bC:=fun E δ=>match δ[i]? with
 | some (.ow _)=>te δ fun d δ1=>match δ1[i]? with
  | some (.ow l)=>l.length < sizeLine∧E.nx (δ1.set i (.ow (l ++ [d])))
  | _=>False
 | _=>False
theorem vT (i:Nat) {x:Str} {e₀:Expr} {np ap cp:Pos} {te:cx} (he:DE X e₀ te) (hN:X.N[i]? = some x:=by rfl) (hv:rQ X.env.scope x:=by first | exact Or.inl rfl | exact Or.inr (Or.inl rfl) | exact Or.inr (Or.inr rfl))
  (hd:(x == ("__debug__":Str)) = false:=by decide) (om:(x == ("__classdict__":Str)) = false:=by decide)
  (hs:swapsWith (.Call (.Attribute (.Name x np) "append" ap) [e₀] [] cp) none pos.line X.env = pure false:=by rfl)
  (lU:attributeBase (.Name x np) "append" X.env (eval (.Name x np) X.env) = eval (.Name x np) X.env:=by rfl)
  (tL:((backTo cp (starEach [e₀] X.env)).all (fun x=>!x.1) && (backToKw cp (keywordEach [] X.env)).all (fun x=>x.1.isSome)
   && decide ([e₀].length + ([]:List Keyword).length + (if ([]:List Keyword).isEmpty then 0 else 1) < 30)) = true:=by rfl)
  (lV:(ap.endLine == cp.line) = true:=by rfl) (ym:starEach [e₀] X.env = (false,eval e₀ X.env) :: starEach [] X.env:=by rfl) (oq:(backTo cp (starEach [] X.env)).any (·.1) = false:=by rfl) :
  DS X (.Expr (.Call (.Attribute (.Name x np) "append" ap) [e₀] [] cp) pos) (FU i te) :=
 gc (wO (FH PySem.F.plainAttrs_list PySem.F.slot_list_append PySem.F.type_list_append qk (iM hN hv hd om) (jX he oo ym) lU tL lV ym oq) hs) fun F σ H hx=>hx.el fun n δ G E R h k=>by
  unfold FU at h
  split at h
  ·rename_i l0 e0
   obtain ⟨p,vs,g1,g2,g3,g4,g5⟩:=R.sl i _ e0
   refine ⟨.ref p,g1,.inl ⟨rfl,vs,gG.of g2⟩,n,δ,G,_,R,h,fun v G1 H1 d δ1 R1 s1 d1 h1=>?_⟩
   split at h1
   ·rename_i l1 e1
    obtain ⟨q,ws,k1,k2,k3,k4,k5⟩:=R1.sl i _ e1
    rw [g1] at k1; cases k1
    refine ⟨p,ws,v,rfl,rfl,k2,by rw [k5.length]; exact h1.1,?_⟩
    exact k.nx _ σ G1 _ (R1.change e1 g1 (k5.append (.cons d1 .nil))) h1.2
   ·exact h1.elim
  ·exact h.elim
noncomputable abbrev sP:=D→Ev→(Ev→Prop)→Prop
noncomputable def lG (K:PySem.W.Frag) (g:sP):TG:=fun v σ H Q2=>∃ (n:En) (δ:Ev) (G:Hp) (d:D) (Q:Ev→Prop),Rel K n δ σ G H∧Den K G v d∧g d δ Q ∧
 ∀ δ' σ',Rel K n δ' σ' G H→Q δ'→Q2 σ' H
theorem lG.el {K:PySem.W.Frag} {g:sP} {v σ H Q2} {P:Prop} (x:lG K g v σ H Q2) (k:∀ (n:En) (δ:Ev) (G:Hp) (d:D) (Q:Ev→Prop),(Rel K n δ σ G H)→(Den K G v d)→(g d δ Q)→(∀ δ' σ',Rel K n δ' σ' G H→Q δ'→Q2 σ' H)→P):P:=by
 obtain ⟨n,δ,G,d,Q,h0,h1,h2,h3⟩:=x
 exact k n δ G d Q h0 h1 h2 h3
noncomputable abbrev DG (X:Cx) (tg:Expr) (g:sP):Prop:=PG X tg (lG X.K g)
theorem FV {tg:Expr} {g g':TG} (h:PG X tg g) (hi:∀ v σ H Q,g' v σ H Q→g v σ H Q):PG X tg g':=fun pins s σ H x u Q I r q=>h pins s σ H x u Q I r (hi x σ H Q q)
noncomputable def cK (i:Nat):sP:=fun d δ Q=>Q (δ.set i (.sh d))
theorem cL (i:Nat) {x:Str} (hN:X.N.Nodup) (hi:X.N[i]? = some x:=by rfl) (hx:Loc X.env.scope x:=by first | exact Or.inl rfl | exact Or.inr rfl) (hf:X.fn x = true∨X.env.scope.names.lookup x = some .local:=by first | exact .inl rfl | exact .inr rfl | assumption):DG X (.Name x pos) (cK i) :=
 FV (wQ (i:=i) hN hi hx hf) fun v σ H Q2 hx=>hx.el fun n δ G d Q R hv h k=>k _ _ (R.set i hv) h
structure Jl (K:PySem.W.Frag) (G:Hp) (J:It) (l:List D):Prop where
 go:∀ (i:Nat) (G1 H1:Hp),av G G1→av G1 H1→i < l.length→J.go i H1
 yl:∀ (i:Nat) (G1 H1:Hp) (x:V) (H2:Hp),av G G1→av G1 H1→i < l.length→J.Q8 i H1 x H2→∃ (G2:Hp) (d:D),Ext G1 H1 G2 H2∧l[i]? = some d∧Den K G2 x d
 st:∀ (i:Nat) (G1 H1:Hp),av G G1→av G1 H1→l.length ≤ i→J.stop i H1
noncomputable abbrev oW:=Ev→(List D→Ev→Prop)→Prop
noncomputable def lI (K:PySem.W.Frag) (t:oW):TI:=fun σ H R2=>∃ (n:En) (δ:Ev) (G:Hp) (Q:List D→Ev→Prop),Rel K n δ σ G H∧t δ Q ∧
 ∀ (J:It) (G' H':Hp) (l:List D) (δ':Ev),Rel K n δ' σ G' H'→av G G'→Jl K G' J l→Q l δ'→R2 J H'
theorem lI.el {K:PySem.W.Frag} {t:oW} {σ H R2} {P:Prop} (x:lI K t σ H R2) (k:∀ (n:En) (δ:Ev) (G:Hp) (Q:List D→Ev→Prop),(Rel K n δ σ G H)→(t δ Q)→(∀ (J:It) (G' H':Hp) (l:List D) (δ':Ev),Rel K n δ' σ G' H'→av G G'→Jl K G' J l→Q l δ'→R2 J H')→P):P:=by
 obtain ⟨n,δ,G,Q,h0,h1,h2⟩:=x
 exact k n δ G Q h0 h1 h2
noncomputable abbrev DI (X:Cx) (tg iter:Expr) (t:oW):Prop:=PI X tg iter (lI X.K t)
theorem tU {tg iter:Expr} {t t':TI} (h:PI X tg iter t) (hi:∀ σ H Q,t' σ H Q→t σ H Q):PI X tg iter t':=fun pins s σ H R I q=>h pins s σ H R I (hi σ H R q)
theorem FW {K:PySem.W.Frag} {G:Hp} {a:Addr} {vs:List V} {l:List D} (h:gG K G a vs) (hl:aH K G vs l):Jl K G (Sn K a) l:=by
 have len:=hl.length
 refine ⟨fun i G1 H1 s1 s2 hi=>⟨vs,vs[i]'(by omega),(s1.trans s2).seq h,by simp⟩,fun i G1 H1 x H2 s1 s2 hi y=>?_,fun i G1 H1 s1 s2 hi=>⟨vs,(s1.trans s2).seq h,by omega⟩⟩
 obtain ⟨e,y⟩:=y
 subst e
 obtain ⟨d,hd,hx⟩:=hl.w6 (y vs ((s1.trans s2).seq h))
 exact ⟨G1,d,Ext.refl s2,hd,hx.up s1⟩
theorem Jm {K:PySem.W.Frag} {G:Hp} {a:Addr} {vs:List V} {l:List D} (h:kT K G a vs) (hl:aH K G vs l):Jl K G (So K a) l:=by
 have len:=hl.length
 refine ⟨fun i G1 H1 s1 s2 hi=>⟨vs,vs[i]'(by omega),av.tupS (s1.trans s2) h,by simp⟩,fun i G1 H1 x H2 s1 s2 hi y=>?_,fun i G1 H1 s1 s2 hi=>⟨vs,av.tupS (s1.trans s2) h,by omega⟩⟩
 obtain ⟨e,y⟩:=y
 subst e
 obtain ⟨d,hd,hx⟩:=hl.w6 (y vs (av.tupS (s1.trans s2) h))
 exact ⟨G1,d,Ext.refl s2,hd,hx.up s1⟩
noncomputable def bU (lo:Int) (k:Nat):List D:=(List.range k).map fun i=>D.int (lo + (i:Nat))
theorem vU {K:PySem.W.Frag} {G:Hp} {lo:Int} {k:Nat}:Jl K G (Oy lo k) (bU lo k):=by
 have len:(bU lo k).length = k:=by simp [bU]
 refine ⟨fun i G1 H1 s1 s2 hi=>by rw [len] at hi; exact hi,fun i G1 H1 x H2 s1 s2 hi y=>?_,fun i G1 H1 s1 s2 hi=>by rw [len] at hi; exact hi⟩
 obtain ⟨e,e2⟩:=y
 subst e e2
 rw [len] at hi
 exact ⟨G1,.int (lo + (i:Nat)),Ext.refl s2,by simp [bU,hi],.int _⟩
noncomputable def jz (ta:lK):oW:=fun δ Q=>ta δ fun ds δ1=>match ds with
 | [.int j]=>-(2 ^ 62) ≤ j∧j < 2 ^ 62∧Q (bU 0 j.toNat) δ1
 | _=>False
noncomputable def o8 (ta:lK):oW:=fun δ Q=>ta δ fun ds δ1=>match ds with
 | [.int i,.int j]=>(-(2 ^ 62) ≤ i∧i < 2 ^ 62∧-(2 ^ 62) ≤ j∧j < 2 ^ 62)∧Q (bU i (j - i).toNat) δ1
 | _=>False
theorem nh {tg a:Expr} {ta:lK} {p pos:Pos} (hm:X.mg "range" = none) (ha:DA X [a] ta) (hg:Gl X "range":=by rfl) (hs:starEach [a] X.env = [(false,eval a X.env)]:=by rfl):DI X tg (.Call (.Name "range" p) [a] [] pos) (jz ta) :=
 tU (DR hg hm ha hs) fun σ H R2 hx=>hx.el fun n δ G Q R h k=>⟨n,δ,G,_,R,h,fun vs G1 H1 ds δ1 R1 s1 d1 h1=>by
  split at h1
  ·cases d1 with | cons d1 d2=>cases d2; cases d1.int_inv; exact ⟨_,rfl,h1.1,h1.2.1,k _ G1 H1 _ δ1 R1 s1 vU h1.2.2⟩
  ·exact h1.elim⟩
theorem vV {tg a b:Expr} {ta:lK} {p pos:Pos} (hm:X.mg "range" = none) (ha:DA X [a,b] ta) (hg:Gl X "range":=by rfl) (hs:starEach [a,b] X.env = [(false,eval a X.env),(false,eval b X.env)]:=by rfl) (II:starEach [b] X.env = [(false,eval b X.env)]:=by rfl) :
  DI X tg (.Call (.Name "range" p) [a,b] [] pos) (o8 ta) :=
 tU (DU hg hm ha hs II) fun σ H R2 hx=>hx.el fun n δ G Q R h k=>⟨n,δ,G,_,R,h,fun vs G1 H1 ds δ1 R1 s1 d1 h1=>by
  split at h1
  ·cases d1 with | cons d1 d2=>cases d2 with | cons d2 d3=>cases d3; cases d1.int_inv; cases d2.int_inv; exact ⟨_,_,rfl,h1.1,k _ G1 H1 _ δ1 R1 s1 vU h1.2⟩
  ·exact h1.elim⟩
noncomputable def tV (ti:oW) (g:sP) (tb:bC):bC:=fun E δ=>ti δ fun items δ1=>∃ W:Nat→Ev→Prop,W 0 δ1 ∧
 (∀ (i:Nat) (d:D) (δ2:Ev),items[i]? = some d→W i δ2→g d δ2 fun δ3=>tb { E with nx:=W (i + 1),ct:=W (i + 1),bk:=E.nx } δ3)∧∀ δ2,W items.length δ2→E.nx δ2
theorem oz {tg iter:Expr} {body:List Stmt} {ti:oW} {g:sP} {tb:bC} (hp:PassesOwn (model X.prog X.w) X.A X.env X.xe) (hc:X.calm = true) (hi:DI X tg iter ti) (hg:DG X tg g) (hb:E5 X body tb)
  (hs:∀ x,foldedSetIterable iter X.env x = pure x:=by intro _; rfl):DS X (.For tg iter body [] pos) (tV ti g tb) :=
 gc (LU hp hc hi hg hb hs) fun F σ H hx=>hx.el fun n δ G E R h k=>⟨n,δ,G,_,R,h,fun J G1 H1 items δ1 R1 s1 j1 ⟨W,w0,step,fin⟩=>by
  refine ⟨fun i m σ H=>i ≤ items.length∧m = items.length - i∧∃ δ G,Rel X.K n δ σ G H∧av G1 G∧W i δ,⟨_,Nat.zero_le _,rfl,δ1,G1,R1,av.refl _,w0⟩,?_⟩
  rintro i m σ2 H2 ⟨hi,rfl,δ2,G2,R2,s2,w2⟩
  by_cases hl:i < items.length
  ·refine .inr ⟨j1.go i G2 H2 s2 R2.sub hl,fun σ' H'=>∃ δ G,Rel X.K n δ σ' G H'∧av G1 G∧W (i + 1) δ,fun σ' H' ⟨δ',G',R',s',w'⟩=>⟨items.length - (i + 1),by omega,hl,rfl,δ',G',R',s',w'⟩,fun x H3 y=>?_⟩
   obtain ⟨G3,d,e3,hd,dx⟩:=j1.yl i G2 H2 x H3 s2 R2.sub hl y
   have R3:=R2.ext e3
   have s3:av G1 G3:=s2.trans e3.gg
   refine ⟨⟨G3,n.H,n.M⟩,δ2,G3,d,_,R3.rebase,dx,step i d δ2 hd w2,fun δ4 σ4 R4 h4=>?_⟩
   refine ⟨⟨G3,n.H,n.M⟩,δ4,G3,_,R4,h4,⟨fun δ5 σ5 G5 H5 R5 h5=>⟨δ5,G5,R3.xa R5,s3.trans R5.eg,h5⟩,fun v d δ5 σ5 G5 H5 R5 d5 h5=>k.rt v d δ5 σ5 G5 H5 (R3.xa R5) d5 h5,
    fun δ5 σ5 G5 H5 R5 h5=>k.nx δ5 σ5 G5 H5 (R3.xa R5) h5,fun δ5 σ5 G5 H5 R5 h5=>⟨δ5,G5,R3.xa R5,s3.trans R5.eg,h5⟩⟩⟩
  ·have e:i = items.length:=by omega
   subst e
   exact .inl ⟨j1.st _ G2 H2 s2 R2.sub (Nat.le_refl _),k.nx δ2 σ2 G2 H2 R2 (fin δ2 w2)⟩⟩
noncomputable def tW (c:lB) (tb:bC):bC:=fun E δ=>∃ W:Nat→Ev→Prop,(∃ m,W m δ)∧∀ m δ1,W m δ1 →
 c δ1 fun b δ2=>if b = true then tb { E with nx:=fun δ'=>∃ m',m' < m∧W m' δ',ct:=fun δ'=>∃ m',m' < m∧W m' δ',bk:=E.nx } δ2 else E.nx δ2
theorem o9 {c:Expr} {body:List Stmt} {tc:lB} {tb:bC} (hp:PassesOwn (model X.prog X.w) X.A X.env X.xe) (hc:DT X c tc) (hb:E5 X body tb):DS X (.While c body [] pos) (tW tc tb) :=
 gc (Fj hp hc hb) fun F σ H ⟨n,δ,G,E,R,⟨W,⟨m0,w0⟩,step⟩,k⟩=>by
  refine ⟨fun m σ H=>∃ δ G,Rel X.K n δ σ G H∧W m δ,⟨m0,δ,G,R,w0⟩,?_⟩
  rintro m σ2 H2 ⟨δ2,G2,R2,w2⟩
  refine ⟨n,δ2,G2,_,R2,step m δ2 w2,fun c G3 H3 δ3 R3 s3 h3=>?_⟩
  cases c with
  | true =>
   refine D7 ⟨fun σ' H'=>∃ m',m' < m∧∃ δ G,Rel X.K n δ σ' G H'∧W m' δ,fun σ' H' z=>z,n,δ3,G3,_,R3,h3,⟨fun δ5 σ5 G5 H5 R5 ⟨m',hm,w5⟩=>⟨m',hm,δ5,G5,R5,w5⟩,k.rt,k.nx,fun δ5 σ5 G5 H5 R5 ⟨m',hm,w5⟩=>⟨m',hm,δ5,G5,R5,w5⟩⟩⟩
  | false=>exact D6 (k.nx δ3 σ2 G3 H3 R3 h3)
end
noncomputable def bu (N:List Str) (ds:List D):Ev:=ds.map Sl.sh ++ List.replicate (N.length - ds.length) Sl.no
theorem Ea {K:PySem.W.Frag} {N:List Str} {G H:Hp} {vs:List V} {ds:List D} (s:av G H) (h:aH K G vs ds):Rel K ⟨G,H,fun _=>False⟩ (bu N ds) (start N vs) G H:=by
 have len:=h.length
 refine ⟨s,av.refl _,fun b o e _=>e,fun b e=>e,fun b o e (e0:G b = none)=>(by rw [e0] at e; cases e),⟨fun _=>none,⟨fun _ _ z=>by cases z⟩,fun i sl hs=>?_⟩,?_⟩
 ·unfold bu at hs
  by_cases hi:i < ds.length
  ·rw [List.getElem?_append_left (by simpa using hi),List.getElem?_map] at hs
   cases q:ds[i]? with
   | none=>rw [q] at hs; cases hs
   | some d =>
    rw [q] at hs; cases hs
    obtain ⟨v,hv,dv⟩:=h.get q
    refine ⟨v,?_,dv⟩
    unfold L2.start
    rw [List.getElem?_append_left (by rw [List.length_map]; omega),List.getElem?_map,hv]; rfl
  ·rw [List.getElem?_append_right (by simpa using hi),List.getElem?_replicate] at hs
   split at hs
   ·cases hs; trivial
   ·cases hs
 ·simp [bu,L2.start,len]
section
variable {P:Program} {w:World} {K:PySem.W.Frag} {mg:Str→Option Value} {base:Heap}
theorem sQ {x qual:Str} {st:Stmt} {f:Addr} {fd:FuncData} {N ps:List Str} {k:Nat} {S:qm} (F:jU K x qual st f fd) (Sc:aK N ps (ag st)) (len:∀ ds Q,S ds Q→ds.length = ps.length)
  (tH:∀ (eu:Value) (A:Around) (outer:List Env) (s:Shared) (H:Hp) (E:XK),eD k (A.deeper (envOfC qual (ag st) s.heap.objs.size f eu)) →
   ∃ t,E5 (yx bT P w K mg base N qual (ag st) f eu A outer s H E).NV (aG st) t∧∀ ds Q,S ds Q→t { nx:=fun _=>Q .aU,rt:=fun d _=>Q d } (bu N ds)):aJ P w K mg base bT (k + 1) f fd ps (bp K S):=by
 refine F.ok Sc (fun vs H Q E ⟨G,ds,Qd,sub,dn,h,_⟩=>?_) (fun eu A outer s H vs Q E hr ⟨G,ds,Qd,sub,dn,h,kk⟩=>?_)
 ·rw [dn.length]; exact len ds Qd h
 ·obtain ⟨t,ht,hq⟩:=tH eu A outer s H E hr
  refine ⟨_,ht,⟨G,H,fun _=>False⟩,_,G,_,Ea (N:=N) sub dn,hq ds Qd h,⟨fun δ σ G' H' R' q=>?_,fun v d δ σ G' H' R' dv q=>?_,fun _ _ _ _ _ q=>q.elim,fun _ _ _ _ _ q=>q.elim⟩⟩
  ·exact kk .aU G' H' .aU ⟨R'.eg,R'.sub,fun b o e=>R'.eh b o e (fun z=>z),fun b o e e0=>R'.fr b o e e0⟩ .aU q
  ·exact kk v G' H' d ⟨R'.eg,R'.sub,fun b o e=>R'.eh b o e (fun z=>z),fun b o e e0=>R'.fr b o e e0⟩ dv q
end
end Dl
namespace Dl
open PySem PySem.Spec PyProof.Rows L2
mutual
noncomputable def D.py:D→PyData
 | .aU=>.none
 | .bl b=>.bool b
 | .int i=>.int i
 | .str x=>.str x
 | .tup l=>.tuple (D.yF l)
 | .lst l=>.list (D.yF l)
 | .pt _=>.none
noncomputable def D.yF:List D→List PyData
 | []=>[]
 | d :: r=>D.py d :: D.yF r
end
mutual
noncomputable def D.ok:D→Bool
 | .str x=>PyData.strOk x
 | .tup l=>D.FX l
 | .lst l=>D.FX l
 | .pt _=>false
 | _=>true
noncomputable def D.FX:List D→Bool
 | []=>true
 | d :: r=>D.ok d && D.FX r
end
mutual
noncomputable def D.dep:D→Nat
 | .tup l=>D.qp l + 1
 | .lst l=>D.qp l + 1
 | _=>0
noncomputable def D.qp:List D→Nat
 | []=>0
 | d :: r=>max (D.dep d) (D.qp r)
end
mutual
noncomputable def gX:D→D→Bool
 | .aU,.aU=>true
 | .bl a,.bl b=>a == b
 | .bl a,.int j=>(if a then 1 else 0) == j
 | .int i,.bl b=>i == (if b then 1 else 0)
 | .int i,.int j=>i == j
 | .str x,.str y=>x == y
 | .tup l,.tup m=>oA l m
 | .lst l,.lst m=>oA l m
 | .pt _,.pt _=>true
 | .pt _,.aU=>true
 | .aU,.pt _=>true
 | _,_=>false
noncomputable def oA:List D→List D→Bool
 | [],[]=>true
 | a :: l,b :: m=>gX a b && oA l m
 | _,_=>false
end
mutual
theorem tX:∀ d:D,d.ok = true→(D.py d).canLay0 = true
 | .aU,_=>rfl
 | .bl _,_=>rfl
 | .int _,_=>rfl
 | .str _,h=>h
 | .tup l,h=>tY l h
 | .lst l,h=>tY l h
 | .pt _,h=>by cases h
theorem tY:∀ l:List D,D.FX l = true→PyData.canLayAll0 (D.yF l) = true
 | [],_=>rfl
 | d :: r,h=>by
  have h':(D.ok d && D.FX r) = true:=h
  rw [Bool.and_eq_true] at h'
  show (PyData.canLay0 (D.py d) && PyData.canLayAll0 (D.yF r)) = true
  rw [tX d h'.1,tY r h'.2]; rfl
end
mutual
theorem oB:∀ d:D,(D.py d).depth = d.dep
 | .aU=>rfl
 | .bl _=>rfl
 | .int _=>rfl
 | .str _=>rfl
 | .tup l=>by show PyData.depthAll (D.yF l) + 1 = D.qp l + 1; rw [pe l]
 | .lst l=>by show PyData.depthAll (D.yF l) + 1 = D.qp l + 1; rw [pe l]
 | .pt _=>rfl
theorem pe:∀ l:List D,PyData.depthAll (D.yF l) = D.qp l
 | []=>rfl
 | d :: r=>by show max (PyData.depth (D.py d)) (PyData.depthAll (D.yF r)) = max (D.dep d) (D.qp r); rw [oB d,pe r]
end
mutual
theorem CI:∀ d e:D,PyData.eqv (D.py d) (D.py e) = gX d e
 | .tup l,.tup m=>Bc l m
 | .lst l,.lst m=>Bc l m
 | .aU,e=>by cases e <;> rfl
 | .bl _,e=>by cases e <;> rfl
 | .int _,e=>by cases e <;> rfl
 | .str _,e=>by cases e <;> rfl
 | .tup _,.aU=>rfl
 | .tup _,.bl _=>rfl
 | .tup _,.int _=>rfl
 | .tup _,.str _=>rfl
 | .tup _,.lst _=>rfl
 | .lst _,.aU=>rfl
 | .lst _,.bl _=>rfl
 | .lst _,.int _=>rfl
 | .lst _,.str _=>rfl
 | .lst _,.tup _=>rfl
 | .tup _,.pt _=>rfl
 | .lst _,.pt _=>rfl
 | .pt _,e=>by cases e <;> rfl
theorem Bc:∀ l m:List D,PyData.eqvAll (D.yF l) (D.yF m) = oA l m
 | [],[]=>rfl
 | [],_ :: _=>rfl
 | _ :: _,[]=>rfl
 | d :: l,e :: m=>by
  show (PyData.eqv (D.py d) (D.py e) && PyData.eqvAll (D.yF l) (D.yF m)) = (gX d e && oA l m)
  rw [CI d e,Bc l m]
end
section
variable {X:Cx} {pins:List (Addr × Obj)} {σ:L2.St} {G H:Hp} {s:Shared}
mutual
theorem Den.reads (I:Inv X pins σ H s) (sub:av G H):∀ {v:V} {d:D} {u:Value},Den X.K G v d→RelV v u→d.ok = true→∃ as,Reads s.heap u (D.py d) as
 | _,_,_,.aU,r,_=>by cases r; exact ⟨_,.none⟩
 | _,_,_,.pt a,r,z=>by cases z
 | _,_,_,.bl b,r,_=>by cases r; exact ⟨_,.bool b⟩
 | _,_,_,.int i,r,_=>by obtain ⟨t,rfl⟩:=r; exact ⟨_,.int i t⟩
 | _,_,_,.str x,r,_=>by obtain ⟨t,rfl⟩:=r; exact ⟨_,.str x t⟩
 | _,_,_,.tup h l,r,z=>by
  cases r
  obtain ⟨its,rv,⟨o,ho,hc,n,hd⟩,_⟩:=I.tuple (av.tupS sub h)
  obtain ⟨as,ra⟩:=aH.reads I sub l rv z
  exact ⟨as,.tuple ho hc hd (by simpa using ra)⟩
 | _,_,_,.lst h l,r,z=>by
  cases r
  obtain ⟨its,rv,⟨o,n,ho,hc,_,hd⟩,_⟩:=I.list (sub.seq h)
  obtain ⟨as,ra⟩:=aH.reads I sub l rv z
  exact ⟨_,.list ho hc hd (by simpa using ra)⟩
theorem aH.reads (I:Inv X pins σ H s) (sub:av G H):∀ {vs:List V} {ds:List D} {us:List Value},aH X.K G vs ds→Vals vs us→D.FX ds = true→∃ as,ReadsAll s.heap us (D.yF ds) as
 | _,_,_,.nil,r,_=>by cases r; exact ⟨_,.nil⟩
 | _,_,_,.cons (d:=d) (ds:=ds) h t,.cons r1 r2,z=>by
  have z:(D.ok d && D.FX ds) = true:=z
  rw [Bool.and_eq_true] at z
  obtain ⟨as,h1⟩:=Den.reads I sub h r1 z.1
  obtain ⟨bs,h2⟩:=aH.reads I sub t r2 z.2
  exact ⟨_,.cons h1 h2⟩
end
end
section
variable {X:Cx}
noncomputable def j5 (d e:D):Prop:=d.ok = true∧e.ok = true∧min d.dep e.dep ≤ 60
noncomputable def FY (K:PySem.W.Frag) (f:D→D→Bool):R2:=fun x y H Q=>∃ G dx dy,av G H∧Den K G x dx∧Den K G y dy∧j5 dx dy∧Q (.bl (f dx dy)) H
theorem vW (hu:X.A.units + 64 < cLine):jW X (compareOp .Eq) (FY X.K gX):=by
 rintro pins s σ H x y v u Q I rx ry ⟨G,dx,dy,sub,hx,hy,⟨o1,o2,o3⟩,q⟩
 obtain ⟨as,ra⟩:=hx.reads I sub rx o1
 obtain ⟨bs,rb⟩:=hy.reads I sub ry o2
 refine PySem.SeqAt.compareEq_reads ra rb (tX _ o1) (tX _ o2) (by rw [oB,oB]; omega) ?_
 rw [CI]
 exact ⟨.bl _,H,I,rfl,q⟩
theorem Eb (hu:X.A.units + 64 < cLine):jW X (compareOp .NotEq) (FY X.K fun d e=>!gX d e):=by
 rintro pins s σ H x y v u Q I rx ry ⟨G,dx,dy,sub,hx,hy,⟨o1,o2,o3⟩,q⟩
 obtain ⟨as,ra⟩:=hx.reads I sub rx o1
 obtain ⟨bs,rb⟩:=hy.reads I sub ry o2
 refine PySem.SeqAt.compareNe_reads ra rb (tX _ o1) (tX _ o2) (by rw [oB,oB]; omega) ?_
 rw [CI]
 exact ⟨.bl _,H,I,rfl,q⟩
noncomputable def gY:RD:=fun x y Q=>j5 x y∧Q (.bl (gX x y))
noncomputable def ve:RD:=fun x y Q=>j5 x y∧Q (.bl (!gX x y))
theorem xh {K:PySem.W.Frag} {f:D→D→Bool}:AH K (FY K f) (fun x y Q=>j5 x y∧Q (.bl (f x y))):=fun G H x y dx dy Q Q2 s hx hy h k =>
 ⟨G,dx,dy,s,hx,hy,h.1,k _ G H _ (Ext.refl s) (.bl _) h.2⟩
variable {a b:Expr} {ta tb:cx} {pos:Pos}
theorem CJ (hu:X.A.units + 64 < cLine) (ha:DE X a ta) (hb:DE X b tb) (hm:behindInMarks .Eq b = false:=by first | exact iN _ | rfl):DE X (.Compare a [.Eq] [b] pos) (aD gY ta tb):=A6 (vW hu) xh ha hb hm
theorem fY (hu:X.A.units + 64 < cLine) (ha:DE X a ta) (hb:DE X b tb) (hm:behindInMarks .Eq b = false:=by first | exact iN _ | rfl):DT X (.Compare a [.Eq] [b] pos) (dB (aD gY ta tb)):=lW (vW hu) xh ha hb hm
theorem rf (hu:X.A.units + 64 < cLine) (ha:DE X a ta) (hb:DE X b tb) (hm:behindInMarks .NotEq b = false:=by first | exact iN _ | rfl):DT X (.Compare a [.NotEq] [b] pos) (dB (aD ve ta tb)):=lW (Eb hu) xh ha hb hm
noncomputable def qr (g:Int→Int→D):RD:=fun x y Q=>match x,y with
 | .int i,.int j=>Q (g i j)
 | _,_=>False
noncomputable def jV (C:Int→Int→Prop) (g:Int→Int→D):RD:=fun x y Q=>match x,y with
 | .int i,.int j=>C i j∧Q (g i j)
 | _,_=>False
theorem yG {K:PySem.W.Frag} {g:Int→Int→V} {gd:Int→Int→D} (hg:∀ i j G,Den K G (g i j) (gd i j)):AH K (CB g) (qr gd):=fun G H x y dx dy Q Q2 s hx hy h k=>by
 unfold qr at h
 split at h
 ·cases hx.int_inv; cases hy.int_inv
  exact ⟨_,_,rfl,rfl,k _ G H _ (Ext.refl s) (hg _ _ _) h⟩
 ·exact h.elim
theorem FZ {K:PySem.W.Frag} {C:Int→Int→Prop} {g:Int→Int→V} {gd:Int→Int→D} (hg:∀ i j G,Den K G (g i j) (gd i j)):AH K (rI C g) (jV C gd):=fun G H x y dx dy Q Q2 s hx hy h k=>by
 unfold jV at h
 split at h
 ·cases hx.int_inv; cases hy.int_inv
  exact ⟨_,_,rfl,rfl,h.1,k _ G H _ (Ext.refl s) (hg _ _ _) h.2⟩
 ·exact h.elim
theorem j6 (ha:DE X a ta) (hb:DE X b tb):DE X (.BinOp a .Sub b pos) (aD (qr fun i j=>.int (i - j)) ta tb):=tN L0 (yG fun _ _ _=>.int _) ha hb
theorem gZ (ha:DE X a ta) (hb:DE X b tb):DE X (.BinOp a .Mod b pos) (aD (jV (fun _ j=>0 < j) fun i j=>.int (i % j)) ta tb):=tN L3 (FZ fun _ _ _=>.int _) ha hb
theorem iq (ha:DE X a ta) (hb:DE X b tb):DE X (.BinOp a .FloorDiv b pos) (aD (jV tB fun i j=>.int (i / j)) ta tb):=tN IK (FZ fun _ _ _=>.int _) ha hb
theorem OY (ha:DE X a ta) (hb:DE X b tb) (hm:behindInMarks .Gt b = false:=by first | exact iN _ | rfl):DE X (.Compare a [.Gt] [b] pos) (aD (qr fun i j=>.bl (decide (j < i))) ta tb):=A6 KQ (yG fun _ _ _=>.bl _) ha hb hm
theorem Ga (ha:DE X a ta) (hb:DE X b tb) (hm:behindInMarks .Lt b = false:=by first | exact iN _ | rfl):DT X (.Compare a [.Lt] [b] pos) (dB (aD (qr fun i j=>.bl (decide (i < j))) ta tb)):=lW KO (yG fun _ _ _=>.bl _) ha hb hm
theorem CK (ha:DE X a ta) (hb:DE X b tb) (hm:behindInMarks .LtE b = false:=by first | exact iN _ | rfl):DT X (.Compare a [.LtE] [b] pos) (dB (aD (qr fun i j=>.bl (decide (i ≤ j))) ta tb)):=lW KP (yG fun _ _ _=>.bl _) ha hb hm
theorem K2 (ha:DE X a ta) (hb:DE X b tb) (hm:behindInMarks .Gt b = false:=by first | exact iN _ | rfl):DT X (.Compare a [.Gt] [b] pos) (dB (aD (qr fun i j=>.bl (decide (j < i))) ta tb)):=lW KQ (yG fun _ _ _=>.bl _) ha hb hm
noncomputable def jm:D→Bool
 | .aU=>true
 | _=>false
noncomputable def Bd:RD:=fun x y Q=>match y with
 | .aU=>Q (.bl (jm x))
 | _=>False
noncomputable def lY:RD:=fun x y Q=>match y with
 | .aU=>Q (.bl (!jm x))
 | _=>False
theorem Gb {K:PySem.W.Frag} {G:Hp} {v:V} {d:D} (h:Den K G v d):decide (v = .aU) = jm d:=by cases h <;> simp [jm]
theorem Ml {K:PySem.W.Frag}:AH K (fun x y H Q=>y = .aU∧Q (.bl (decide (x = .aU))) H) Bd:=fun G H x y dx dy Q Q2 s hx hy h k=>by
 unfold Bd at h
 split at h
 ·exact ⟨hy.w9,k _ G H _ (Ext.refl s) (by rw [Gb hx]; exact .bl _) h⟩
 ·exact h.elim
theorem Jn {K:PySem.W.Frag}:AH K (fun x y H Q=>y = .aU∧Q (.bl (!decide (x = .aU))) H) lY:=fun G H x y dx dy Q Q2 s hx hy h k=>by
 unfold lY at h
 split at h
 ·exact ⟨hy.w9,k _ G H _ (Ext.refl s) (by rw [Gb hx]; exact .bl _) h⟩
 ·exact h.elim
theorem Gd (ha:DE X a ta) (hb:DE X b tb) (hm:behindInMarks .Is b = false:=by first | exact iN _ | rfl):DT X (.Compare a [.Is] [b] pos) (dB (aD Bd ta tb)):=lW L4 Ml ha hb hm
theorem iO (ha:DE X a ta) (hb:DE X b tb) (hm:behindInMarks .IsNot b = false:=by first | exact iN _ | rfl):DT X (.Compare a [.IsNot] [b] pos) (dB (aD lY ta tb)):=lW IL Jn ha hb hm
noncomputable def CL:RD:=fun x y Q=>match x,y with
 | .int i,.int j=>Q (.int (i + j))
 | .tup l,.tup m=>l.length + m.length ≤ sizeLine∧Q (.tup (l ++ m))
 | .lst l,.lst m=>l.length + m.length ≤ sizeLine∧Q (.lst (l ++ m))
 | .str i,.str j=>i.length + j.length ≤ sizeLine∧Q (.str (i ++ j))
 | _,_=>False
noncomputable def Ge (K:PySem.W.Frag):R2:=fun x y H Q=>∃ l b xs zs,x = .ref l∧y = .ref b∧gG K H l xs∧gG K H b zs∧xs.length + zs.length ≤ sizeLine∧∀ p,H p = none→Q (.ref p) (upd H p (.lst (xs ++ zs)))
noncomputable def Be (K:PySem.W.Frag):R2:=fun x y H Q=>∃ a b ys,x = .ref a∧y = .ref b∧kT K H a []∧kT K H b ys∧Q (.ref b) H
theorem Jo:jW X (binaryOp .Add) (Ge X.K):=by
 intro pins s σ H x y v u Q I rx ry h
 obtain ⟨l,b,xs,zs,rfl,rfl,hH,hB,hz,q⟩:=h
 cases rx
 cases ry
 obtain ⟨its,r,pl,z⟩:=I.list hH
 obtain ⟨vb,r2,SO,z2⟩:=I.list hB
 obtain ⟨⟨cls,dd,data,sl⟩,ho,hc,n,hd⟩:=pl.isList
 obtain ⟨⟨L9,IX,data2,Iq⟩,Ir,A1,n2,hd2⟩:=SO.isList
 simp only at hc hd A1 hd2
 subst hc hd A1 hd2
 have e:its.toArray ++ vb.toArray = (its ++ vb).toArray:=by simp
 refine concat_meets ⟨_,ho,rfl⟩ ⟨_,Ir,rfl⟩ noFill_list_add seq_list_add PySem.F.slot_list_add PySem.F.entry_list_add (PySem.F.args_list_add_2 _ _) (list_addW l b its.toArray vb.toArray n n2 dd IX sl Iq (by rw [List.size_toArray,List.size_toArray,← r.length,← r2.length]; exact hz)) ⟨ho,Ir,?_⟩
 rw [e]
 exact ⟨.ref _,_,I.Je (t':=s.toks) (r.append r2) (by rw [List.length_append]; omega),rfl,q _ I.fresh⟩
theorem Gf:jW X (binaryOp .Add) (Be X.K):=by
 intro pins s σ H x y v u Q I rx ry h
 obtain ⟨a,b,ys,rfl,rfl,ha,hb,q⟩:=h
 cases rx
 cases ry
 obtain ⟨its,r1,p1,_⟩:=I.tuple ha
 obtain ⟨vb,r2,p2,_⟩:=I.tuple hb
 cases r1
 obtain ⟨⟨cls,dd,data,sl⟩,ho,hc,n,hd⟩:=id p1
 obtain ⟨⟨L9,IX,data2,Iq⟩,Ir,A1,n2,hd2⟩:=id p2
 simp only at hc hd A1 hd2
 subst hc hd A1 hd2
 exact concat_meets ⟨_,ho,rfl⟩ ⟨_,Ir,rfl⟩ noFill_tuple_add seq_tuple_add PySem.F.slot_tuple_add PySem.F.entry_tuple_add (PySem.F.args_tuple_add_2 _ _)
   (tuple_addW0 a b #[] vb.toArray n n2 dd IX sl Iq rfl) ⟨ho,Ir,⟨.ref b,H,I,rfl,q⟩⟩
theorem Ec:jW X (binaryOp .Add) (fun x y H Q=>CB (fun i j=>.int (i + j)) x y H Q∨Be X.K x y H Q∨FF X.K x y H Q∨Ge X.K x y H Q∨∃ i j,x = .str i∧y = .str j∧i.length + j.length ≤ sizeLine∧Q (.str (i ++ j)) H) :=
 jW.or LZ (jW.or Gf (jW.or Ja (jW.or Jo AR)))
theorem Mm {K:PySem.W.Frag}:AH K (fun x y H Q=>CB (fun i j=>.int (i + j)) x y H Q∨Be K x y H Q∨FF K x y H Q∨Ge K x y H Q∨∃ i j,x = .str i∧y = .str j∧i.length + j.length ≤ sizeLine∧Q (.str (i ++ j)) H) CL:=fun G H x y dx dy Q Q2 s hx hy h k=>by
 unfold CL at h
 split at h
 ·cases hx.int_inv; cases hy.int_inv
  exact .inl ⟨_,_,rfl,rfl,k _ G H _ (Ext.refl s) (.int _) h⟩
 ·obtain ⟨a,vs,rfl,ha,la⟩:=hx.gA
  obtain ⟨b,ws,rfl,hb,lb⟩:=hy.gA
  cases la with
  | nil=>exact .inr (.inl ⟨a,b,ws,rfl,rfl,av.tupS s ha,av.tupS s hb,k _ G H _ (Ext.refl s) hy h.2⟩)
  | @cons v d vs l d1 la =>
   refine .inr (.inr (.inl ⟨a,b,_,ws,rfl,rfl,av.tupS s ha,av.tupS s hb,by simp,by rw [(aH.cons d1 la).length,lb.length]; exact h.1,fun e=>?_,fun _ p hp=>?_⟩))
   ·subst e
    cases lb
    refine k _ G H _ (Ext.refl s) hx ?_
    have:=h.2
    rwa [List.append_nil] at this
   ·exact k _ _ _ _ (Ext.laid s hp _) (.tup (kT.of aq) ((aH.append (aH.cons d1 la) lb).up (aC (s.free hp) _))) h.2
 ·obtain ⟨a,vs,rfl,ha,la⟩:=hx.lst_inv
  obtain ⟨b,ws,rfl,hb,lb⟩:=hy.lst_inv
  exact .inr (.inr (.inr (.inl ⟨a,b,vs,ws,rfl,rfl,s.seq ha,s.seq hb,by rw [la.length,lb.length]; exact h.1,fun p hp =>
   k _ _ _ _ (Ext.laid s hp _) (.lst (gG.of aq) ((la.append lb).up (aC (s.free hp) _))) h.2⟩)))
 ·cases hx.str_inv; cases hy.str_inv
  exact .inr (.inr (.inr (.inr ⟨_,_,rfl,rfl,h.1,k _ G H _ (Ext.refl s) (.str _) h.2⟩)))
 ·exact h.elim
theorem gi (ha:DE X a ta) (hb:DE X b tb):DE X (.BinOp a .Mult b pos) (aD (jV lz fun i j=>.int (i * j)) ta tb):=tN L1 (FZ fun _ _ _=>.int _) ha hb
noncomputable def Ed:RD:=fun x y Q=>match x,y with
 | .tup l,.int i=>match oV l i with
  | some d=>Q d
  | none=>False
 | .lst l,.int i=>match oV l i with
  | some d=>Q d
  | none=>False
 | _,_=>False
theorem CM {K:PySem.W.Frag} {G:Hp} {vs:List V} {l:List D} {i:Int} {d:D} (h:aH K G vs l) (e:oV l i = some d):∃ v,oV vs i = some v∧Den K G v d:=by
 unfold oV at e ⊢
 rw [h.length]
 cases q:KZ l.length i with
 | none=>(rw [q] at e; cases e)
 | some j =>
  rw [q] at e
  obtain ⟨v,h1,h2⟩:=h.get (i:=j) e
  exact ⟨v,h1,h2⟩
theorem OZ {K:PySem.W.Frag}:AH K (SG K) Ed:=fun G H x y dx dy Q Q2 s hx hy h k=>by
 unfold Ed at h
 split at h
 ·obtain ⟨a,vs,rfl,ha,la⟩:=hx.gA
  cases hy.int_inv
  split at h
  ·rename_i d e
   obtain ⟨v,h1,h2⟩:=CM la e
   exact .inr (.inl ⟨a,vs,_,v,rfl,rfl,av.tupS s ha,h1,k _ G H _ (Ext.refl s) h2 h⟩)
  ·exact h.elim
 ·obtain ⟨a,vs,rfl,ha,la⟩:=hx.lst_inv
  cases hy.int_inv
  split at h
  ·rename_i d e
   obtain ⟨v,h1,h2⟩:=CM la e
   exact .inl ⟨a,vs,_,v,rfl,rfl,s.seq ha,h1,k _ G H _ (Ext.refl s) h2 h⟩
  ·exact h.elim
 ·exact h.elim
noncomputable abbrev Mn:=Ev→(Option Int→Ev→Prop)→Prop
noncomputable def lO (K:PySem.W.Frag) (t:Mn):TO:=fun σ H Q2=>∃ (n:En) (δ:Ev) (G:Hp) (Q:Option Int→Ev→Prop),Rel K n δ σ G H∧t δ Q ∧
 ∀ (o:Option Int) (G' H':Hp) (δ':Ev),Rel K n δ' σ G' H'→av G G'→Q o δ'→Q2 o H'
theorem lO.el {K:PySem.W.Frag} {t:Mn} {σ H Q2} {P:Prop} (x:lO K t σ H Q2) (k:∀ (n:En) (δ:Ev) (G:Hp) (Q:Option Int→Ev→Prop),(Rel K n δ σ G H)→(t δ Q)→(∀ (o:Option Int) (G' H':Hp) (δ':Ev),Rel K n δ' σ G' H'→av G G'→Q o δ'→Q2 o H')→P):P:=by
 obtain ⟨n,δ,G,Q,h0,h1,h2⟩:=x
 exact k n δ G Q h0 h1 h2
noncomputable abbrev DO (X:Cx) (e:Option Expr) (t:Mn):Prop:=PO X e (lO X.K t)
theorem Gg {e:Option Expr} {t t':TO} (h:PO X e t) (hi:∀ σ H Q,t' σ H Q→t σ H Q):PO X e t':=fun pins s σ H Q I q=>h pins s σ H Q I (hi σ H Q q)
noncomputable def xi:Mn:=fun δ Q=>Q none δ
noncomputable def Gh (t:cx):Mn:=fun δ Q=>t δ fun x δ1=>match x with
 | .int i=>Q (some i) δ1
 | _=>False
theorem Jp:DO X none xi:=Gg IZ fun σ H Q2 hx=>hx.el fun n δ G Q R h k=>k none G H δ R (av.refl _) h
theorem Jq (ha:DE X a ta):DO X (some a) (Gh ta):=Gg (I0 ha) fun σ H Q2 hx=>hx.el fun n δ G Q R h k=>⟨n,δ,G,_,R,h,fun v G1 H1 d δ1 R1 s1 d1 h1=>by
 cases d with
 | int i=>exact ⟨i,d1.int_inv,k _ G1 H1 δ1 R1 s1 h1⟩
 | _=>exact h1.elim⟩
noncomputable def cutD (xs:List D) (lo hi:Option Int):List D:=(xs.drop (HT.eB xs.length 0 lo)).take (HT.eB xs.length xs.length hi - HT.eB xs.length 0 lo)
theorem CN {K:PySem.W.Frag} {G:Hp} {vs:List V} {l:List D} (h:aH K G vs l) (lo hi:Option Int):aH K G (yz vs lo hi) (cutD l lo hi):=by
 unfold yz cutD
 rw [h.length]
 exact (h.drop _).take _
theorem Iu.or {r r':V→Option Int→Option Int→Hp→VK→Prop} (h:Iu X r) (h':Iu X r'):Iu X (fun x l u H Q=>r x l u H Q∨r' x l u H Q) :=
 fun pins s σ H x v vl vu lo hi sl Q I rx hs pl pu q=>q.elim (h pins s σ H x v vl vu lo hi sl Q I rx hs pl pu) (h' pins s σ H x v vl vu lo hi sl Q I rx hs pl pu)
noncomputable def inD (d:D) (l:List D):Bool:=l.any fun y=>gX y d
theorem Gi (d:D):∀ l:List D,((D.yF l).any fun y=>PyData.eqv y (D.py d)) = inD d l
 | []=>rfl
 | e :: r=>by
  show (PyData.eqv (D.py e) (D.py d) || (D.yF r).any fun y=>PyData.eqv y (D.py d)) = (gX e d || r.any fun y=>gX y d)
  rw [CI,Gi d r]; rfl
noncomputable def okIn (d:D) (l:List D):Prop:=d.ok = true∧D.FX l = true∧min (D.qp l) d.dep ≤ 60
noncomputable def O0 (K:PySem.W.Frag) (neg:Bool):R2:=fun x y H Q=>∃ G dx l,av G H∧Den K G x dx∧(Den K G y (.lst l)∨Den K G y (.tup l))∧okIn dx l∧Q (.bl (if neg then !inD dx l else inD dx l)) H
theorem Gj (hu:X.A.units + 64 < cLine):jW X (compareOp .In) (O0 X.K false):=by
 rintro pins s σ H x y v u Q I rx ry ⟨G,dx,l,sub,hx,hy,⟨o1,o2,o3⟩,q⟩
 obtain ⟨as,ra⟩:=hx.reads I sub rx o1
 have fin:EP X pins σ Q (.bool ((D.yF l).any fun y=>PyData.eqv y (D.py dx))) s:=by rw [Gi]; exact ⟨.bl _,H,I,rfl,q⟩
 rcases hy with hy | hy
 ·obtain ⟨bs,rb⟩:=hy.reads I sub ry o2
  exact PySem.SeqAt.in_list_reads rb ra (tY _ o2) (tX _ o1) (by rw [oB,pe]; omega) fin
 ·obtain ⟨bs,rb⟩:=hy.reads I sub ry o2
  exact PySem.SeqAt.in_tuple_reads rb ra (tY _ o2) (tX _ o1) (by rw [oB,pe]; omega) fin
noncomputable def Jr (neg:Bool):RD:=fun x y Q=>match y with
 | .lst l=>okIn x l∧Q (.bl (if neg then !inD x l else inD x l))
 | .tup l=>okIn x l∧Q (.bl (if neg then !inD x l else inD x l))
 | _=>False
theorem K3 {K:PySem.W.Frag} {neg:Bool}:AH K (O0 K neg) (Jr neg):=fun G H x y dx dy Q Q2 s hx hy h k=>by
 unfold Jr at h
 split at h
 ·exact ⟨G,dx,_,s,hx,.inl hy,h.1,k _ G H _ (Ext.refl s) (.bl _) h.2⟩
 ·exact ⟨G,dx,_,s,hx,.inr hy,h.1,k _ G H _ (Ext.refl s) (.bl _) h.2⟩
 ·exact h.elim
variable {x:Str} {p:Pos} {e e2:Expr} {es:List Expr} {t:lK}
noncomputable def yH:RC:=fun ds Q=>match ds with
 | [.int i,.int j]=>Q (.int (max i j))
 | _=>False
noncomputable def Gk:RC:=fun ds Q=>match ds with
 | [.int i,.int j]=>Q (.int (min i j))
 | _=>False
theorem K4 {K:PySem.W.Frag} {G:Hp} {xs:List V} {i j:Int} (h:aH K G xs [.int i,.int j]):xs = [.int i,.int j]:=by
 cases h with | cons h1 h2=>cases h2 with | cons h2 h3=>cases h3; cases h1; cases h2; rfl
theorem rh {K:PySem.W.Frag} {G:Hp} {xs:List V} {d:D} (h:aH K G xs [d]):∃ v,xs = [v]∧Den K G v d:=by
 cases h with | cons h1 h2=>cases h2; exact ⟨_,rfl,h1⟩
theorem Mo {K:PySem.W.Frag}:kU K (fun xs H Q=>∃ i j,xs = [.int i,.int j]∧Q (.int (if j > i then j else i)) H) yH:=fun G H xs ds Q Q2 s hd h k=>by
 unfold yH at h
 split at h
 ·rename_i i j
  refine ⟨i,j,K4 hd,k _ G H _ (Ext.refl s) ?_ h⟩
  have:(if j > i then j else i) = max i j:=by split <;> omega
  rw [this]; exact .int _
 ·exact h.elim
theorem Mp {K:PySem.W.Frag}:kU K (fun xs H Q=>∃ i j,xs = [.int i,.int j]∧Q (.int (if j < i then j else i)) H) Gk:=fun G H xs ds Q Q2 s hd h k=>by
 unfold Gk at h
 split at h
 ·rename_i i j
  refine ⟨i,j,K4 hd,k _ G H _ (Ext.refl s) ?_ h⟩
  have:(if j < i then j else i) = min i j:=by split <;> omega
  rw [this]; exact .int _
 ·exact h.elim
theorem xj (hc:X.calm = true) (hm:X.mg "max" = none) (ha:DA X (e :: es) t) (hg:Gl X "max":=by rfl) (he:starEach (e :: es) X.env = (false,eval e X.env) :: starEach es X.env:=by rfl) (lJ:(backTo pos (starEach es X.env)).any (·.1) = false:=by rfl):DE X (.Call (.Name "max" p) (e :: es) [] pos) (ay yH t) :=
 jx (DY hc) Mo hm (by rfl) ha hg (by decide) (by decide) he lJ
theorem Mq (hc:X.calm = true) (hm:X.mg "min" = none) (ha:DA X (e :: es) t) (hg:Gl X "min":=by rfl) (he:starEach (e :: es) X.env = (false,eval e X.env) :: starEach es X.env:=by rfl) (lJ:(backTo pos (starEach es X.env)).any (·.1) = false:=by rfl):DE X (.Call (.Name "min" p) (e :: es) [] pos) (ay Gk t) :=
 jx (DZ hc) Mp hm (by rfl) ha hg (by decide) (by decide) he lJ
noncomputable def Js:RC:=fun ds Q=>match ds with
 | [.lst l]=>Q (.int l.length)
 | [.tup l]=>Q (.int l.length)
 | _=>False
theorem Mr {K:PySem.W.Frag}:kU K (fun xs H Q=>∃ p ys,xs = [.ref p]∧(gG K H p ys∨kT K H p ys)∧Q (.int ys.length) H) Js:=fun G H xs ds Q Q2 s hd h k=>by
 unfold Js at h
 split at h
 ·obtain ⟨v,rfl,d1⟩:=rh hd
  obtain ⟨a,vs,rfl,ha,la⟩:=d1.lst_inv
  exact ⟨a,vs,rfl,.inl (s.seq ha),k _ G H _ (Ext.refl s) (by rw [la.length]; exact .int _) h⟩
 ·obtain ⟨v,rfl,d1⟩:=rh hd
  obtain ⟨a,vs,rfl,ha,la⟩:=d1.gA
  exact ⟨a,vs,rfl,.inr (av.tupS s ha),k _ G H _ (Ext.refl s) (by rw [la.length]; exact .int _) h⟩
 ·exact h.elim
noncomputable def xk:RC:=fun ds Q=>match ds with
 | [.lst l]=>Q (.tup l)
 | [.tup l]=>Q (.tup l)
 | _=>False
theorem Gm {K:PySem.W.Frag}:kU K (fun xs H Q=>∃ p ys,xs = [.ref p]∧((gG K H p ys∧∀ l,H l = none→Q (.ref l) (upd H l (.tup ys)))∨(kT K H p ys∧Q (.ref p) H))) xk:=fun G H xs ds Q Q2 s hd h k=>by
 unfold xk at h
 split at h
 ·obtain ⟨v,rfl,d1⟩:=rh hd
  obtain ⟨a,vs,rfl,ha,la⟩:=d1.lst_inv
  exact ⟨a,vs,rfl,.inl ⟨s.seq ha,fun q hq=>k _ _ _ _ (Ext.laid s hq _) (.tup (kT.of aq) (la.up (aC (s.free hq) _))) h⟩⟩
 ·obtain ⟨v,rfl,d1⟩:=rh hd
  obtain ⟨a,vs,rfl,ha,la⟩:=d1.gA
  exact ⟨a,vs,rfl,.inr ⟨av.tupS s ha,k _ G H _ (Ext.refl s) d1 h⟩⟩
 ·exact h.elim
end
end Dl
namespace Dl
open PySem PySem.Spec PyProof.Rows L2
section
variable {X:Cx} {te:cx} {a:Expr} {ta:cx} {pos:Pos}
noncomputable def SQ (K:PySem.W.Frag) (tl:TE):TI:=fun σ H R=>tl σ H fun x H1=>∃ a,x = .ref a∧(((∃ xs,gG K H1 a xs)∧R (Sn K a) H1)∨((∃ xs,kT K H1 a xs)∧R (So K a) H1))
theorem Ms {tg l:Expr} {tl:TE} (hl:PE X l tl):PI X tg l (SQ X.K tl):=by
 intro pins s σ H R I h
 refine cP (hl pins s σ H _ I h) fun v s1 ⟨x,H1,I1,r1,q1⟩=>?_
 obtain ⟨a,e,q⟩:=q1
 subst e
 cases r1
 have fp:∀ b ∈ [s1.heap.objs.size],lP X pins H1 b:=fun b hb=>by
  have e:b = s1.heap.objs.size:=by simpa using hb
  subst e
  exact I1.Fm (Nat.le_refl _) (I1.bE.fresh (Nat.le_refl _))
 rcases q with ⟨⟨xs,hq⟩,q⟩ | ⟨⟨xs,hq⟩,q⟩
 ·obtain ⟨its,rv,p,hz⟩:=I1.list hq
  refine wpAny_pyIter_list p.isList ?_
  exact ⟨s1.heap.objs.size,[s1.heap.objs.size],_,_,H1,rfl,I1.kept (t':=s1.toks) fun b o e=>Heap.get?_push_of_some _ e,DQ a _,⟨_,Heap.get?_push_size _ rfl,rfl,rfl⟩,fp,q⟩
 ·obtain ⟨its,rv,p,hz⟩:=I1.tuple hq
  refine wpAny_pyIter_tuple (show s1.heap.IsTuple a its.toArray from p) ?_
  exact ⟨s1.heap.objs.size,[s1.heap.objs.size],_,_,H1,rfl,I1.kept (t':=s1.toks) fun b o e=>Heap.get?_push_of_some _ e,AN a _,⟨_,Heap.get?_push_size _ rfl,rfl,rfl⟩,fp,q⟩
noncomputable def SR (r:D→(D→Prop)→Prop) (ta:cx):cx:=fun δ Q=>ta δ fun x δ1=>r x fun d=>Q d δ1
noncomputable def Gn:D→(D→Prop)→Prop:=fun x Q=>match x with
 | .int i=>Q (.int (-i))
 | _=>False
theorem Mt (ha:DE X a ta):DE X (.UnaryOp .USub a pos) (SR Gn ta) :=
 bx (KN Fp ha) fun σ H Q2 hx=>hx.el fun n δ G Q R h k=>⟨n,δ,G,_,R,h,fun v G1 H1 d δ1 R1 s1 d1 h1=>by
  cases d with
  | int i=>exact ⟨i,d1.int_inv,k _ G1 H1 _ δ1 R1 s1 (.int _) h1⟩
  | _=>exact h1.elim⟩
end
theorem sz0:(0 ≤ sizeLine) = True:=eq_true (by decide)
theorem E6:(1 ≤ sizeLine) = True:=eq_true (by decide)
theorem O1:(2 ≤ sizeLine) = True:=eq_true (by decide)
theorem sz3:(3 ≤ sizeLine) = True:=eq_true (by decide)
theorem sz4:(4 ≤ sizeLine) = True:=eq_true (by decide)
theorem sz5:(5 ≤ sizeLine) = True:=eq_true (by decide)
theorem sz6:(6 ≤ sizeLine) = True:=eq_true (by decide)
theorem sz7:(7 ≤ sizeLine) = True:=eq_true (by decide)
theorem sz8:(8 ≤ sizeLine) = True:=eq_true (by decide)
theorem sz9:(9 ≤ sizeLine) = True:=eq_true (by decide)
theorem SS:(10 ≤ sizeLine) = True:=eq_true (by decide)
theorem SU:(11 ≤ sizeLine) = True:=eq_true (by decide)
theorem SV:(12 ≤ sizeLine) = True:=eq_true (by decide)
theorem SW:(13 ≤ sizeLine) = True:=eq_true (by decide)
theorem SX:(14 ≤ sizeLine) = True:=eq_true (by decide)
theorem SY:(15 ≤ sizeLine) = True:=eq_true (by decide)
theorem S0:(16 ≤ sizeLine) = True:=eq_true (by decide)
theorem S1:(17 ≤ sizeLine) = True:=eq_true (by decide)
theorem S2:(18 ≤ sizeLine) = True:=eq_true (by decide)
theorem S3:(19 ≤ sizeLine) = True:=eq_true (by decide)
theorem S4:(20 ≤ sizeLine) = True:=eq_true (by decide)
theorem S5:(21 ≤ sizeLine) = True:=eq_true (by decide)
theorem S6:(22 ≤ sizeLine) = True:=eq_true (by decide)
theorem S8:(23 ≤ sizeLine) = True:=eq_true (by decide)
theorem S9:(24 ≤ sizeLine) = True:=eq_true (by decide)
theorem Ta:(25 ≤ sizeLine) = True:=eq_true (by decide)
theorem Tb:(26 ≤ sizeLine) = True:=eq_true (by decide)
theorem Tc:(27 ≤ sizeLine) = True:=eq_true (by decide)
theorem Td:(28 ≤ sizeLine) = True:=eq_true (by decide)
theorem Te:(29 ≤ sizeLine) = True:=eq_true (by decide)
theorem Tf:(30 ≤ sizeLine) = True:=eq_true (by decide)
theorem ir {d e:D} (h1:d.ok = true) (h2:e.ok = true) (h3:min d.dep e.dep ≤ 60):j5 d e = True:=eq_true ⟨h1,h2,h3⟩
theorem xl:j5 (D.aU) (D.aU) = True:=ir rfl rfl (Nat.le_of_lt_succ (by decide:0 < 61))
theorem yI {b:Bool}:j5 (D.aU) (D.bl b) = True:=ir rfl rfl (Nat.le_of_lt_succ (by decide:0 < 61))
theorem xm {j:Int}:j5 (D.aU) (D.int j) = True:=ir rfl rfl (Nat.le_of_lt_succ (by decide:0 < 61))
theorem yJ {a:Bool}:j5 (D.bl a) (D.aU) = True:=ir rfl rfl (Nat.le_of_lt_succ (by decide:0 < 61))
theorem Bf {a:Bool} {b:Bool}:j5 (D.bl a) (D.bl b) = True:=ir rfl rfl (Nat.le_of_lt_succ (by decide:0 < 61))
theorem yK {a:Bool} {j:Int}:j5 (D.bl a) (D.int j) = True:=ir rfl rfl (Nat.le_of_lt_succ (by decide:0 < 61))
theorem xn {i:Int}:j5 (D.int i) (D.aU) = True:=ir rfl rfl (Nat.le_of_lt_succ (by decide:0 < 61))
theorem yL {i:Int} {b:Bool}:j5 (D.int i) (D.bl b) = True:=ir rfl rfl (Nat.le_of_lt_succ (by decide:0 < 61))
theorem xo {i:Int} {j:Int}:j5 (D.int i) (D.int j) = True:=ir rfl rfl (Nat.le_of_lt_succ (by decide:0 < 61))
theorem j7 (W:Nat→Ev→Prop) {ti:oW} {g:sP} {tb:bC} {E:tR} {δ:Ev} (items:List D) (δ1:Ev) (h0:∀ Q:List D→Ev→Prop,Q items δ1→ti δ Q) (w0:W 0 δ1)
  (step:∀ (i:Nat) (d:D) (δ2:Ev),items[i]? = some d→W i δ2→g d δ2 fun δ3=>tb { E with nx:=W (i + 1),ct:=W (i + 1),bk:=E.nx } δ3) (fin:∀ δ2,W items.length δ2→E.nx δ2):tV ti g tb E δ:=h0 _ ⟨W,w0,step,fin⟩
end Dl
namespace Dl
open PySem PySem.Spec PyProof.Rows L2
noncomputable def rF (f:D→D→Option D):RD:=fun x y Q=>∃ d,f x y = some d∧Q d
noncomputable def xp:D→Option (List D)
 | .lst l=>some l
 | .tup l=>some l
 | _=>none
noncomputable def bD:D→D→Option D
 | .int i,.int j=>some (.int (i + j))
 | .tup l,.tup m=>if l.length + m.length ≤ sizeLine then some (.tup (l ++ m)) else none
 | .lst l,.lst m=>if l.length + m.length ≤ sizeLine then some (.lst (l ++ m)) else none
 | .str i,.str j=>if i.length + j.length ≤ sizeLine then some (.str (i ++ j)) else none
 | _,_=>none
noncomputable def eC:D→D→Option D
 | .lst l,.int i=>oV l i
 | .tup l,.int i=>oV l i
 | _,_=>none
noncomputable def Bg (neg:Bool):RD:=fun x y Q=>∃ l,xp y = some l∧okIn x l∧Q (.bl (if neg then !inD x l else inD x l))
noncomputable def ph:RC:=fun ds Q=>match ds with
 | [d]=>∃ l,xp d = some l∧Q (.int l.length)
 | _=>False
noncomputable def ni:RC:=fun ds Q=>match ds with
 | [d]=>∃ l,xp d = some l∧Q (.tup l)
 | _=>False
noncomputable def dw (te:cx):oW:=fun δ Q=>te δ fun d δ1=>∃ l,xp d = some l∧Q l δ1
noncomputable def yM:D→Option Bool
 | .aU=>some false
 | .bl b=>some b
 | .int i=>some (i != 0)
 | .str y=>if y.length ≤ sizeLine then some ((y.length:Int) != 0) else none
 | .tup l=>some (!l.isEmpty)
 | .lst l=>some (!l.isEmpty)
 | .pt _=>none
noncomputable def nG (t:cx):lB:=fun δ Q=>t δ fun x δ1=>∃ b,yM x = some b∧Q b δ1
noncomputable def Tg:D→Option Int→Option Int→Option D
 | .lst l,lo,hi=>some (.lst (cutD l lo hi))
 | .tup l,lo,hi=>some (.tup (cutD l lo hi))
 | _,_,_=>none
section
variable {X:Cx} {a b:Expr} {ta tb te:cx} {pos:Pos}
theorem xq {K:PySem.W.Frag} {r2:R2} {r r':RD} (h:AH K r2 r) (hi:∀ x y Q,r' x y Q→r x y Q):AH K r2 r':=fun G H x y dx dy Q Q2 s hx hy q k=>h G H x y dx dy Q Q2 s hx hy (hi dx dy Q q) k
theorem Gp {K:PySem.W.Frag} {r2:List V→Hp→VK→Prop} {r r':RC} (h:kU K r2 r) (hi:∀ ds Q,r' ds Q→r ds Q):kU K r2 r':=fun G H xs ds Q Q2 s hd q k=>h G H xs ds Q Q2 s hd (hi ds Q q) k
theorem jA {d:D} {l:List D} (h:xp d = some l):d = .lst l∨d = .tup l:=by
 cases d <;> simp only [xp,Option.some.injEq,reduceCtorEq] at h
 ·subst h; exact .inr rfl
 ·subst h; exact .inl rfl
theorem Jt:∀ x y Q,rF bD x y Q→CL x y Q:=by
 rintro x y Q ⟨d,e,q⟩
 unfold bD at e
 split at e
 ·cases e; exact q
 ·split at e
  ·cases e; exact ⟨by assumption,q⟩
  ·cases e
 ·split at e
  ·cases e; exact ⟨by assumption,q⟩
  ·cases e
 ·split at e
  ·cases e; exact ⟨by assumption,q⟩
  ·cases e
 ·cases e
theorem Mu:∀ x y Q,rF eC x y Q→Ed x y Q:=by
 rintro x y Q ⟨d,e,q⟩
 unfold eC at e
 split at e
 ·simp only [Ed,e]; exact q
 ·simp only [Ed,e]; exact q
 ·cases e
theorem Gq {neg:Bool}:∀ x y Q,Bg neg x y Q→Jr neg x y Q:=by
 rintro x y Q ⟨l,e,q⟩
 rcases jA e with rfl | rfl <;> exact q
theorem Ju:∀ ds Q,ph ds Q→Js ds Q:=by
 intro ds Q h
 unfold ph at h
 split at h
 ·obtain ⟨l,e,q⟩:=h
  rcases jA e with rfl | rfl <;> exact q
 ·exact h.elim
theorem Ee:∀ ds Q,ni ds Q→xk ds Q:=by
 intro ds Q h
 unfold ni at h
 split at h
 ·obtain ⟨l,e,q⟩:=h
  rcases jA e with rfl | rfl <;> exact q
 ·exact h.elim
theorem Jv {d:D} {Q:Bool→Prop} (h:∃ b,yM d = some b∧Q b):Mj d Q:=by
 obtain ⟨b,e,q⟩:=h
 unfold yM at e
 split at e
 ·cases e; exact q
 ·cases e; exact q
 ·cases e; exact q
 ·split at e
  ·cases e; exact ⟨by assumption,q⟩
  ·cases e
 ·cases e; exact q
 ·cases e; exact q
 ·cases e
theorem aE (ha:DE X a ta) (hb:DE X b tb):DE X (.BinOp a .Add b pos) (aD (rF bD) ta tb):=tN Ec (xq Mm Jt) ha hb
theorem aA (ha:DE X a ta) (hb:DE X b tb) (hp:sM b:=by exact fun _ _=>rfl):DE X (.Subscript a b pos) (aD (rF eC) ta tb):=FP FG (xq OZ Mu) ha hb hp
theorem Mv (hu:X.A.units + 64 < cLine) (ha:DE X a ta) (hb:DE X b tb) (hm:behindInMarks .In b = false:=by first | exact iN _ | rfl):DE X (.Compare a [.In] [b] pos) (aD (Bg false) ta tb):=A6 (Gj hu) (xq K3 Gq) ha hb hm
theorem Gr (hu:X.A.units + 64 < cLine) (ha:DE X a ta) (hb:DE X b tb) (hm:behindInMarks .In b = false:=by first | exact iN _ | rfl):DT X (.Compare a [.In] [b] pos) (dB (aD (Bg false) ta tb)):=lW (Gj hu) (xq K3 Gq) ha hb hm
theorem i6 (ha:DE X a ta) (he:∀ whole,isTrue a X.env whole = (do let v ← whole; standAt a.pos; holding [v] (truthy v)):=by intro _; rfl):DT X a (nG ta) :=
 xc (Fu ha he) fun σ H Q2 hx=>hx.el fun n δ G Q R h k=>⟨n,δ,G,_,R,h,fun v G1 H1 d δ1 R1 s1 d1 h1=>by
  obtain ⟨b,hb,hq⟩:=Jj R1.sub d1 (Jv h1)
  exact ⟨b,hb,k b G1 H1 δ1 R1 s1 hq⟩⟩
theorem dP {tg l:Expr} (hl:DE X l te):DI X tg l (dw te) :=
 tU (Ms hl) fun σ H R2 hx=>hx.el fun n δ G Q R h k=>⟨n,δ,G,_,R,h,fun v G1 H1 d δ1 R1 s1 d1 ⟨l,e,h1⟩=>by
  rcases jA e with rfl | rfl
  ·obtain ⟨a,vs,rfl,hq,hl⟩:=d1.lst_inv
   exact ⟨a,rfl,.inl ⟨⟨vs,R1.sub.seq hq⟩,k _ G1 H1 l δ1 R1 s1 (FW hq hl) h1⟩⟩
  ·obtain ⟨a,vs,rfl,hq,hl⟩:=d1.gA
   exact ⟨a,rfl,.inr ⟨⟨vs,av.tupS R1.sub hq⟩,k _ G1 H1 l δ1 R1 s1 (Jm hq hl) h1⟩⟩⟩
variable {p:Pos} {e:Expr} {es:List Expr} {t:lK}
theorem pj (hm:X.mg "len" = none) (ha:DA X (e :: es) t) (hg:Gl X "len":=by rfl) (he:starEach (e :: es) X.env = (false,eval e X.env) :: starEach es X.env:=by rfl) (lJ:(backTo pos (starEach es X.env)).any (·.1) = false:=by rfl):DE X (.Call (.Name "len" p) (e :: es) [] pos) (ay ph t) :=
 jx wZ (Gp Mr Ju) hm PySem.boot_len ha hg (by decide) (by decide) he lJ
theorem vX (hm:X.mg "tuple" = none) (ha:DA X (e :: es) t) (hg:Gl X "tuple":=by rfl) (he:starEach (e :: es) X.env = (false,eval e X.env) :: starEach es X.env:=by rfl) (lJ:(backTo pos (starEach es X.env)).any (·.1) = false:=by rfl):DE X (.Call (.Name "tuple" p) (e :: es) [] pos) (ay ni t) :=
 D8 vd (Gp Gm Ee) hm (by rfl) ha hg (by decide) (by decide) he lJ
end
theorem O2 {α:Type} {d:α} {l:List α}:oV (d :: l) 0 = some d:=il (j:=0) rfl
theorem O3 {α:Type} {d d1:α} {l:List α}:oV (d :: d1 :: l) 1 = some d1:=il (j:=1) rfl
theorem O4 {α:Type} {d d1 d2:α} {l:List α}:oV (d :: d1 :: d2 :: l) 2 = some d2:=il (j:=2) rfl
theorem O5 {α:Type} {d d1 d2 d3:α} {l:List α}:oV (d :: d1 :: d2 :: d3 :: l) 3 = some d3:=il (j:=3) rfl
theorem O6 {α:Type} {d d1 d2 d3 d4:α} {l:List α}:oV (d :: d1 :: d2 :: d3 :: d4 :: l) 4 = some d4:=il (j:=4) rfl
theorem O7 {α:Type} {d d1 d2 d3 d4 d5:α} {l:List α}:oV (d :: d1 :: d2 :: d3 :: d4 :: d5 :: l) 5 = some d5:=il (j:=5) rfl
theorem yN:gX (D.aU) (D.aU) = true:=rfl
theorem Bh {y:Bool}:gX (D.aU) (D.bl y) = false:=rfl
theorem yO {y:Int}:gX (D.aU) (D.int y) = false:=rfl
theorem yP {y:Str}:gX (D.aU) (D.str y) = false:=rfl
theorem yQ {y:List D}:gX (D.aU) (D.tup y) = false:=rfl
theorem yR {y:List D}:gX (D.aU) (D.lst y) = false:=rfl
theorem Bi {x:Bool}:gX (D.bl x) (D.aU) = false:=rfl
theorem Ef {x:Bool} {y:Bool}:gX (D.bl x) (D.bl y) = (x == y):=rfl
theorem Bj {x:Bool} {y:Int}:gX (D.bl x) (D.int y) = ((if x then 1 else 0) == y):=rfl
theorem Bk {x:Bool} {y:Str}:gX (D.bl x) (D.str y) = false:=rfl
theorem Bl {x:Bool} {y:List D}:gX (D.bl x) (D.tup y) = false:=rfl
theorem Bm {x:Bool} {y:List D}:gX (D.bl x) (D.lst y) = false:=rfl
theorem yS {x:Int}:gX (D.int x) (D.aU) = false:=rfl
theorem Bn {x:Int} {y:Bool}:gX (D.int x) (D.bl y) = (x == (if y then 1 else 0)):=rfl
theorem ri {x:Int} {y:Int}:gX (D.int x) (D.int y) = (x == y):=rfl
theorem yT {x:Int} {y:Str}:gX (D.int x) (D.str y) = false:=rfl
theorem yU {x:Int} {y:List D}:gX (D.int x) (D.tup y) = false:=rfl
theorem yV {x:Int} {y:List D}:gX (D.int x) (D.lst y) = false:=rfl
theorem yW {x:Str}:gX (D.str x) (D.aU) = false:=rfl
theorem Bo {x:Str} {y:Bool}:gX (D.str x) (D.bl y) = false:=rfl
theorem yX {x:Str} {y:Int}:gX (D.str x) (D.int y) = false:=rfl
theorem yY {x:Str} {y:Str}:gX (D.str x) (D.str y) = (x == y):=rfl
theorem yZ {x:Str} {y:List D}:gX (D.str x) (D.tup y) = false:=rfl
theorem y8 {x:Str} {y:List D}:gX (D.str x) (D.lst y) = false:=rfl
theorem y9 {x:List D}:gX (D.tup x) (D.aU) = false:=rfl
theorem Bp {x:List D} {y:Bool}:gX (D.tup x) (D.bl y) = false:=rfl
theorem za {x:List D} {y:Int}:gX (D.tup x) (D.int y) = false:=rfl
theorem zb {x:List D} {y:Str}:gX (D.tup x) (D.str y) = false:=rfl
theorem zc {x:List D} {y:List D}:gX (D.tup x) (D.tup y) = oA x y:=rfl
theorem zd {x:List D} {y:List D}:gX (D.tup x) (D.lst y) = false:=rfl
theorem ze {x:List D}:gX (D.lst x) (D.aU) = false:=rfl
theorem Bq {x:List D} {y:Bool}:gX (D.lst x) (D.bl y) = false:=rfl
theorem zf {x:List D} {y:Int}:gX (D.lst x) (D.int y) = false:=rfl
theorem zg {x:List D} {y:Str}:gX (D.lst x) (D.str y) = false:=rfl
theorem zh {x:List D} {y:List D}:gX (D.lst x) (D.tup y) = false:=rfl
theorem zi {x:List D} {y:List D}:gX (D.lst x) (D.lst y) = oA x y:=rfl
theorem xr:oA [] [] = true:=rfl
theorem vf {d:D} {l:List D}:oA [] (d :: l) = false:=rfl
theorem vg {d:D} {l:List D}:oA (d :: l) [] = false:=rfl
theorem tZ {d e:D} {l m:List D}:oA (d :: l) (e :: m) = (gX d e && oA l m):=rfl
theorem Br:jm .aU = true:=rfl
theorem Bs {i:Int}:jm (.int i) = false:=rfl
theorem Eg {i:Bool}:jm (.bl i) = false:=rfl
theorem Bt {i:Str}:jm (.str i) = false:=rfl
theorem Bu {i:List D}:jm (.tup i) = false:=rfl
theorem Bv {i:List D}:jm (.lst i) = false:=rfl
theorem Gu {i j:Int}:bD (.int i) (.int j) = some (.int (i + j)):=rfl
theorem Gv {l m:List D}:bD (.tup l) (.tup m) = if l.length + m.length ≤ sizeLine then some (.tup (l ++ m)) else none:=rfl
theorem Gw {l m:List D}:bD (.lst l) (.lst m) = if l.length + m.length ≤ sizeLine then some (.lst (l ++ m)) else none:=rfl
theorem Gx {i j:Str}:bD (.str i) (.str j) = if i.length + j.length ≤ sizeLine then some (.str (i ++ j)) else none:=rfl
theorem Jw {l:List D} {i:Int}:eC (.tup l) (.int i) = oV l i:=rfl
theorem Jx {l:List D} {i:Int}:eC (.lst l) (.int i) = oV l i:=rfl
theorem Gy {l:List D}:xp (.tup l) = some l:=rfl
theorem Gz {l:List D}:xp (.lst l) = some l:=rfl
theorem GA:yM .aU = some false:=rfl
theorem Jy {b:Bool}:yM (.bl b) = some b:=rfl
theorem GB {i:Int}:yM (.int i) = some (i != 0):=rfl
theorem GC {l:List D}:yM (.tup l) = some (!l.isEmpty):=rfl
theorem GD {l:List D}:yM (.lst l) = some (!l.isEmpty):=rfl
theorem Jz {l:List D} {lo hi:Option Int}:Tg (.lst l) lo hi = some (.lst (cutD l lo hi)):=rfl
theorem JA {l:List D} {lo hi:Option Int}:Tg (.tup l) lo hi = some (.tup (cutD l lo hi)):=rfl
end Dl
namespace Dl
open PySem PySem.Spec PyProof.Rows L2
theorem xt {env:PySem.Env}:∀ (names:List (Str × NameKind)) (cs:List (Str × Addr)),(∀ x ∈ names,x.2 = NameKind.free→∃ c,env.cells.lookup x.1 = some c) →
  (∀ x c,cs.lookup x = some c→env.cells.lookup x = some c) →
  ∃ cl,(forIn names cs fun x r=>if (x.snd == NameKind.free) = true then do let c ← cellOf env x.fst; pure (ForInStep.yield ((x.fst,c) :: r)) else pure (ForInStep.yield r):Sem (List (Str × Addr))) = pure cl ∧
   (∀ x c,cl.lookup x = some c→env.cells.lookup x = some c)∧∀ x,((∃ c,cs.lookup x = some c)∨(x,NameKind.free) ∈ names)→∃ c,cl.lookup x = some c
 | [],cs,_,h=>⟨cs,rfl,h,fun x hx=>hx.elim id fun z=>absurd z (by simp)⟩
 | (n,k) :: r,cs,hf,h=>by
  by_cases hk:k = .free
  ·subst hk
   obtain ⟨c,hc⟩:=hf (n,.free) List.mem_cons_self rfl
   obtain ⟨cl,e,h1,h2⟩:=xt r ((n,c) :: cs) (fun x hx=>hf x (List.mem_cons_of_mem _ hx)) (fun x d hx=>by
    rw [List.lookup_cons] at hx
    split at hx
    ·rename_i q; cases hx; rw [eq_of_beq q]; exact hc
    ·exact h x d hx)
   refine ⟨cl,?_,h1,fun x hx=>h2 x ?_⟩
   ·rw [List.forIn_cons,← e]
    have e0:cellOf env n = pure c:=by unfold cellOf; rw [hc]
    simp only [beq_self_eq_true,if_true,e0]
    rfl
   ·rcases hx with ⟨d,hx⟩ | hx
    ·left
     rw [List.lookup_cons]
     split
     ·exact ⟨_,rfl⟩
     ·exact ⟨d,hx⟩
    ·rcases List.mem_cons.mp hx with z | z
     ·cases z
      left
      exact ⟨c,by rw [List.lookup_cons,beq_self_eq_true]⟩
     ·exact .inr z
  ·obtain ⟨cl,e,h1,h2⟩:=xt r cs (fun x hx=>hf x (List.mem_cons_of_mem _ hx)) h
   refine ⟨cl,?_,h1,fun x hx=>h2 x ?_⟩
   ·rw [List.forIn_cons,← e]
    have:(k == NameKind.free) = false:=by simpa using hk
    simp only [this,Bool.false_eq_true,if_false]
    rfl
   ·rcases hx with hx | hx
    ·exact .inl hx
    ·rcases List.mem_cons.mp hx with z | z
     ·cases z; exact absurd rfl hk
     ·exact .inr z
theorem CO {env:PySem.Env} {scope:Scope} (hf:∀ x ∈ scope.names,x.2 = NameKind.free→∃ c,env.cells.lookup x.1 = some c) :
  ∃ cl,closureFor scope env = pure cl∧(∀ x c,cl.lookup x = some c→env.cells.lookup x = some c)∧∀ x,(x,NameKind.free) ∈ scope.names→∃ c,cl.lookup x = some c:=by
 obtain ⟨cl,e,h1,h2⟩:=xt scope.names [] hf (fun x c h=>by simp at h)
 refine ⟨cl,?_,h1,fun x hx=>h2 x (.inr hx)⟩
 simp only [closureFor]
 rw [e]
 rfl
theorem bR {env:PySem.Env} {x:Str}:∀ {names:List (Str × NameKind)},
  (names.map fun (n,k)=>if (k == NameKind.free && env.scope.kind == .function && env.kindOf n == some .cell) then (n,NameKind.cell) else (n,k)).lookup x =
   (names.lookup x).map fun k=>if (k == NameKind.free && env.scope.kind == .function && env.kindOf x == some .cell) then NameKind.cell else k
 | []=>rfl
 | (n,k) :: r=>by
  have ih:=@bR env x r
  rw [List.map_cons]
  by_cases hx:x = n
  ·subst hx
   have e1:List.lookup x ((x,k) :: r) = some k:=by rw [List.lookup_cons,beq_self_eq_true]
   rw [e1,Option.map_some]
   dsimp only
   split
   ·rw [List.lookup_cons,beq_self_eq_true]
   ·rw [List.lookup_cons,beq_self_eq_true]
  ·have hb:(x == n) = false:=by simpa using hx
   have e1:List.lookup x ((n,k) :: r) = List.lookup x r:=by rw [List.lookup_cons,hb]
   rw [e1,← ih]
   dsimp only
   split
   ·rw [List.lookup_cons,hb]
   ·rw [List.lookup_cons,hb]
theorem bO {x:Str} {k:NameKind}:∀ {names:List (Str × NameKind)},names.lookup x = some k→(x,k) ∈ names
 | [],h=>by simp at h
 | (n,j) :: r,h=>by
  rw [List.lookup_cons] at h
  split at h
  ·rename_i q; cases h; rw [eq_of_beq q]; exact List.mem_cons_self
  ·exact List.mem_cons_of_mem _ (bO h)
theorem qt:∀ (names:List (Str × NameKind)) (n:Nat) (acc:List (Str × Addr)),cellsFrom n names acc = cellsFrom n names [] ++ acc
 | [],_,_=>rfl
 | (x,k) :: r,n,acc=>by
  unfold cellsFrom
  split
  ·rw [qt r (n + 1) ((x,n) :: acc),qt r (n + 1) [(x,n)],List.append_assoc]; rfl
  ·exact qt r n acc
theorem Bw {x:Str} {c:Addr}:∀ (names:List (Str × NameKind)) (n:Nat),(x,c) ∈ cellsFrom n names []→(x,NameKind.cell) ∈ names
 | [],_,h=>nomatch h
 | (y,k) :: r,n,h=>by
  unfold cellsFrom at h
  split at h
  ·rename_i hk
   rw [qt] at h
   rcases List.mem_append.mp h with h | h
   ·exact List.mem_cons_of_mem _ (Bw r (n + 1) h)
   ·rw [List.mem_singleton] at h
    cases h
    rw [eq_of_beq hk]
    exact List.mem_cons_self
  ·exact List.mem_cons_of_mem _ (Bw r n h)
theorem nH {M:Model} {A:Around} {E:Value→Shared→Prop} {s:Shared} {scope:Scope} {g:Addr} {cl:List (Str × Addr)} {q:Str} {env:PySem.Env} {Q:PySem.Env→Shared→Prop}
  (h:Q (newEnv scope s.heap.objs.size g (cellsFrom (s.heap.objs.size + 1) scope.names cl) q none .none (some env) builtinsNs) { s with heap:=pushCells (s.heap.push { cls:=.type "dict",data:=.dict #[] }) scope.names }) :
  wpAny M A (newFunctionEnv scope g cl [] q none .none (some env)) Q E s:=by
 simp only [newFunctionEnv,Option.isSome_some,if_true]
 refine wpAny_bind (wpAny_alloc ?_)
 refine wpAny_bind (wpAny_layCells _ (fun name kind cells=>by cases hkc:kind == NameKind.cell <;> simp [hkc]) _ _ _ _ ?_)
 rw [show ({ s with heap:=s.heap.push { cls:=.type "dict",data:=.dict #[] } }:Shared).heap.objs.size = s.heap.objs.size + 1 from Heap.size_push ..]
 exact wpAny_bind (by rw [List.forIn_nil]; exact wpAny_pure (wpAny_pure h))
structure O8 (scope:Scope) (own:List (Str × Addr)) (L:Addr) (h:Heap):Prop where
 new:∀ x c,own.lookup x = some c→L < c∧h.IsCell c none
 apart:own.Pairwise fun x y=>x.2 ≠ y.2
 has:∀ x,scope.names.lookup x = some .cell→∃ c,own.lookup x = some c
 free:∀ x,(x,NameKind.free) ∈ scope.names→own.lookup x = none
theorem CP {scope:Scope} {h:Heap} (hd:∀ x,(x,NameKind.free) ∈ scope.names→(x,NameKind.cell) ∉ scope.names) :
  O8 scope (cellsFrom (h.objs.size + 1) scope.names []) h.objs.size (pushCells (h.push { cls:=.type "dict",data:=.dict #[] }) scope.names):=by
 have ok:=cellsFrom_ok scope.names (h.push { cls:=.type "dict",data:=.dict #[] }) (h.objs.size + 1) [] ⟨fun _ _ hm=>(nomatch hm),List.Pairwise.nil⟩ (by rw [Heap.size_push]; exact Nat.le_refl _)
 rw [Heap.size_push] at ok
 refine ⟨fun x c e=>⟨(ok.empty x c (PySem.mem_of_lookup e)).2,(ok.empty x c (PySem.mem_of_lookup e)).1⟩,ok.apart,fun x e=>Option.isSome_iff_exists.mp (PySem.W.cellsFrom_some _ _ _ (.inl e)),fun x hx=>?_⟩
 cases q:(cellsFrom (h.objs.size + 1) scope.names []).lookup x with
 | none=>rfl
 | some c=>exact absurd (Bw _ _ (PySem.mem_of_lookup q)) (hd x hx)
noncomputable def aB (X:Cx) (N:List Str) (scope:Scope) (cl:List (Str × Addr)) (C:Addr) (ex:List Addr) (s:Shared) (H:Hp):Cx where
 prog:=X.prog
 w:=X.w
 K:=X.K
 mg:=X.mg
 base:=X.base
 A:=X.A
 N:=N
 s₀:=s
 H₀:=H
 env:=compEnvC scope cl C X.env
 outer:=X.stack
 stack:=X.stack
 ex:=ex
 fn:=fun x=>scope.names.lookup x == some .cell
 calm:=X.calm
 pn:=[]
 xe:=fun _ _=>False
section
variable {X:Cx} {pins:List (Addr × Obj)} {σ:L2.St} {H:Hp} {s:Shared} {N':List Str} {scope:Scope} {cl:List (Str × Addr)} {fp:List Addr} {k:Nat} {h₁:Heap} {tk:Nat}
theorem zj {own:List (Str × Addr)} (I:Inv X pins σ H s) (gH:scope.kind = .function) (vh:∀ x c,cl.lookup x = some c→X.env.cells.lookup x = some c) (vi:∀ x,(x,NameKind.free) ∈ scope.names→∃ c,cl.lookup x = some c)
  (ow:O8 scope own s.heap.objs.size h₁) (hN:N'.length = X.N.length + k)
  (lZ:∀ (i:Nat) (x:Str),N'[i]? = some x→i < X.N.length→rQ (relabel scope X.env) x→X.N[i]? = some x∧scope.names.lookup x = some .free∧X.env.scope.names.lookup x = some .cell)
  (f:∀ b ∈ fp,lP X pins H b) (fo:∀ b ∈ fp,b < s.heap.objs.size) (Ra:h₁.Ns s.heap.objs.size fun _=>none) (hk:∀ b o,s.heap.get? b = some o→h₁.get? b = some o) :
  Inv (aB X N' scope (own ++ cl) s.heap.objs.size fp s H) [] (σ ++ List.replicate k none) H { s with heap:=h₁,toks:=tk }:=by
 have yp:∀ x,(relabel scope X.env).names.lookup x = (scope.names.lookup x).map fun k=>if (k == NameKind.free && X.env.scope.kind == .function && X.env.kindOf x == some .cell) then NameKind.cell else k:=fun x=>bR
 have two:∀ x c,(own ++ cl).lookup x = some c→own.lookup x = some c∨X.env.cells.lookup x = some c:=fun x c e=>by
  rw [List.lookup_append] at e
  cases q:own.lookup x with
  | none=>rw [q] at e; exact .inr (vh x c e)
  | some d=>rw [q] at e; exact .inl e
 have Zu:∀ x c,(x,NameKind.free) ∈ scope.names→cl.lookup x = some c→(own ++ cl).lookup x = some c:=fun x c hx e=>by rw [List.lookup_append,ow.free x hx]; exact e
 have old:∀ x c,X.env.cells.lookup x = some c→c < s.heap.objs.size:=fun x c e=>let ⟨_,o,ho,_⟩:=I.cell x c e; Heap.lt_size ho
 have fre:∀ x,((relabel scope X.env).names.lookup x = some .cell∨(relabel scope X.env).names.lookup x = some .free)→scope.names.lookup x = some .cell∨(x,NameKind.free) ∈ scope.names:=fun x hx=>by
  rw [yp x] at hx
  cases q:scope.names.lookup x with
  | none=>rw [q] at hx; simp at hx
  | some k =>
   have hm:=bO q
   cases k with
   | free=>exact .inr hm
   | cell=>exact .inl rfl
   | _=>rw [q] at hx; simp at hx
 have lt:∀ b o,X.base.get? b = some o→b < X.s₀.heap.objs.size:=fun b o e=>Heap.lt_size (I.ok.bs b o e).1
 have okX:(aB X N' scope (own ++ cl) s.heap.objs.size fp s H).Ok:=by
  refine ⟨I.ok.mod,gH,I.ok.glob,I.ok.blt,Nat.le_refl _,fun x y c h1 h2=>?_,fun x hx=>?_,fun x c h e=>?_,I.ok.hd,I.ok.frames,.inl rfl,
   fun b hb=>⟨Nat.ne_of_lt (fo b hb),fun x c e=>?_⟩,fun b o e=>I.bs b o e,Nat.le_trans I.ok.Io I.sz,fun b o e hb=>?_,fun b hb z=>?_,I.stack,I.Cz⟩
  ·rcases two x c h1 with a | a <;> rcases two y c h2 with b | b
   ·exact name_of_addr ow.apart (PySem.mem_of_lookup a) (PySem.mem_of_lookup b)
   ·exact absurd (Nat.lt_trans (ow.new x c a).1 (old y c b)) (Nat.lt_irrefl _)
   ·exact absurd (Nat.lt_trans (ow.new y c b).1 (old x c a)) (Nat.lt_irrefl _)
   ·exact I.ok.inj x y c a b
  ·rcases fre x hx with z | z
   ·obtain ⟨c,hc⟩:=ow.has x z
    exact ⟨c,by show (own ++ cl).lookup x = _; rw [List.lookup_append,hc]; rfl⟩
   ·obtain ⟨c,hc⟩:=vi x z
    exact ⟨c,Zu x c z hc⟩
  ·obtain ⟨d,hd⟩:=ow.has x (eq_of_beq h)
   have e':(own ++ cl).lookup x = some c:=e
   rw [List.lookup_append,hd] at e'
   cases e'
   exact Nat.le_of_lt (ow.new x _ hd).1
  ·rcases two x c e with a | a
   ·exact Nat.ne_of_gt (Nat.lt_trans (fo b hb) (ow.new x c a).1)
   ·exact (f b hb).2.2.2.2.1 x c a
  ·rcases (f b hb).2.2.2.1 with z | z
   ·exact I.ok.Fc b o e z
   ·exact absurd (Nat.lt_of_lt_of_le (lt b o e) z) (Nat.lt_irrefl _)
  ·rcases List.mem_cons.mp (I.AM b z) with z | z
   ·exact (f b hb).2.1 z
   ·exact (f b hb).2.2.1 z
 refine ⟨okX,rfl,I.bare,Un.kept hk,⟨_,Ra,fun i x v h1 h2 h3=>?_⟩,fun x c e=>?_,I.bE.fresh (Nat.le_refl _),fun x c e=>?_,fun p hp=>absurd (show p ∈ ([]:List (Addr × Obj)) from hp) (by simp),I.bE.kept hk,?_⟩
 ·have hi:i < σ.length:=by
   by_cases hi:i < σ.length
   ·exact hi
   ·rw [List.getElem?_append_right (by omega),List.getElem?_replicate] at h2
    split at h2 <;> cases h2
  have hi':i < X.N.length:=by rw [← I.len]; exact hi
  rw [List.getElem?_append_left hi] at h2
  obtain ⟨e1,e2,e3⟩:=lZ i x h1 hi' h3
  obtain ⟨m,_,hl⟩:=I.loc
  obtain ⟨u,ru,lk⟩:=hl i x v e1 h2 (.inr (.inl e3))
  refine ⟨u,ru,?_⟩
  have e3':X.env.kindOf x = some .cell:=e3
  rcases lk with ⟨z,_⟩ | ⟨_,c,hc,vK⟩
  ·rw [e3'] at z; cases z
  ·obtain ⟨c',hc'⟩:=vi x (bO e2)
   have:=vh x c' hc'
   rw [hc] at this; cases this
   refine .inr ⟨.inl ?_,c,Zu x c (bO e2) hc',?_⟩
   ·show (relabel scope X.env).names.lookup x = some .cell
    rw [yp x,e2,Option.map_some,e3',I.ok.kind]
    rfl
   ·obtain ⟨o,ho,hd⟩:=vK
    exact ⟨o,hk _ _ ho,hd⟩
 ·rcases two x c e with a | a
  ·exact ⟨none,(ow.new x c a).2⟩
  ·obtain ⟨v,o,ho,hd⟩:=I.cell x c a
   exact ⟨v,o,hk _ _ ho,hd⟩
 ·rcases two x c e with a | a
  ·exact I.bE.fresh (Nat.le_of_lt (ow.new x c a).1)
  ·exact I.iZ x c a
 ·show (σ ++ List.replicate k none).length = N'.length
  rw [List.length_append,List.length_replicate,I.len,hN]
theorem t4 {own:List (Str × Addr)} {pins':List (Addr × Obj)} {σ':L2.St} {H':Hp} {s':Shared} (I:Inv X pins σ H s) (vh:∀ x c,cl.lookup x = some c→X.env.cells.lookup x = some c) (vi:∀ x,(x,NameKind.free) ∈ scope.names→∃ c,cl.lookup x = some c)
  (hof:∀ x,(x,NameKind.free) ∈ scope.names→own.lookup x = none) (hN:N'.length = X.N.length + k)
  (lZ:∀ (i:Nat) (x:Str),N'[i]? = some x→i < X.N.length→rQ (relabel scope X.env) x→X.N[i]? = some x∧scope.names.lookup x = some .free∧X.env.scope.names.lookup x = some .cell)
  (J:Inv (aB X N' scope (own ++ cl) s.heap.objs.size fp s H) pins' σ' H' s'):Inv (aB X N' scope (own ++ cl) s.heap.objs.size fp s H) pins' (σ ++ List.replicate k none) H' s':=by
 obtain ⟨m,hm,_⟩:=J.loc
 refine ⟨J.ok,J.os,J.bare,J.base,⟨m,hm,fun i x v h1 h2 h3=>?_⟩,J.cell,J.free,J.iZ,J.pin,J.bE,?_⟩
 ·have hi:i < σ.length:=by
   by_cases hi:i < σ.length
   ·exact hi
   ·rw [List.getElem?_append_right (by omega),List.getElem?_replicate] at h2
    split at h2 <;> cases h2
  have hi':i < X.N.length:=by rw [← I.len]; exact hi
  rw [List.getElem?_append_left hi] at h2
  obtain ⟨e1,e2,e3⟩:=lZ i x h1 hi' h3
  obtain ⟨_,_,hl⟩:=I.loc
  obtain ⟨u,ru,lk⟩:=hl i x v e1 h2 (.inr (.inl e3))
  refine ⟨u,ru,?_⟩
  have e3':X.env.kindOf x = some .cell:=e3
  rcases lk with ⟨z,_⟩ | ⟨_,c,hc,vK⟩
  ·rw [e3'] at z; cases z
  ·obtain ⟨c',hc'⟩:=vi x (bO e2)
   have:=vh x c' hc'
   rw [hc] at this; cases this
   have A1:(own ++ cl).lookup x = some c:=by rw [List.lookup_append,hof x (bO e2)]; exact hc'
   refine .inr ⟨.inl ?_,c,A1,?_⟩
   ·show (relabel scope X.env).names.lookup x = some .cell
    rw [show (relabel scope X.env).names.lookup x = _ from bR,e2,Option.map_some,e3',I.ok.kind]
    rfl
   ·obtain ⟨o,ho,hd⟩:=vK
    have hx:c ∉ fp:=fun z=>((J.ok.Oj c z).2 x c A1) rfl
    obtain ⟨sl,hs⟩:=J.base.any ho (I.iZ x c hc) hx
    exact ⟨_,hs,hd⟩
 ·show (σ ++ List.replicate k none).length = N'.length
  rw [List.length_append,List.length_replicate,I.len,hN]
end
section
variable {A:Around} {prog:Program} {w:World} {s:Shared} {R:Result→Shared→Prop}
theorem pk {el tg Zv:Expr} {cs:List Expr} {sc:Scope} {ps:Pos} {IH ac:Value} {en:PySem.Env} (I:Nat→Shared→Prop)
  (turn:∀ n s,I n s→wpAny (model prog w) A (pyNext IH) (fun r s₁=>match r with
   | none=>R (.ok .next) s₁
   | some v=>wpAny (model prog w) A (letOwnedTupleGo tg IH v) (fun _ s₁'=>wpAny (model prog w) A (assign tg en v) (fun _ s₂ =>
     wpAny (model prog w) A (forIn cs true fun c r=>if r = true then do let ok ← isTrue c en (eval c en); pure (ForInStep.yield ok) else pure (ForInStep.yield r)) (fun ok s₃ =>
      if ok = true then wpAny (model prog w) A (eval el en) (fun x s₄ =>
       wpAny (model prog w) A (call (.builtin "list.append") [ac,x]) (fun _ s₅=>∃ m,m < n∧I m s₅) (fun _ _=>False) s₄) (fun _ _=>False) s₃
      else ∃ m,m < n∧I m s₃) (fun _ _=>False) s₂) (fun _ _=>False) s₁') (fun _ _=>False) s₁) (fun _ _=>False) s)
  (n:Nat) (h:I n s):codeAny (model prog w) A (.compLoop (.ListComp el [⟨tg,Zv,cs,0⟩] sc ps) 0 IH ac en) R s:=by
 refine codeAny_loop rfl I (fun n s hn=>?_) n h
 show wpAny _ A ((compTurn (.ListComp el [⟨tg,Zv,cs,0⟩] sc ps) 0 IH ac en).onRaise (fun x=>do noteFrame x en; theTreesLotGoes x)) _ _ s
 refine wpAny_noted ?_
 rw [compTurn_list]
 refine wpAny_bind (wpAny_standAt (wpAny_bind (wpAny_mono (turn n s hn) (fun r s₁ h₁=>?_) fun _ _ z=>False.elim z)))
 cases r with
 | none=>exact wpAny_pure h₁
 | some v =>
  refine wpAny_bind (wpAny_mono h₁ (fun _ s₁' h₁'=>?_) fun _ _ z=>False.elim z)
  refine wpAny_bind (wpAny_mono h₁' (fun _ s₂ h₂=>wpAny_bind (wpAny_mono h₂ (fun ok s₃ h₃=>?_) fun _ _ z=>False.elim z)) fun _ _ z=>False.elim z)
  cases ok with
  | false=>exact (wpAny_pure ⟨rfl,h₃⟩)
  | true =>
   exact wpAny_bind (wpAny_bind (wpAny_mono h₃ (fun x s₄ h₄=>wpAny_bind (wpAny_mono h₄ (fun _ s₅ h₅=>wpAny_pure (wpAny_pure ⟨rfl,h₅⟩)) fun _ _ z=>False.elim z)) fun _ _ z=>False.elim z))
end
structure JB (K:PySem.W.Frag) (G Hk:Hp) (J:It) (l:List D):Prop where
 go:∀ (i:Nat) (G1 H1:Hp),av G G1→av G1 H1→av Hk H1→i < l.length→J.go i H1
 yl:∀ (i:Nat) (G1 H1:Hp) (x:V) (H2:Hp),av G G1→av G1 H1→av Hk H1→i < l.length→J.Q8 i H1 x H2→∃ (G2:Hp) (d:D),Ext G1 H1 G2 H2∧l[i]? = some d∧Den K G2 x d
 st:∀ (i:Nat) (G1 H1:Hp),av G G1→av G1 H1→av Hk H1→l.length ≤ i→J.stop i H1
theorem Jl.h {K:PySem.W.Frag} {G Hk:Hp} {J:It} {l:List D} (j:Jl K G J l):JB K G Hk J l :=
 ⟨fun i G1 H1 a b _=>j.go i G1 H1 a b,fun i G1 H1 x H2 a b _=>j.yl i G1 H1 x H2 a b,fun i G1 H1 a b _=>j.st i G1 H1 a b⟩
noncomputable def Th (K:PySem.W.Frag) (t:oW):TI:=fun σ H R2=>∃ (n:En) (δ:Ev) (G:Hp) (Q:List D→Ev→Prop),Rel K n δ σ G H∧t δ Q ∧
 ∀ (J:It) (G' H':Hp) (l:List D) (δ':Ev),Rel K n δ' σ G' H'→av G G'→JB K G' H' J l→Q l δ'→R2 J H'
theorem Th.el {K:PySem.W.Frag} {t:oW} {σ H R2} {P:Prop} (x:Th K t σ H R2) (k:∀ (n:En) (δ:Ev) (G:Hp) (Q:List D→Ev→Prop),(Rel K n δ σ G H)→(t δ Q)→(∀ (J:It) (G' H':Hp) (l:List D) (δ':Ev),Rel K n δ' σ G' H'→av G G'→JB K G' H' J l→Q l δ'→R2 J H')→P):P:=by
 obtain ⟨n,δ,G,Q,h0,h1,h2⟩:=x
 exact k n δ G Q h0 h1 h2
noncomputable abbrev NX (X:Cx) (tg iter:Expr) (t:oW):Prop:=PI X tg iter (Th X.K t)
theorem O9 {X:Cx} {tg iter:Expr} {t:oW} (h:DI X tg iter t):NX X tg iter t :=
 tU h fun σ H R2 hx=>hx.el fun n δ G Q R ht k=>⟨n,δ,G,Q,R,ht,fun J G' H' l δ' R' s' j' q'=>k J G' H' l δ' R' s' j'.h q'⟩
noncomputable def CQ (X:Cx) (ifs:List Expr) (t:lB):Prop :=
 ∀ (pins:List (Addr × Obj)) (s:Shared) (σ:L2.St) (H:Hp) (Q:Bool→Hp→Prop),Inv X pins σ H s→lT X.K t σ H Q →
  wpAny (model X.prog X.w) X.A (forIn ifs true fun c r=>if r = true then do let ok ← isTrue c X.env (eval c X.env); pure (ForInStep.yield ok) else pure (ForInStep.yield r)) (TP X pins σ Q) X.xe s
noncomputable def xu:lB:=fun δ Q=>Q true δ
theorem j8 {X:Cx}:CQ X [] xu:=fun pins s σ H Q I ⟨n,δ,G,Qd,R,h,k⟩=>wpAny_tests_nil ⟨H,I,k true G H δ R (av.refl _) h⟩
theorem i7 {X:Cx} {c:Expr} {t:lB} (h:DT X c t):CQ X [c] t:=fun pins s σ H Q I q=>wpAny_tests_one (h pins s σ H Q I q)
noncomputable def dz (k:Nat) (ti:oW) (g:sP) (tt:lB) (te:cx):cx:=fun δ Q=>ti δ fun items δ1=>∃ F:D→Option D,
 (∀ d ∈ items,g d (jY δ1 ++ List.replicate k .no) fun δ2=>tt δ2 fun b δ3=>if b = true then te δ3 fun y _=>F d = some y else F d = none) ∧
  (items.filterMap F).length ≤ sizeLine∧Q (.lst (items.filterMap F)) δ1
theorem nj {α β:Type} (F:α→Option β) (l:List α) (i:Nat) (d:α) (h:l[i]? = some d):(l.take (i + 1)).filterMap F = (l.take i).filterMap F ++ (F d).toList:=by
 rw [List.take_add_one,h,List.filterMap_append]
 cases q:F d <;> simp [q]
theorem K5 {α β:Type} (F:α→Option β) (l:List α) (i:Nat):((l.take i).filterMap F).length ≤ (l.filterMap F).length:=by
 conv=>rhs; rw [← List.take_append_drop i l]
 rw [List.filterMap_append,List.length_append]
 omega
theorem zk {X:Cx} {elt iter target:Expr} {ifs:List Expr} {scope:Scope} {pos:Pos} {N':List Str} (k:Nat) {ti:oW} {g:sP} {tt:lB} {te:cx} (hc:X.calm = true) (hi:NX X target iter ti)
  (hb:∀ (cl:List (Str × Addr)) (C:Addr) (ex:List Addr) (s:Shared) (H:Hp),DG (aB X N' scope cl C ex s H) target g∧CQ (aB X N' scope cl C ex s H) ifs tt∧DE (aB X N' scope cl C ex s H) elt te)
  (gH:scope.kind = .function) (iP:∀ y ∈ scope.names,y.2 = .local→scope.names.lookup y.1 = some .local) (GF:∀ x,(x,NameKind.free) ∈ scope.names→(x,NameKind.cell) ∉ scope.names) (hN:N'.length = X.N.length + k)
  (lZ:∀ (i:Nat) (x:Str),N'[i]? = some x→i < X.N.length→rQ (relabel scope X.env) x→X.N[i]? = some x∧scope.names.lookup x = some .free∧X.env.scope.names.lookup x = some .cell)
  (GG:∀ x ∈ scope.names,x.2 = NameKind.free→X.env.scope.names.lookup x.1 = some .cell)
  (hs:∀ x,foldedSetIterable iter X.env x = pure x)
  {use:Option (Value→Sem Unit)} {Qf:Value→Shared→Prop} {pins:List (Addr × Obj)} {s:Shared} {σ:L2.St} {H:Hp} {Q2:VK} {p:Pos} (I:Inv X pins σ H s) (hq:lE X.K (dz k ti g tt te) σ H Q2)
  (fin:∀ (D₀ C:Addr) (H':Hp) (s6:Shared),Inv X pins σ H' s6→lP X pins H' C→(∃ m,s6.heap.Ns C m)→Q2 (.ref D₀) H'→compPost (model X.prog X.w) X.A X.xe use Qf (.ref D₀) C (.ok .next) s6) :
  wpAny (model X.prog X.w) X.A (comprehension (.ListComp elt [⟨target,iter,ifs,0⟩] scope pos) scope X.env p (newList []) false (eval iter X.env) use) Qf X.xe s:=by
 obtain ⟨n,δ,G,Q,R,h,kk⟩:=hq
 obtain ⟨cl,GH,vh,vi⟩:=CO (env:=X.env) (scope:=scope) (fun x hx hf=>I.ok.has x.1 (.inl (GG x hx hf)))
 refine wpAny_comprehension_free (use:=use) rfl hs GH gH iP (wpAny_mono (hi pins s σ H _ I ⟨n,δ,G,_,R,h,fun J G' H' l δ' R' s' j' q'=>(show ∃ G' l δ',Rel X.K n δ' σ G' H'∧av G G'∧JB X.K G' H' J l ∧
  (∃ F:D→Option D,(∀ d ∈ l,g d (jY δ' ++ List.replicate k .no) fun δ2=>tt δ2 fun b δ3=>if b = true then te δ3 fun y _=>F d = some y else F d = none)∧(l.filterMap F).length ≤ sizeLine∧Q (.lst (l.filterMap F)) δ') from ⟨G',l,δ',R',s',j',q'⟩)⟩)
  (fun xv s₁ h₁=>wpAny_mono h₁ (fun IH s₂ h₂=>?_) fun _ _ z=>z) fun _ _ z=>z)
 obtain ⟨it,fp,tn,J,H2,rfl,I2,T,Fo,f2,G2,items,δ1,R2,Ti,j2,F,hF,hsz,hQ⟩:=h₂
 refine wpAny_newObj_type (nH ?_)
 rw [qt]
 dsimp only
 have hD:H2 s₂.heap.objs.size = none:=I2.fresh
 have I3:Inv X pins σ (upd H2 s₂.heap.objs.size (.lst [])) { s₂ with heap:=s₂.heap.push { cls:=.type "list",dict:=none,data:=.seq ([]:List Value).toArray } }:=I2.Je (t':=s₂.toks) .nil (Nat.zero_le _)
 have R3:Rel X.K n δ1 σ G2 (upd H2 s₂.heap.objs.size (.lst [])):=R2.other (R2.sub.free hD) (R2.al _ hD) (R2.xb hD) _
 have f3:∀ b ∈ fp,lP X pins (upd H2 s₂.heap.objs.size (.lst [])) b:=fun b hb=>by
  have lt : b < s₂.heap.objs.size:=by obtain ⟨o,ho,_⟩:=T.obj _ _ Fo b hb; exact Heap.lt_size ho
  refine ⟨?_,(f2 b hb).2⟩
  rw [aj (Nat.ne_of_lt lt)]; exact (f2 b hb).1
 have Mw:∀ b ∈ fp,b < (s₂.heap.push { cls:=.type "list",dict:=none,data:=.seq ([]:List Value).toArray }).objs.size:=fun b hb=>by
  obtain ⟨o,ho,_⟩:=T.obj _ _ Fo b hb
  rw [Heap.size_push]
  exact Nat.lt_succ_of_lt (Heap.lt_size ho)
 have Tj:∀ b o,s₂.heap.get? b = some o→(s₂.heap.push { cls:=.type "list",dict:=none,data:=.seq ([]:List Value).toArray }).get? b = some o:=fun b o e=>Heap.get?_push_of_some _ e
 generalize Mx:upd H2 s₂.heap.objs.size (.lst []) = H3 at I3 R3 f3
 have Pa:H3 s₂.heap.objs.size = some (.lst []):=by rw [← Mx]; exact aq
 have Pb:G2 s₂.heap.objs.size = none:=R2.sub.free hD
 have Tn:n.H s₂.heap.objs.size = none:=R2.al _ hD
 have GI:Rel X.K n δ1 σ G2 (del H3 s₂.heap.objs.size):=by rw [← Mx,sN,yC hD]; exact R2
 have Zw:av H2 H3:=by rw [← Mx]; exact aC hD _
 generalize s₂.heap.objs.size = D₀ at hD Pa Pb Tn GI ⊢
 have My:∀ h',(∀ b o,(s₂.heap.push { cls:=.type "list",dict:=none,data:=.seq ([]:List Value).toArray }).get? b = some o→h'.get? b = some o)→tn 0 h':=fun h' k'=>T.keep 0 _ _ Fo fun b _ o e=>k' b o (Tj b o e)
 have Rc:({ s₂ with heap:=s₂.heap.push { cls:=.type "list",dict:=none,data:=.seq ([]:List Value).toArray } }:Shared).os = s₂.os:=rfl
 generalize Pc:({ s₂ with heap:=s₂.heap.push { cls:=.type "list",dict:=none,data:=.seq ([]:List Value).toArray } }:Shared) = s₃ at I3
 have To:s₃.heap = s₂.heap.push { cls:=.type "list",dict:=none,data:=.seq ([]:List Value).toArray }:=by rw [← Pc]
 rw [← To] at Mw My ⊢
 have ow:=CP (h:=s₃.heap) GF
 have hns₁:(pushCells (s₃.heap.push { cls:=.type "dict",data:=.dict #[] }) scope.names).Ns s₃.heap.objs.size fun _=>none:=(Heap.Ns.new s₃.heap (.type "dict")).keeps (pushCells_keeps _ _)
 have JC:∀ b o,s₃.heap.get? b = some o→(pushCells (s₃.heap.push { cls:=.type "dict",data:=.dict #[] }) scope.names).get? b = some o:=fun b o e=>pushCells_keeps _ _ b o (Heap.get?_push_of_some _ e)
 generalize cellsFrom (s₃.heap.objs.size + 1) scope.names [] = own at ow ⊢
 generalize hh1:pushCells (s₃.heap.push { cls:=.type "dict",data:=.dict #[] }) scope.names = h₁ at ow hns₁ JC ⊢
 have Tp:({ s₂ with heap:=h₁ }:Shared) = { s₃ with heap:=h₁,toks:=s₃.toks }:=by rw [← Pc]
 have I4:Inv (aB X N' scope (own ++ cl) s₃.heap.objs.size fp s₃ H3) [] (σ ++ List.replicate k none) H3 { s₃ with heap:=h₁,toks:=s₃.toks }:=zj I3 gH vh vi ow hN lZ f3 Mw hns₁ JC
 have reset:∀ {pins':List (Addr × Obj)} {σ':L2.St} {H':Hp} {s':Shared},Inv (aB X N' scope (own ++ cl) s₃.heap.objs.size fp s₃ H3) pins' σ' H' s'→Inv (aB X N' scope (own ++ cl) s₃.heap.objs.size fp s₃ H3) pins' (σ ++ List.replicate k none) H' s' :=
  fun J'=>t4 I3 vh vi ow.free hN lZ J'
 generalize own ++ cl = cl at I4 reset ⊢
 have Bx:∀ {H':Hp},(∀ b ∈ fp,H' b = none)→∀ b ∈ fp,lP (aB X N' scope cl s₃.heap.objs.size fp s₃ H3) [] H' b:=fun hn b hb =>
  ⟨hn b hb,Nat.ne_of_lt (Mw b hb),I4.ok.DN b hb,.inl hb,(I4.ok.Oj b hb).2,fun p hp=>absurd (show p ∈ ([]:List (Addr × Obj)) from hp) (by simp)⟩
 obtain ⟨hG,hT,hE⟩:=hb cl s₃.heap.objs.size fp s₃ H3
 have loop:∀ s₄:Shared,s₄ = { s₃ with heap:=h₁,toks:=s₃.toks } →
   codeAny (model X.prog X.w) X.A (.compLoop (.ListComp elt [⟨target,iter,ifs,0⟩] scope pos) 0 (.ref it) (.ref D₀) (compEnvC scope cl s₃.heap.objs.size X.env)) (compPost (model X.prog X.w) X.A X.xe use Qf (.ref D₀) s₃.heap.objs.size) s₄:=by
  rintro s₄ rfl
  refine pk (fun m s=>∃ (i:Nat) (H:Hp) (G:Hp) (ws:List V),i ≤ items.length∧m = items.length - i∧Inv (aB X N' scope cl s₃.heap.objs.size fp s₃ H3) [] (σ ++ List.replicate k none) H s∧tn i s.heap∧(∀ b ∈ fp,H b = none) ∧
   Rel X.K n δ1 σ G (del H D₀)∧av H2 H∧av G2 G∧H D₀ = some (.lst ws)∧G D₀ = none∧aH X.K G ws ((items.take i).filterMap F)) ?_ items.length
   ⟨0,H3,G2,[],Nat.zero_le _,rfl,I4,My _ JC,fun b hb=>(f3 b hb).1,GI,Zw,av.refl _,Pa,Pb,.nil⟩
  rintro m s5 ⟨i,H5,G5,ws,hi,rfl,I5,IJ,LW,R5',Pd,Eh,Iy,MA,GJ⟩
  have R5:=R5'.K0 Iy
  by_cases xw:i < items.length
  ·refine cP (T.item (aB X N' scope cl s₃.heap.objs.size fp s₃ H3) rfl rfl rfl hc i [] s5 _ H5 _ I5 (Bx LW) IJ (j2.go i G5 H5 Eh R5.sub Pd xw)) fun r s6 ⟨u,hr,h6⟩=>?_
   subst hr
   refine cP h6 fun _ s7 ⟨x,H7,I7,rx,y7,MB,Tq⟩=>?_
   obtain ⟨G7,d,e7,hd,dx⟩:=j2.yl i G5 H5 x H7 Eh R5.sub Pd xw y7
   have R7:=R5.ext e7
   have Tr:=R7.inner k
   have I7':=I7.pinned (Bx Tq) (T.obj _ _ MB)
   have NY:∀ {G' H':Hp},Ext G7 H7 G' H'→G' D₀ = none:=fun {G' H'} e=>by
    cases q:G' D₀ with
    | none=>rfl
    | some o =>
     have z:=(e7.trans e).fr D₀ o q MA
     rw [Iy] at z; cases z
   have keep:∀ {σ':L2.St} {H':Hp} {s':Shared},Inv (aB X N' scope cl s₃.heap.objs.size fp s₃ H3) ([] ++ qi fp s7.heap) σ' H' s'→tn (i + 1) s'.heap∧(∀ b ∈ fp,H' b = none)∧Inv (aB X N' scope cl s₃.heap.objs.size fp s₃ H3) [] (σ ++ List.replicate k none) H' s':=fun {σ' H' s'} J'=>by
    refine ⟨T.keep _ _ _ MB fun b hb o e=>(J'.pin (b,o) (List.mem_append_right _ (List.mem_append_right _ (gb hb e)))).1,fun b hb=>?_,reset J'.lQ⟩
    obtain ⟨o,e,_⟩:=T.obj _ _ MB b hb
    exact (J'.pin (b,o) (List.mem_append_right _ (List.mem_append_right _ (gb hb e)))).2.1
   refine cP (hG _ s7 _ H7 x u (fun σ8 H8=>H8 = H7∧∃ δ8,Rel X.K ⟨G7,H7,fun _=>False⟩ δ8 σ8 G7 H7∧tt δ8 fun b δ3=>if b = true then te δ3 fun y _=>F d = some y else F d = none) I7' rx
    ⟨_,_,G7,d,_,Tr,dx,hF d (List.mem_of_getElem? hd),fun δ8 σ8 R8 q8=>⟨rfl,δ8,R8,q8⟩⟩) fun _ s8 ⟨σ8,H8,I8,e8,δ8,R8,q8⟩=>?_
   subst e8
   refine cP (hT _ s8 σ8 _ (fun b H9=>∃ G9 δ9,Rel X.K ⟨G7,H8,fun _=>False⟩ δ9 σ8 G9 H9∧if b = true then te δ9 fun y _=>F d = some y else F d = none) I8 ⟨_,δ8,G7,_,R8,q8,fun b G9 H9 δ9 R9 _ q9=>⟨G9,δ9,R9,q9⟩⟩) fun ok s9 ⟨H9,I9,G9,δ9,R9,q9⟩=>?_
   cases ok with
   | false =>
    rw [if_neg Bool.false_ne_true] at q9 ⊢
    obtain ⟨k1,k2,k3⟩:=keep I9
    have e9:=R9.K1
    refine ⟨items.length - (i + 1),by omega,i + 1,H9,G9,ws,xw,rfl,k3,k1,k2,R5'.ext ((e7.trans e9).del (NY e9)),Pd.trans (e7.trans e9).hh,Eh.trans (e7.gg.trans e9.gg),e9.hh _ _ (e7.hh _ _ Iy),NY e9,?_⟩
    rw [nj F items i d hd,q9]
    simpa using GJ.up (e7.gg.trans e9.gg)
   | true =>
    rw [if_pos rfl] at q9 ⊢
    refine cP (hE _ s9 σ8 H9 (fun v Ei=>∃ CS y,(∃ δ10,Rel X.K ⟨G7,H8,fun _=>False⟩ δ10 σ8 CS Ei)∧Den X.K CS v y∧F d = some y) I9 ⟨_,δ9,G9,_,R9,q9,fun v CS Ei y δ10 MC _ Ts Rf=>⟨CS,y,⟨δ10,MC⟩,Ts,Rf⟩⟩) fun xv uZ ⟨v,Ei,Tt,rv,CS,y,⟨δ10,MC⟩,dv,hy⟩=>?_
    have MD:=MC.K1
    have ME:Ei D₀ = some (.lst ws):=MD.hh _ _ (e7.hh _ _ Iy)
    have MF:ws.length < sizeLine:=by
     have l1:=K5 F items (i + 1)
     rw [nj F items i d hd,hy,List.length_append] at l1
     have l2:=GJ.length
     simp only [Option.toList_some,List.length_singleton] at l1
     omega
    refine cP (qk (X:=aB X N' scope cl s₃.heap.objs.size fp s₃ H3) _ uZ σ8 Ei (.ref D₀) [v] (.ref D₀) [xv] (fun _ H'=>H' = upd Ei D₀ (.lst (ws ++ [v]))) Tt rfl (.cons rv .nil) ⟨D₀,ws,v,rfl,rfl,ME,MF,rfl⟩) fun _ oX ⟨_,H11,Tu,_,Tv⟩=>?_
    subst Tv
    obtain ⟨k1,k2,k3⟩:=keep Tu
    refine ⟨items.length - (i + 1),by omega,i + 1,_,CS,ws ++ [v],xw,rfl,k3,k1,k2,(by rw [sN]; exact R5'.ext ((e7.trans MD).del (NY MD))),(fun b o z=>by rw [aj (aR z hD)]; exact (Pd.trans (e7.trans MD).hh) b o z),Eh.trans (e7.gg.trans MD.gg),aq,NY MD,?_⟩
    rw [nj F items i d hd,hy]
    exact (GJ.up (e7.gg.trans MD.gg)).append (.cons dv .nil)
  ·have ei:i = items.length:=by omega
   subst ei
   refine cP (T.done (aB X N' scope cl s₃.heap.objs.size fp s₃ H3) rfl rfl rfl hc _ [] s5 _ H5 _ I5 (Bx LW) IJ (j2.st _ G5 H5 Eh R5.sub Pd (Nat.le_refl _))) fun r s6 ⟨hr,I6⟩=>?_
   subst hr
   obtain ⟨m,hm,_⟩:=I6.loc
   have Tw:Inv X pins σ H5 s6:=I3.call' (s':=s6) (ch:=fp) I6.os (show Un (AK X.stack) fp H3 H5 s₃.heap s6.heap from I6.base) I6.bE I6.bare fun b hb=>⟨(f3 b hb).2.2.2.1,(f3 b hb).2.1,(f3 b hb).2.2.2.2.1,(f3 b hb).2.2.2.2.2⟩
   rw [List.take_length] at GJ
   exact fin D₀ s₃.heap.objs.size H5 s6 Tw (I3.Fm (Nat.le_refl _) I6.free) ⟨m,hm⟩ (kk _ _ _ _ δ1 (R5'.OX Iy) (Ti.trans (Eh.trans (aC MA _))) (.lst (gG.of aq) (GJ.up (aC MA _))) hQ)
 rw [Tp]
 exact codeAny_compStart_list (loop _ rfl) (T.self _ 0 _ _ _ (My _ JC) (loop _ rfl))
theorem pA {X:Cx} {pins:List (Addr × Obj)} {s:Shared} {σ:L2.St} {H:Hp} {C:Addr} {h':Heap} (I:Inv X pins σ H s) (f:lP X pins H C) (hs:Heap.SameBut C s.heap h'):Inv X pins σ H { s with heap:=h' }:=by
 have same:∀ b o,b ≠ C→s.heap.get? b = some o→h'.get? b = some o:=fun b o hb e=>(hs.2 b hb).trans e
 have ne:∀ b,b ∉ [C]→b ≠ C:=fun b hb z=>hb (by rw [z]; exact List.mem_singleton.mpr rfl)
 refine I.call' (s':={ s with heap:=h' }) (ch:=[C]) rfl ⟨fun b o e _ _ n3=>same b o (ne b n3) e,fun b o e _ _ n3=>⟨o.slots,same b o (ne b n3) e⟩,fun b o _ n _=>n,fun b o e n3=>⟨o,same b o (ne b n3) e⟩,fun _ _ e=>e,fun _ _ _ e=>e,fun b ps e=>⟨#[],by rw [Array.append_empty]; exact e⟩⟩ (fun a o e=>?_) I.bare fun b hb=>?_
 ·have nC:∀ b u,H b = some u→b ≠ C:=fun b u q z=>by rw [z,f.1] at q; cases q
  refine (I.bE a o e).oj (fun b u hb q=>same b u ?_ q) (fun _ q=>q) fun _ _ q=>q
  rcases hb with rfl | hb
  ·exact nC _ _ e
  ·exact nC _ _ hb
 ·rcases List.mem_singleton.mp hb with rfl
  exact ⟨f.2.2.2.1,f.2.1,f.2.2.2.2.1,f.2.2.2.2.2⟩
theorem JD {X:Cx} {elt iter target:Expr} {ifs:List Expr} {scope:Scope} {pos:Pos} {N':List Str} (k:Nat) {ti:oW} {g:sP} {tt:lB} {te:cx} (hc:X.calm = true) (hi:NX X target iter ti)
  (hb:∀ (cl:List (Str × Addr)) (C:Addr) (ex:List Addr) (s:Shared) (H:Hp),DG (aB X N' scope cl C ex s H) target g∧CQ (aB X N' scope cl C ex s H) ifs tt∧DE (aB X N' scope cl C ex s H) elt te)
  (gH:scope.kind = .function) (iP:∀ y ∈ scope.names,y.2 = .local→scope.names.lookup y.1 = some .local) (GF:∀ x,(x,NameKind.free) ∈ scope.names→(x,NameKind.cell) ∉ scope.names) (hN:N'.length = X.N.length + k)
  (lZ:∀ (i:Nat) (x:Str),N'[i]? = some x→i < X.N.length→rQ (relabel scope X.env) x→X.N[i]? = some x∧scope.names.lookup x = some .free∧X.env.scope.names.lookup x = some .cell)
  (GG:∀ x ∈ scope.names,x.2 = NameKind.free→X.env.scope.names.lookup x.1 = some .cell)
  (hs:∀ x,foldedSetIterable iter X.env x = pure x:=by intro _; rfl):DE X (.ListComp elt [⟨target,iter,ifs,0⟩] scope pos) (dz k ti g tt te):=by
 rintro pins s σ H Q2 I q
 rw [eval_ListComp]
 exact zk k hc hi hb gH iP GF hN lZ GG hs (use:=none) I q fun D₀ C H' s6 I6 f ⟨m,hm⟩ q6=>⟨m,hm,fun h' hs'=>⟨.ref D₀,H',pA I6 f hs',rfl,q6⟩⟩
theorem JE {X:Cx} {elt iter target:Expr} {ifs:List Expr} {scope:Scope} {pos:Pos} {N':List Str} (k:Nat) {ti:oW} {g:sP} {tt:lB} {te:cx} (hc:X.calm = true) (hi:NX X target iter ti)
  (hb:∀ (cl:List (Str × Addr)) (C:Addr) (ex:List Addr) (s:Shared) (H:Hp),DG (aB X N' scope cl C ex s H) target g∧CQ (aB X N' scope cl C ex s H) ifs tt∧DE (aB X N' scope cl C ex s H) elt te)
  (gH:scope.kind = .function) (iP:∀ y ∈ scope.names,y.2 = .local→scope.names.lookup y.1 = some .local) (GF:∀ x,(x,NameKind.free) ∈ scope.names→(x,NameKind.cell) ∉ scope.names) (hN:N'.length = X.N.length + k)
  (lZ:∀ (i:Nat) (x:Str),N'[i]? = some x→i < X.N.length→rQ (relabel scope X.env) x→X.N[i]? = some x∧scope.names.lookup x = some .free∧X.env.scope.names.lookup x = some .cell)
  (GG:∀ x ∈ scope.names,x.2 = NameKind.free→X.env.scope.names.lookup x.1 = some .cell)
  (hs:∀ x,foldedSetIterable iter X.env x = pure x) (i:Nat) {x:Str} {pos' pB:Pos} (JF:X.N.Nodup) (JG:X.N[i]? = some x) (hx:Loc X.env.scope x)
  (JH:swapsWith (.ListComp elt [⟨target,iter,ifs,0⟩] scope pos) (some (.Name x pos')) pB.line X.env = pure true) (hf:X.fn x = true∨X.env.scope.names.lookup x = some .local) :
  DS X (.Assign [.Name x pos'] (.ListComp elt [⟨target,iter,ifs,0⟩] scope pos) pB) (bw i (dz k ti g tt te)):=by
 rintro pins s σ H F I ⟨n,δ,G,E,R,h,kk⟩
 rw [exec_Assign_Name_used _ _ _ _ JH]
 refine wpAny_bind (wpAny_standAt (wpAny_bind ?_))
 show wpAny _ X.A (do let _ ← comprehension (.ListComp elt [⟨target,iter,ifs,0⟩] scope pos) scope X.env _ (newList []) false (eval iter X.env) (some (assign (.Name x pos') X.env))) _ _ s
 refine wpAny_bind (wpAny_mono (zk k hc hi hb gH iP GF hN lZ GG hs (use:=some (assign (.Name x pos') X.env)) (Qf:=fun _ s'=>SP X pins F .next s') (Q2:=fun v H'=>F.nx (σ.set i (some v)) H') I
  ⟨n,δ,G,_,R,h,fun v G1 H1 d δ1 R1 s1 d1 h1=>kk.nx _ _ G1 H1 (R1.set i d1) h1⟩ fun D₀ C H' s6 I6 f hm q6=>?_) (fun _ s' hq=>wpAny_pure (wpAny_pure hq)) fun _ _ e=>e)
 obtain ⟨m,hm⟩:=hm
 refine wpAny_assign_Name (qh (v:=.ref D₀) I6 JF JG hx rfl (fun s7 I7 ⟨a,sb,ha⟩=>⟨m,hm.sameBut sb ?_,fun h' hs'=>⟨_,H',pA I7 f hs',q6⟩⟩) hf)
 rcases ha with rfl | ha
 ·exact f.2.1
 ·exact Ne.symm (f.2.2.2.2.1 x a ha)
end Dl
namespace Dl
open PySem PySem.Spec PyProof.Rows L2
noncomputable def bG (N:List Str) (sc:Scope) (N':List Str) (scope:Scope) (k:Nat):Bool :=
 (scope.kind == .function) && scope.names.all (fun y=>(y.2 != .local) || (scope.names.lookup y.1 == some .local)) && scope.names.all (fun y=>(y.2 != .free) || !(scope.names.any fun z=>z.1 == y.1 && z.2 == .cell)) && (N'.length == N.length + k) &&
 scope.names.all (fun y=>(y.2 != .free) || (sc.names.lookup y.1 == some .cell)) &&
 (List.range N.length).all (fun i=>match N'[i]? with
  | some x=>(match scope.names.lookup x with
   | some .local=>false
   | some .cell=>false
   | some .free=>N[i]? == some x
   | _=>true)
  | none=>true)
theorem Ej {X:Cx} {elt iter target:Expr} {ifs:List Expr} {scope:Scope} {pos:Pos} (N':List Str) (k:Nat) {ti:oW} {g:sP} {tt:lB} {te:cx} (hc:X.calm = true) (hi:NX X target iter ti)
  (hb:∀ (cl:List (Str × Addr)) (C:Addr) (ex:List Addr) (s:Shared) (H:Hp),DG (aB X N' scope cl C ex s H) target g∧CQ (aB X N' scope cl C ex s H) ifs tt∧DE (aB X N' scope cl C ex s H) elt te)
  (ok:bG X.N X.env.scope N' scope k = true)
  (hs:∀ x,foldedSetIterable iter X.env x = pure x:=by intro _; rfl):DE X (.ListComp elt [⟨target,iter,ifs,0⟩] scope pos) (dz k ti g tt te):=by
 unfold bG at ok
 simp only [Bool.and_eq_true,List.all_eq_true,Bool.or_eq_true,bne_iff_ne,ne_eq,beq_iff_eq] at ok
 obtain ⟨⟨⟨⟨⟨h1,h2⟩,MG⟩,h4⟩,h5⟩,h6⟩:=ok
 have h3:∀ x,(x,NameKind.free) ∈ scope.names→(x,NameKind.cell) ∉ scope.names:=fun x hx hc=>by
  have z:=(MG _ hx).resolve_left fun z=>z rfl
  have w:(scope.names.any fun z=>z.1 == x && z.2 == .cell) = true:=List.any_eq_true.mpr ⟨_,hc,by simp⟩
  rw [w] at z; cases z
 refine JD k hc hi hb (by cases q:scope.kind <;> rw [q] at h1 <;> first | rfl | cases h1) (fun y hy hl=>(h2 y hy).resolve_left fun z=>z hl) h3 h4 (fun i x e hi hv=>?_) (fun x hx hf=>(h5 x hx).resolve_left fun z=>z hf) hs
 have h6':=h6 i (List.mem_range.mpr hi)
 rw [e] at h6'
 dsimp only at h6'
 have hv':∃ kd,scope.names.lookup x = some kd∧(kd = .local∨kd = .cell∨kd = .free):=by
  have yp:(relabel scope X.env).names.lookup x = _:=bR
  unfold rQ at hv
  rw [yp] at hv
  cases q:scope.names.lookup x with
  | none=>rw [q] at hv; simp at hv
  | some kd =>
   refine ⟨kd,rfl,?_⟩
   rw [q] at hv
   cases kd <;> simp at hv ⊢
 obtain ⟨kd,hk,MH⟩:=hv'
 rw [hk] at h6'
 rcases MH with rfl | rfl | rfl
 ·simp at h6'
 ·simp at h6'
 ·have e1:X.N[i]? = some x:=by simpa using h6'
  exact ⟨e1,hk,(h5 _ (bO hk)).resolve_left fun z=>z rfl⟩
theorem Ek {X:Cx} {elt iter target:Expr} {ifs:List Expr} {scope:Scope} {pos:Pos} (N':List Str) (k i:Nat) {ti:oW} {g:sP} {tt:lB} {te:cx} (hc:X.calm = true) (hi:NX X target iter ti)
  (hb:∀ (cl:List (Str × Addr)) (C:Addr) (ex:List Addr) (s:Shared) (H:Hp),DG (aB X N' scope cl C ex s H) target g∧CQ (aB X N' scope cl C ex s H) ifs tt∧DE (aB X N' scope cl C ex s H) elt te)
  (ok:bG X.N X.env.scope N' scope k = true)
  (hs:∀ x,foldedSetIterable iter X.env x = pure x:=by intro _; rfl) {x:Str} {pos' pB:Pos} (JF:X.N.Nodup) (JG:X.N[i]? = some x:=by rfl) (hx:Loc X.env.scope x:=by first | exact Or.inl rfl | exact Or.inr rfl)
  (JH:swapsWith (.ListComp elt [⟨target,iter,ifs,0⟩] scope pos) (some (.Name x pos')) pB.line X.env = pure true:=by rfl) (hf:X.fn x = true∨X.env.scope.names.lookup x = some .local:=by first | exact .inl rfl | exact .inr rfl | assumption) :
  DS X (.Assign [.Name x pos'] (.ListComp elt [⟨target,iter,ifs,0⟩] scope pos) pB) (bw i (dz k ti g tt te)):=by
 unfold bG at ok
 simp only [Bool.and_eq_true,List.all_eq_true,Bool.or_eq_true,bne_iff_ne,ne_eq,beq_iff_eq] at ok
 obtain ⟨⟨⟨⟨⟨h1,h2⟩,MG⟩,h4⟩,h5⟩,h6⟩:=ok
 have h3:∀ x,(x,NameKind.free) ∈ scope.names→(x,NameKind.cell) ∉ scope.names:=fun x hx hc=>by
  have z:=(MG _ hx).resolve_left fun z=>z rfl
  have w:(scope.names.any fun z=>z.1 == x && z.2 == .cell) = true:=List.any_eq_true.mpr ⟨_,hc,by simp⟩
  rw [w] at z; cases z
 refine JE k hc hi hb (by cases q:scope.kind <;> rw [q] at h1 <;> first | rfl | cases h1) (fun y hy hl=>(h2 y hy).resolve_left fun z=>z hl) h3 h4 (fun i x e hi hv=>?_) (fun x hx hf=>(h5 x hx).resolve_left fun z=>z hf) hs i JF JG hx JH hf
 have h6':=h6 i (List.mem_range.mpr hi)
 rw [e] at h6'
 dsimp only at h6'
 have hv':∃ kd,scope.names.lookup x = some kd∧(kd = .local∨kd = .cell∨kd = .free):=by
  have yp:(relabel scope X.env).names.lookup x = _:=bR
  unfold rQ at hv
  rw [yp] at hv
  cases q:scope.names.lookup x with
  | none=>rw [q] at hv; simp at hv
  | some kd =>
   refine ⟨kd,rfl,?_⟩
   rw [q] at hv
   cases kd <;> simp at hv ⊢
 obtain ⟨kd,hk,MH⟩:=hv'
 rw [hk] at h6'
 rcases MH with rfl | rfl | rfl
 ·simp at h6'
 ·simp at h6'
 ·have e1:X.N[i]? = some x:=by simpa using h6'
  exact ⟨e1,hk,(h5 _ (bO hk)).resolve_left fun z=>z rfl⟩
theorem jB {X:Cx} {elt iter target:Expr} {ifs:List Expr} {scope:Scope} {pos:Pos} (N':List Str) (k:Nat) {ti:oW} {g:sP} {tt:lB} {te:cx} (hc:X.calm = true) (hi:DI X target iter ti)
  (hb:∀ (cl:List (Str × Addr)) (C:Addr) (ex:List Addr) (s:Shared) (H:Hp),DG (aB X N' scope cl C ex s H) target g∧CQ (aB X N' scope cl C ex s H) ifs tt∧DE (aB X N' scope cl C ex s H) elt te)
  (ok:bG X.N X.env.scope N' scope k = true)
  (hs:∀ x,foldedSetIterable iter X.env x = pure x:=by intro _; rfl):DE X (.ListComp elt [⟨target,iter,ifs,0⟩] scope pos) (dz k ti g tt te):=Ej N' k hc (O9 hi) hb ok hs
theorem iQ {X:Cx} {elt iter target:Expr} {ifs:List Expr} {scope:Scope} {pos:Pos} (N':List Str) (k i:Nat) {ti:oW} {g:sP} {tt:lB} {te:cx} (hc:X.calm = true) (hi:DI X target iter ti)
  (hb:∀ (cl:List (Str × Addr)) (C:Addr) (ex:List Addr) (s:Shared) (H:Hp),DG (aB X N' scope cl C ex s H) target g∧CQ (aB X N' scope cl C ex s H) ifs tt∧DE (aB X N' scope cl C ex s H) elt te)
  (ok:bG X.N X.env.scope N' scope k = true)
  (hs:∀ x,foldedSetIterable iter X.env x = pure x:=by intro _; rfl) {x:Str} {pos' pB:Pos} (JF:X.N.Nodup) (JG:X.N[i]? = some x:=by rfl) (hx:Loc X.env.scope x:=by first | exact Or.inl rfl | exact Or.inr rfl)
  (JH:swapsWith (.ListComp elt [⟨target,iter,ifs,0⟩] scope pos) (some (.Name x pos')) pB.line X.env = pure true:=by rfl) (hf:X.fn x = true∨X.env.scope.names.lookup x = some .local:=by first | exact .inl rfl | exact .inr rfl | assumption) :
  DS X (.Assign [.Name x pos'] (.ListComp elt [⟨target,iter,ifs,0⟩] scope pos) pB) (bw i (dz k ti g tt te)):=Ek N' k i hc (O9 hi) hb ok hs JF JG hx JH hf
section
variable {X:Cx} {pos:Pos}
noncomputable def jo (i j:Nat):sP:=fun d δ Q=>match d with
 | .tup [x,y]=>Q ((δ.set i (.sh x)).set j (.sh y))
 | _=>False
theorem j9 (i j:Nat) {x y:Str} {px py:Pos} {kk:Nat} (hc:X.calm = true) (hN:X.N.Nodup) (hi:X.N[i]? = some x:=by rfl) (hx:Loc X.env.scope x:=by first | exact Or.inl rfl | exact Or.inr rfl) (hj:X.N[j]? = some y:=by rfl) (hy:Loc X.env.scope y:=by first | exact Or.inl rfl | exact Or.inr rfl)
  (hfx:X.fn x = true∨X.env.scope.names.lookup x = some .local:=by first | exact .inl rfl | exact .inr rfl) (hfy:X.fn y = true∨X.env.scope.names.lookup y = some .local:=by first | exact .inl rfl | exact .inr rfl)
  (NZ:(assignEach [.Name x px,.Name y py] X.env).map (·.2) = assign (.Name x px) X.env :: (assignEach [.Name y py] X.env).map (·.2):=by rfl) (II:(assignEach [.Name y py] X.env).map (·.2) = assign (.Name y py) X.env :: (assignEach [] X.env).map (·.2):=by rfl)
  (hn:(assignEach [.Name x px,.Name y py] X.env).length = 2:=by rfl) (ym:(assignEach [.Name x px,.Name y py] X.env).findIdx? (·.1) = none:=by rfl):DG X (.Tuple [.Name x px,.Name y py] kk pos) (jo i j) :=
 FV (LR hc (yu (wQ (i:=i) hN hi hx hfx) (yu (wQ (i:=j) hN hj hy hfy) IG II) NZ) hn ym) fun v σ H Q2 hx=>hx.el fun n δ G d Q R hv h k=>by
  unfold jo at h
  split at h
  ·obtain ⟨a,vs,rfl,ha,la⟩:=hv.gA
   cases la with
   | cons d1 la=>cases la with
    | cons d2 la =>
     cases la
     exact ⟨a,_,rfl,av.tupS R.sub ha,rfl,_,_,rfl,_,_,rfl,rfl,k _ _ ((R.set i d1).set j d2) h⟩
  ·exact h.elim
end
end Dl
namespace Dl
open PySem PySem.Spec PyProof.Rows L2
section
variable {X:Cx} {e:Expr} {te:cx} {pos p q:Pos}
variable {es:List Expr} {b:Expr} {tb:cx} {ta:lK}
variable {a c:Expr} {ta' tc:cx}
noncomputable def xx (p p':Int→Int→Bool) (ta tb tc:cx):cx:=fun δ Q=>ta δ fun x δ1=>tb δ1 fun y δ2=>match x,y with
 | .int i,.int j=>if p i j = true then tc δ2 fun z δ3=>match z with
   | .int k=>Q (.bl (p' j k)) δ3
   | _=>False
  else Q (.bl false) δ2
 | _,_=>False
theorem By {g g':Int→Int→Bool}:∀ σ H Q,lE X.K (xx g g' ta' tb tc) σ H Q→Fs (CB fun i j=>.bl (g i j)) (CB fun i j=>.bl (g' i j)) (lE X.K ta') (lE X.K tb) (lE X.K tc) σ H Q:=fun σ H Q2 hx=>hx.el fun n δ G Q R h k =>
 ⟨n,δ,G,_,R,h,fun v G1 H1 x δ1 R1 s1 d1 h1=>⟨n,δ1,G1,_,R1,h1,fun w G2 H2 y δ2 R2 s2 d2 h2=>by
  split at h2
  ·rename_i i j
   cases d1.int_inv; cases d2.int_inv
   refine ⟨i,j,rfl,rfl,g i j,rfl,?_⟩
   split at h2
   ·rename_i hc
    rw [if_pos hc]
    refine ⟨n,δ2,G2,_,R2,h2,fun u G3 H3 z δ3 R3 s3 d3 h3=>?_⟩
    split at h3
    ·rename_i l
     cases d3.int_inv
     exact ⟨j,l,rfl,rfl,k _ G3 H3 _ δ3 R3 (s1.trans (s2.trans s3)) (.bl _) h3⟩
    ·exact h3.elim
   ·rename_i hc
    rw [if_neg hc]
    exact k _ G2 H2 _ δ2 R2 (s1.trans s2) (.bl _) h2
  ·exact h2.elim⟩⟩
theorem GK {op op':CmpOp} {g g':Int→Int→Bool} (ho:jW X (compareOp op) (CB fun i j=>.bl (g i j))) (ho':jW X (compareOp op') (CB fun i j=>.bl (g' i j))) (ha:DE X a ta') (hb:DE X b tb) (hc:DE X c tc)
  (hm:lastMarks [op,op'] [b,c] = false:=by with_unfolding_all rfl):DT X (.Compare a [op,op'] [b,c] pos) (dB (xx g g' ta' tb tc)) :=
 xc (Ft ho ho' ha hb hc hm) fun σ H Q2 hx=>hx.el fun n δ G Q R h k=>By σ H _ ⟨n,δ,G,_,R,h,fun v G1 H1 d δ1 R1 s1 d1 h1=>by
  cases d with
  | bl c=>exact ⟨c,d1.w8,k c G1 H1 δ1 R1 s1 h1⟩
  | _=>exact h1.elim⟩
end
end Dl
namespace Dl
open PySem PySem.Spec PyProof.Rows L2
noncomputable def JI (p:Addr) (a b c:Int):HO:=.ext fun h=>∃ t u v,IsRange h p a b c t u v
section
variable {X:Cx} {pos p q:Pos}
noncomputable def Pe:List V→Hp→VK→Prop:=fun xs H Q=>∃ i j k,xs = [.int i,.int j,.int k]∧0 < k∧k < 1073741824∧∀ p,H p = none→Q (.ref p) (upd H p (JI p i j k))
theorem El:dq X (.type "range") Pe:=by
 rintro pins s σ H xs us Q I r ⟨i,j,k,rfl,h0,h1,q⟩
 cases r with
 | cons r1 r2=>cases r2 with
  | cons r2 r3=>cases r3 with
   | cons r3 r4 =>
    cases r4
    obtain ⟨t,rfl⟩:=r1
    obtain ⟨u,rfl⟩:=r2
    obtain ⟨v,rfl⟩:=r3
    refine call_range_3 (by omega) ?_ (.inl (PyProof.noPylong_small (by omega)))
    refine ⟨.ref s.heap.objs.size,upd H s.heap.objs.size (JI s.heap.objs.size i j k),I.laid (t':=s.toks) (fun b o e=>Heap.get?_push_of_some _ e) (Nat.le_refl _) ?_,rfl,q _ I.fresh⟩
    refine ⟨⟨t,u,v,Heap.get?_push_size _ rfl⟩,⟨_,Heap.get?_push_size _ rfl⟩,fun h1 h2 ⟨t,u,v,e⟩ k=>⟨t,u,v,k _ e⟩⟩
noncomputable def ma (a c:Int) (n:Nat):List Int:=(List.range n).map fun i=>a + (i:Nat) * c
noncomputable def t5 (a b c:Int):Nat:=if a < b then ((b - a - 1) / c + 1).toNat else 0
noncomputable def JJ:List V→Hp→VK→Prop:=fun xs H Q=>∃ p i j k,xs = [.ref p]∧H p = some (JI p i j k)∧0 < k∧-1000000000 ≤ i∧i ≤ 1000000000∧-1000000000 ≤ j∧j ≤ 1000000000∧k ≤ 1000000000∧t5 i j k ≤ 2 ^ 24 ∧
 ∀ l,H l = none→Q (.ref l) (upd H l (.lst ((ma i k (t5 i j k)).map V.int)))
theorem vj {a c:Int}:∀ {n:Nat} {acc:List Value},acc.length = n→(∀ (j:Nat) v,acc[j]? = some v→∃ t,v = .int (a + (j:Nat) * c) t)→Vals ((ma a c n).map V.int) acc:=by
 intro n
 induction n with
 | zero=>intro acc h _; cases acc with
  | nil=>exact .nil
  | cons _ _=>cases h
 | succ n ih =>
  intro acc h hi
  have e:acc = acc.take n ++ [acc[n]'(by omega)]:=by
   have z:=List.take_append_drop n acc
   rw [List.drop_eq_getElem_cons (by omega),List.drop_eq_nil_of_le (by omega)] at z
   exact z.symm
  have e2:ma a c (n + 1) = ma a c n ++ [a + (n:Nat) * c]:=by simp [ma,List.range_succ]
  rw [e2,List.map_append,e]
  refine Vals.append (ih (by rw [List.length_take]; omega) fun j v hj=>hi j v ?_) (.cons (hi n _ (List.getElem?_eq_getElem _)) .nil)
  rw [List.getElem?_take] at hj
  split at hj
  ·exact hj
  ·cases hj
theorem xy (hc:X.calm = true):dq X (.type "list") JJ:=by
 rintro pins s σ H xs us Q I r ⟨p,i,j,k,rfl,hp,h0,a1,a2,b1,b2,c2,hn,q⟩
 obtain ⟨u,rfl,ru⟩:=r.one
 cases ru
 obtain ⟨⟨t,u,v,hr⟩,_,_⟩:=I.bE p _ hp
 have hd:0 ≤ (j - i - 1) / k∨¬ i < j:=by
  by_cases z:i < j
  ·exact .inl (Int.ediv_nonneg (by omega) (by omega))
  ·exact .inr z
 have hsz:Builtin.Range.rangeSize i j k = (t5 i j k:Nat):=by
  unfold Builtin.Range.rangeSize t5
  rw [if_pos h0]
  split
  ·rcases hd with z | z
   ·omega
   ·exact absurd (by assumption) z
  ·rfl
 have hsm:Builtin.Range.small i j k = true:=by
  unfold Builtin.Range.small
  rw [hsz]
  simp only [Builtin.Range.rangeFitsLong,Bool.and_eq_true,Bool.or_eq_true,decide_eq_true_eq,beq_iff_eq]
  have:(t5 i j k:Int) ≤ 2 ^ 24:=by exact_mod_cast hn
  refine ⟨⟨⟨⟨⟨by omega,by omega⟩,by omega,by omega⟩,by omega,by omega⟩,by omega,by omega⟩,.inr ?_⟩
  rw [if_pos (by omega),Bool.and_eq_true,decide_eq_true_eq,decide_eq_true_eq]
  omega
 refine PySem.call_list_range (I.ok.hd hc) hr hsm hsz hn fun h' tk acc' c' hk hl hi=>?_
 have hv:Vals ((ma i k (t5 i j k)).map V.int) acc'.toList:=vj (by simpa using hi.1) fun m v hm=>by
  obtain ⟨t,e⟩:=hi.2 m v (by simpa using hm)
  exact ⟨t,e⟩
 refine ⟨.ref s.heap.objs.size,upd H s.heap.objs.size (.lst ((ma i k (t5 i j k)).map V.int)),I.laid (t':=tk) hk (Nat.le_refl _) ?_,rfl,q _ I.fresh⟩
 refine ⟨by rw [List.length_map]; simp only [ma,List.length_map,List.length_range]; exact hn,acc'.toList,c',hv,?_⟩
 simpa using hl
noncomputable def xA (ta:lK):cx:=fun δ Q=>ta δ fun ds δ1=>match ds with
 | [.int i,.int j,.int k]=>0 < k∧-1000000000 ≤ i∧i ≤ 1000000000∧-1000000000 ≤ j∧j ≤ 1000000000∧k ≤ 1000000000∧t5 i j k ≤ 2 ^ 24∧Q (.lst ((ma i k (t5 i j k)).map D.int)) δ1
 | _=>False
theorem vk {a b c:Expr} {ta:lK} {cp:Pos} (hc:X.calm = true) (hl:X.mg "list" = none) (hr:X.mg "range" = none) (ha:DA X [a,b,c] ta) (hg:Gl X "list":=by rfl) (Tz:Gl X "range":=by rfl)
  (h1:starEach [a,b,c] X.env = (false,eval a X.env) :: starEach [b,c] X.env:=by rfl) (h2:(backTo cp (starEach [b,c] X.env)).any (·.1) = false:=by rfl)
  (h3:starEach [Expr.Call (.Name "range" q) [a,b,c] [] cp] X.env = (false,eval (Expr.Call (.Name "range" q) [a,b,c] [] cp) X.env) :: starEach [] X.env:=by rfl) (h4:(backTo pos (starEach [] X.env)).any (·.1) = false:=by rfl) :
  DE X (.Call (.Name "list" p) [.Call (.Name "range" q) [a,b,c] [] cp] [] pos) (xA ta) :=
 bx (ng (xy hc) hg hl (by rfl) (jX (ng El Tz hr (by rfl) ha (by decide) (by decide) h1 h2) oo h3) (by decide) (by decide) h3 h4) fun σ H Q2 hx=>hx.el fun n δ G Q R h k =>
  ⟨n,δ,G,_,R,h,fun vs G1 H1 ds δ1 R1 s1 d1 h1=>by
   split at h1
   ·rename_i i j k'
    have ev:vs = [.int i,.int j,.int k']:=by
     cases d1 with | cons e1 d1=>cases d1 with | cons e2 d1=>cases d1 with | cons e3 d1=>cases d1; cases e1; cases e2; cases e3; rfl
    obtain ⟨k0,i1,i2,j1,j2,k2,hn,hq⟩:=h1
    refine ⟨i,j,k',ev,k0,by omega,fun r hr'=>?_⟩
    have hG:G1 r = none:=R1.sub.free hr'
    have R2:Rel X.K n δ1 σ G1 (upd H1 r (JI r i j k')):=R1.other hG (R1.al _ hr') (R1.xb hr') _
    refine ⟨r,i,j,k',rfl,aq,k0,i1,i2,j1,j2,k2,hn,fun l hl'=>?_⟩
    exact k _ _ _ _ δ1 (R2.laid hl' _) (s1.trans (aC (R2.sub.free hl') _)) (.lst (gG.of aq) ((aH.ints _).up (aC (R2.sub.free hl') _))) hq
   ·exact h1.elim⟩
end
end Dl
namespace Dl
open PySem PySem.Spec PyProof.Rows L2
section
variable {A:Around} {prog:Program} {w:World} {s:Shared} {E:Value→Shared→Prop}
variable {zz ti to i1 i2 a1 a2:Addr} {b1 b2:Bool} {k:Nat} {xs ys:Array Value} {u v:Value}
end
end Dl
namespace Dl
open PySem PySem.Spec PyProof.Rows L2
section
variable {X:Cx} {pins:List (Addr × Obj)} {σ:L2.St} {H:Hp} {s:Shared} {b:Bool} {a:Addr} {xs ys:List V}
end
section
variable {X:Cx} {elts:List Expr} {kk:Nat} {tp p pos:Pos} {a c:Expr}
end
end Dl
namespace Dl
open PySem PySem.Spec PyProof.Rows L2
section
variable {X:Cx} {a b e:Expr} {ta tb te:cx} {pos:Pos}
noncomputable def JK (i:Nat) (te:cx):bC:=fun E δ=>match δ[i]? with
 | some (.ow _)=>te δ fun d δ1=>match δ1[i]?,d with
  | some (.ow l),.lst m=>l.length + m.length ≤ sizeLine∧E.nx (δ1.set i (.ow (l ++ m)))
  | _,_=>False
 | _=>False
end
section
variable {X:Cx} {e:Expr} {es:List Expr} {t:lK} {p pos:Pos}
noncomputable def rj:List D→Option (List Int)
 | []=>some []
 | .int i :: r=>(rj r).map (i :: ·)
 | _ :: _=>none
theorem kg:∀ {l:List D} {ns:List Int},rj l = some ns→l = ns.map D.int
 | [],ns,h=>by cases h; rfl
 | .int i :: r,ns,h=>by
  unfold rj at h
  cases q:rj r with
  | none=>rw [q] at h; cases h
  | some m=>rw [q] at h; cases h; rw [kg q]; rfl
theorem nr:∀ ns:List Int,rj (ns.map D.int) = some ns
 | []=>rfl
 | i :: r=>by show (rj (r.map D.int)).map (i :: ·) = _; rw [nr r]; rfl
theorem aH.pC {K:PySem.W.Frag} {G:Hp}:∀ {vs:List V} {ns:List Int},aH K G vs (ns.map D.int)→vs = ns.map V.int
 | _,[],.nil=>rfl
 | _,_ :: _,.cons h t=>by rw [h.int_inv,aH.pC t]; rfl
end
end Dl
namespace Dl
open PySem L2
noncomputable def MI (te:cx) (tl th:Mn):cx:=fun δ Q=>te δ fun x δ1=>tl δ1 fun l δ2=>th δ2 fun u δ3=>∃ d,Tg x l u = some d∧Q d δ3
noncomputable def MJ:D→Option (List D)
 | .lst l=>some l
 | _=>none
theorem GL {l:List D}:MJ (.lst l) = some l:=rfl
noncomputable def vY:RC:=fun ds Q=>match ds with
 | [d]=>∃ l,MJ d = some l∧∃ ns,rj l = some ns∧ns ≠ []∧ns.length < 64∧∀ m:Int,m ∈ ns→(∀ x ∈ ns,m ≤ x)→Q (.int m)
 | _=>False
noncomputable def pD:RC:=fun ds Q=>match ds with
 | [d]=>∃ l,xp d = some l∧∃ ns,rj l = some ns∧ns.length < 64∧∀ ms:List Int,ms.Pairwise (· < ·)→(∀ t,t ∈ ms ↔ t ∈ ns)→Q (.lst (ms.map D.int))
 | _=>False
noncomputable def GN (x:Str):List D:=x.cps.toList.map fun c=>.str ⟨#[c]⟩
noncomputable def atS (x:Str):D→Option D
 | .int i=>if 0 ≤ i then (GN x)[i.toNat]? else none
 | _=>none
theorem JL {x:Str} {i:Int}:atS x (.int i) = if 0 ≤ i then (GN x)[i.toNat]? else none:=rfl
noncomputable def CT (x:Str) (te:cx):cx:=fun δ Q=>te δ fun d δ1=>∃ e,atS x d = some e∧Q e δ1
end Dl
namespace Dl
open PySem L2
end Dl
namespace HT
open PySem PyProof.Rows
section
variable {prog:Program} {w:World} {A:Around} {E:Value→Shared→Prop} {s:Shared}
theorem Bz {t sl:Addr} {its:Array Value} {vl vu:Value} {lo hi:Option Int} {Q:Value→Shared→Prop} (ht:IsTup s.heap t its) (hs:s.heap.IsSliceOf sl vl vu .none) (pl:IsPart vl lo) (pu:IsPart vu hi)
  (hw:eB its.size 0 lo = 0∧eB its.size its.size hi = its.size) (q:Q (.ref t) s):wpAny (model prog w) A (getItem (.ref t) (.ref sl)) Q E s:=by
 obtain ⟨o,eo,co,_⟩:=id hs
 have ty:s.TypeIs (.ref sl) "slice":=⟨o,eo,co⟩
 unfold getItem
 try with_reducible refine wpAny_holding ?_
 first | refine wpAny_bind (wpAny_pure ?_) | skip
 refine wpAny_bind (wpAny_sequenceKey ht.typeIs (by decide) (wpAny_bind (wpAny_callSpecial?_slot (name:=Str.ofString "__getitem__") ht.typeIs PyProof.Rows.slot_tuple_getitem (wpAny_call_entry PyProof.Rows.slot_tuple_getitem ht.typeIs entry_tuple_getitem ?_ (args_tuple_getitem _ _)))))
 show wpAny _ _ (Builtin.Tuple.tupleItemsOf (.ref t) >>= _) _ _ s
 refine wpAny_bind (tupleItemsOf_ ht (wpAny_bind (wpAny_typeOf ty ?_)))
 rw [if_pos (by decide)]
 refine wpAny_bind (jw hs pl pu ?_)
 show wpAny _ _ (if (((eB its.size 0 lo:Nat):Int) == 0 && (1:Int) == 1 && (eB its.size its.size hi - eB its.size 0 lo) == its.size) = true then _ else _) _ _ s
 rw [if_pos (by rw [hw.1,hw.2]; simp)]
 unfold Builtin.Tuple.tupleIsExact
 refine wpAny_bind (wpAny_bind (wpAny_typeOf ht.typeIs (wpAny_pure ?_)))
 rw [if_pos (by decide)]
 exact wpAny_bind (wpAny_rule (wpAny_pure ⟨_,rfl,wpAny_pure q⟩))
end
end HT
namespace Dl
open PySem PySem.Spec PyProof.Rows L2
section
variable {X:Cx} {a:Expr} {ta:cx} {pos:Pos}
theorem JM:Iu X (fun x lo hi H Q=>∃ a xs,x = .ref a∧kT X.K H a xs∧(HT.eB xs.length 0 lo = 0∧HT.eB xs.length xs.length hi = xs.length)∧Q (.ref a) H):=by
 intro pins s σ H x v vl vu lo hi sl Q I rx hs pl pu ⟨a,xs,e,hx,hw,q⟩
 subst e
 cases rx
 obtain ⟨its,r,ht,hz⟩:=I.tuple hx
 have el:its.toArray.size = xs.length:=by rw [List.size_toArray]; exact r.length.symm
 exact ⟨"tuple",_,PyProof.Rows.slot_tuple_getitem.lookup,ht.typeIs,HT.Bz ht hs pl pu (by rw [el]; exact hw) ⟨.ref a,H,I,rfl,q⟩⟩
theorem Em {l:List D} {lo hi:Option Int} (h:HT.eB l.length 0 lo = 0∧HT.eB l.length l.length hi = l.length):cutD l lo hi = l:=by
 unfold cutD; rw [h.1,h.2,List.drop_zero,Nat.sub_zero,List.take_length]
theorem Eo {lo hi:Option Expr} {tl th:Mn} {p2:Pos} (he:DE X a ta) (hl:DO X lo tl) (hu:DO X hi th):DE X (.Subscript a (.Slice lo hi none p2) pos) (MI ta tl th) :=
 bx (FE (Iu.or (Iu.or Jd Mb) JM) he hl hu) fun σ H Q2 hx=>hx.el fun n δ G Q R h k=>⟨n,δ,G,_,R,h,fun v G1 H1 d δ1 R1 s1 d1 h1=>⟨n,δ1,G1,_,R1,h1,fun l G2 H2 δ2 R2 s2 h2=>⟨n,δ2,G2,_,R2,h2,fun u G3 H3 δ3 R3 s3 ⟨w,e,h3⟩=>by
  have d3:=d1.up (s2.trans s3)
  cases d with
  | lst m =>
   cases e
   obtain ⟨a,vs,rfl,ha,la⟩:=d3.lst_inv
   exact .inl (.inl ⟨a,vs,rfl,R3.sub.seq ha,fun p hp=>k _ _ _ _ δ3 (R3.laid hp _) (s1.trans (s2.trans (s3.trans (aC (R3.sub.free hp) _)))) (.lst (gG.of aq) ((CN la l u).up (aC (R3.sub.free hp) _))) h3⟩)
  | tup m =>
   cases e
   obtain ⟨a,vs,rfl,ha,la⟩:=d3.gA
   by_cases hw:HT.eB m.length 0 l = 0∧HT.eB m.length m.length u = m.length
   ·rw [Em hw] at h3
    exact .inr ⟨a,vs,rfl,av.tupS R3.sub ha,by rw [la.length]; exact hw,k _ G3 H3 _ δ3 R3 (s1.trans (s2.trans s3)) d3 h3⟩
   ·exact .inl (.inr ⟨a,vs,rfl,av.tupS R3.sub ha,by rw [la.length]; exact hw,fun p hp=>k _ _ _ _ δ3 (R3.laid hp _) (s1.trans (s2.trans (s3.trans (aC (R3.sub.free hp) _)))) (.tup (kT.of aq) ((CN la l u).up (aC (R3.sub.free hp) _))) h3⟩)
  | _=>cases e⟩⟩⟩
end
end Dl
namespace Dl
open PySem PySem.Spec PyProof.Rows L2
section
variable {X:Cx} {e:Expr} {es:List Expr} {t:lK} {p pos:Pos}
open AutoSeq1 in
theorem GO (l:Addr) (xs:Array Value) (n:Nat) (b:Addr) (ys:Array Value) (m:Nat) (dd:Option Addr) (sl:Array (Option Value)) (h0:¬ (!xs.isEmpty && Builtin.List.listTooLong (xs.size + ys.size)) = true) (h1:xs.size ≤ sizeLine) (h2:xs.size + ys.size ≤ sizeLine + 1) :
  Meets (Builtin.«list.extend» ⟨[.ref l,.ref b],[]⟩) (fun _ R s=>s.heap.get? l = some { cls:=.type "list",dict:=none,data:=.seq xs n,slots:=#[] }∧s.heap.get? b = some { cls:=.type "list",dict:=dd,data:=.seq ys m,slots:=sl } ∧
   R (.ok (.ret Value.none)) { s with heap:=s.heap.update l (Obj.mapSeq fun x=>x ++ ys) }) :=
 .of_wp fun prog w A R s h=>by
  obtain ⟨hp,g,d,tk,os⟩:=s
  obtain ⟨hl,hb,h⟩:=h
  have f3:=AutoSeq1.sub_list_list
  have hz':(xs ++ ys).size ≤ sizeLine + 1:=by rw [Array.size_append]; exact h2
  wp_walk using (wpAny_updateSeq hl rfl (hz:=h1) (_hz':=hz')),wpAny_loadPart' hl,wpAny_loadPart' hb
  exact ⟨_,rfl,h⟩
noncomputable def GP (K:PySem.W.Frag):V→List V→Hp→VK→Prop:=fun x vs H Q=>∃ (l b:Addr) (xs zs:List V),x = .ref l∧vs = [.ref b]∧H l = some (.lst xs)∧gG K H b zs∧xs.length + zs.length ≤ sizeLine∧Q .aU (upd H l (.lst (xs ++ zs)))
theorem BA:Zq X "list.extend" (GP X.K):=by
 rintro pins s σ H x vs v us Q I rx rv ⟨l,b,xs,zs,rfl,rfl,hH,hB,hz,q⟩
 cases rx
 obtain ⟨u,rfl,ru⟩:=rv.one
 cases ru
 obtain ⟨z,its,n,r,hl,e⟩:=I.OT hH
 obtain ⟨vb,r2,SO,z2⟩:=I.list hB
 obtain ⟨⟨L9,IX,data2,Iq⟩,n2,e2,c2,d2,k2⟩:=SO
 simp only at c2 d2 k2
 subst c2 d2 k2
 have el:=r.length
 have el2:=r2.length
 have SE:¬ (!its.toArray.isEmpty && Builtin.List.listTooLong (its.toArray.size + vb.toArray.size)) = true:=by
  rw [FI (by rw [List.size_toArray,List.size_toArray]; omega),Bool.and_false]; exact Bool.false_ne_true
 refine call_meets F.slot_list_extend ⟨_,e,rfl⟩ F.entry_list_extend (F.args_list_extend_2 _ _) (GO l its.toArray n b vb.toArray n2 none Iq SE (by rw [List.size_toArray]; omega) (by rw [List.size_toArray,List.size_toArray]; omega)) ⟨e,e2,?_⟩
 refine ⟨.aU,_,I.OS (its':=its ++ vb) hH e (by simp) (r.append r2) (by rw [List.length_append]; exact hz),rfl,q⟩
theorem Ep (i:Nat) {x:Str} {e₀:Expr} {np ap cp:Pos} {te:cx} (he:DE X e₀ te) (hN:X.N[i]? = some x:=by rfl) (hv:rQ X.env.scope x:=by first | exact Or.inl rfl | exact Or.inr (Or.inl rfl) | exact Or.inr (Or.inr rfl))
  (hd:(x == ("__debug__":Str)) = false:=by decide) (om:(x == ("__classdict__":Str)) = false:=by decide)
  (hs:swapsWith (.Call (.Attribute (.Name x np) "extend" ap) [e₀] [] cp) none pos.line X.env = pure false:=by rfl)
  (lU:attributeBase (.Name x np) "extend" X.env (eval (.Name x np) X.env) = eval (.Name x np) X.env:=by rfl)
  (tL:((backTo cp (starEach [e₀] X.env)).all (fun x=>!x.1) && (backToKw cp (keywordEach [] X.env)).all (fun x=>x.1.isSome)
   && decide ([e₀].length + ([]:List Keyword).length + (if ([]:List Keyword).isEmpty then 0 else 1) < 30)) = true:=by rfl)
  (lV:(ap.endLine == cp.line) = true:=by rfl) (ym:starEach [e₀] X.env = (false,eval e₀ X.env) :: starEach [] X.env:=by rfl) (oq:(backTo cp (starEach [] X.env)).any (·.1) = false:=by rfl) :
  DS X (.Expr (.Call (.Attribute (.Name x np) "extend" ap) [e₀] [] cp) pos) (JK i te) :=
 gc (wO (FH PySem.F.plainAttrs_list PySem.F.slot_list_extend PySem.F.type_list_extend BA (iM hN hv hd om) (jX he oo ym) lU tL lV ym oq) hs) fun F σ H hx=>hx.el fun n δ G E R h k=>by
  unfold JK at h
  split at h
  ·rename_i l0 e0
   obtain ⟨p,vs,g1,g2,g3,g4,g5⟩:=R.sl i _ e0
   refine ⟨.ref p,g1,.inl ⟨rfl,vs,gG.of g2⟩,n,δ,G,_,R,h,fun v G1 H1 d δ1 R1 s1 d1 h1=>?_⟩
   split at h1
   ·rename_i l1 m e1
    obtain ⟨q,ws,k1,k2,k3,k4,k5⟩:=R1.sl i _ e1
    rw [g1] at k1; cases k1
    obtain ⟨b,zs,rfl,hb,lb⟩:=d1.lst_inv
    exact ⟨p,b,ws,zs,rfl,rfl,k2,R1.sub.seq hb,by rw [k5.length,lb.length]; exact h1.1,k.nx _ σ G1 _ (R1.change e1 g1 (k5.append lb)) h1.2⟩
   ·exact h1.elim
  ·exact h.elim
end
end Dl
namespace Dl
open PySem PySem.Spec PyProof.Rows L2
section
variable {X:Cx} {pins:List (Addr × Obj)} {σ:L2.St} {H:Hp} {s:Shared} {fp:List Addr}
theorem Inv.yields {g:Heap} {tk:Nat} {vs:List V} {us:List Value} (I:Inv X pins σ H s) (hf:∀ b ∈ fp,lP X pins H b) (fo:∀ b ∈ fp,∃ o,s.heap.get? b = some o)
  (kp:∀ c o,c ∉ fp→s.heap.get? c = some o→g.get? c = some o) (pT:IsTup g s.heap.objs.size us.toArray) (rv:Vals vs us) (hz:vs.length ≤ sizeLine) :
  Inv X pins σ (upd H s.heap.objs.size (.tup vs)) { s with heap:=g,toks:=tk }∧∀ b ∈ fp,upd H s.heap.objs.size (.tup vs) b = none:=by
 have tu:∀ b ∈ fp,H b = none:=fun b hb=>(hf b hb).1
 have lt:∀ {b:Addr} {o:Obj},s.heap.get? b = some o→b ≠ s.heap.objs.size:=fun e=>Nat.ne_of_lt (Heap.lt_size e)
 have Im:∀ {b:Addr} {o:HO},H b = some o→b ∉ fp:=fun e hb=>by rw [tu _ hb] at e; cases e
 have fr:H s.heap.objs.size = none:=I.bE.fresh (Nat.le_refl _)
 have un:Un (AK X.stack) fp H (upd H s.heap.objs.size (.tup vs)) s.heap g:=by
  refine ⟨fun b o e _ _ nx=>kp b o nx e,fun b o e _ _ nx=>⟨o.slots,kp b o nx e⟩,fun b o e n _=>by rw [aj (lt e)]; exact n,fun b o e nx=>⟨o,kp b o nx e⟩,fun b zs e=>?_,fun b o' w' e=>?_,fun b ps e=>⟨#[],?_⟩⟩
  ·rw [aj (aR e fr)]; exact e
  ·rw [aj (aR e fr)]; exact e
  ·rw [aj (aR e fr),e]; simp
 have bE:nF X.prog X.w (upd H s.heap.objs.size (.tup vs)) g:=fun b o e=>by
  by_cases hb:b = s.heap.objs.size
  ·subst hb
   rw [aq] at e; cases e
   exact ⟨hz,us,rv,pT⟩
  ·rw [aj hb] at e
   refine (I.bE b o e).oj (fun c w' hc' q=>kp c w' ?_ q) (fun c q=>by rw [aj (aR q fr)]; exact q) fun c zs q=>by rw [aj (aR q fr)]; exact q
   rcases hc' with rfl | hc'
   ·exact Im e
   ·exact Im hc'
 refine ⟨I.call' (s':={ s with heap:=g,toks:=tk }) (ch:=fp) rfl un bE I.bare fun b hb=>⟨(hf b hb).2.2.2.1,(hf b hb).2.1,(hf b hb).2.2.2.2.1,(hf b hb).2.2.2.2.2⟩,fun b hb=>?_⟩
 obtain ⟨o,eo⟩:=fo b hb
 rw [aj (lt eo)]; exact tu b hb
theorem Inv.turns {g:Heap} {tk:Nat} (I:Inv X pins σ H s) (hf:∀ b ∈ fp,lP X pins H b) (kp:∀ c o,c ∉ fp→s.heap.get? c = some o→g.get? c = some o):Inv X pins σ H { s with heap:=g,toks:=tk }:=by
 have tu:∀ b ∈ fp,H b = none:=fun b hb=>(hf b hb).1
 have Im:∀ {b:Addr} {o:HO},H b = some o→b ∉ fp:=fun e hb=>by rw [tu _ hb] at e; cases e
 have un:Un (AK X.stack) fp H H s.heap g:=⟨fun b o e _ _ nx=>kp b o nx e,fun b o e _ _ nx=>⟨o.slots,kp b o nx e⟩,fun _ _ _ n _=>n,fun b o e nx=>⟨o,kp b o nx e⟩,fun _ _ e=>e,fun _ _ _ e=>e,fun b ps e=>⟨#[],by rw [e]; simp⟩⟩
 have bE:nF X.prog X.w H g:=fun b o e=>by
  refine (I.bE b o e).oj (fun c w' hc' q=>kp c w' ?_ q) (fun c q=>q) fun c zs q=>q
  rcases hc' with rfl | hc'
  ·exact Im e
  ·exact Im hc'
 exact I.call' (s':={ s with heap:=g,toks:=tk }) (ch:=fp) rfl un bE I.bare fun b hb=>⟨(hf b hb).2.2.2.1,(hf b hb).2.1,(hf b hb).2.2.2.2.1,(hf b hb).2.2.2.2.2⟩
end
open AutoSeq1 in
section
variable {prog:Program} {w:World} {A:Around} {E:Value→Shared→Prop} {s:Shared} {b:Bool} {p:Addr} {xs:Array Value}
end
section
variable {X:Cx} {elts:List Expr} {kk:Nat} {tp p pos:Pos} {a:Expr}
end
end Dl
namespace Dl
open PySem PySem.Spec PyProof.Rows L2
section
variable {X:Cx} {b:Expr} {tb:cx} {x:Str} {j:Nat} {cp pos:Pos}
theorem GQ {x:Str} {d e:D} (h:atS x d = some e):∃ (i:Int) (c:Nat),d = .int i∧0 ≤ i∧x.cps[i.toNat]? = some c∧e = .str ⟨#[c]⟩:=by
 unfold atS at h
 split at h
 ·rename_i i
  by_cases h0:0 ≤ i
  ·rw [if_pos h0] at h
   unfold GN at h
   rw [List.getElem?_map,Array.getElem?_toList] at h
   cases q:x.cps[i.toNat]? with
   | none=>rw [q] at h; cases h
   | some c=>rw [q] at h; cases h; exact ⟨i,c,rfl,h0,q,rfl⟩
  ·rw [if_neg h0] at h; cases h
 ·cases h
noncomputable def Pf (x:Str):RD:=fun v y Q=>match v with
 | .str z=>z = x∧∃ e,atS x y = some e∧Q e
 | _=>False
theorem Pg {K:PySem.W.Frag} (hx:x.length ≤ sizeLine):AH K (SG K) (Pf x):=fun G H v y dv dy Q Q2 s hv hy h k=>by
 unfold Pf at h
 split at h
 ·obtain ⟨rfl,e,he,q⟩:=h
  obtain ⟨i,c,rfl,h0,hc,rfl⟩:=GQ he
  cases hv.str_inv
  cases hy.int_inv
  refine .inr (.inr ⟨_,i,c,rfl,rfl,hx,?_,k _ G H _ (Ext.refl s) (.str _) q⟩)
  have e:((i.toNat:Nat):Int) = i:=Int.toNat_of_nonneg h0
  rw [← e]
  exact il (by rw [Array.getElem?_toList]; exact hc)
 ·exact h.elim
theorem GR {δ:Ev} {Q:QE} (h:CT x tb δ Q):aD (Pf x) (dC (.str x)) tb δ Q:=by
 have e:(fun (y:D) (δ2:Ev)=>Pf x (.str x) y fun d=>Q d δ2) = fun y δ2=>∃ e,atS x y = some e∧Q e δ2:=funext fun y=>funext fun δ2=>propext ⟨fun h=>h.2,fun h=>⟨rfl,h⟩⟩
 show tb δ (fun y δ2=>Pf x (.str x) y fun d=>Q d δ2)
 rw [e]
 exact h
theorem JN (hb:DE X b tb) (hx:x.length ≤ sizeLine:=by decide +kernel) (hp:sM b:=by exact fun _ _=>rfl):DE X (.Subscript (.Constant (.str x) j cp) b pos) (CT x tb) :=
 bx (FP FG (Pg hx) gf hb hp) fun σ H Q2 hx=>hx.el fun n δ G Q R h k=>⟨n,δ,G,Q,R,GR h,k⟩
end
section
variable {X:Cx} {tg:Expr} {x:Str} {j:Nat} {cp:Pos}
end
end Dl
namespace Dl
open PySem PySem.Spec PyProof.Rows L2
section
variable {X:Cx} {e:Expr} {es:List Expr} {t:lK} {p pos:Pos}
theorem g9:∀ {us:List Value} {ns:List Int},IntsAre us ns→Vals (ns.map V.int) us
 | _,_,.nil=>.nil
 | _,_,.cons n t h=>.cons ⟨t,rfl⟩ (g9 h)
noncomputable def BB (K:PySem.W.Frag):List V→Hp→VK→Prop:=fun xs H Q=>∃ (p:Addr) (ns:List Int),xs = [.ref p]∧gG K H p (ns.map V.int)∧ns.length < 64 ∧
 ∀ ms:List Int,ms.Perm ns→ms.Pairwise (· ≤ ·)→∀ l,H l = none→Q (.ref l) (upd H l (.lst (ms.map V.int)))
theorem BC:dq X (.builtin "sorted") (BB X.K):=by
 rintro pins s σ H xs us Q I r ⟨p,ns,rfl,hq,AI,q⟩
 obtain ⟨u,rfl,ru⟩:=r.one
 cases ru
 obtain ⟨its,rv,pl,hz⟩:=I.list hq
 have hi:=intsAre_of rv
 have el:=rv.length
 rw [List.length_map] at el
 refine sorted_ints pl.isList hi (by omega) fun out ms a1 a2 a3=>?_
 obtain ⟨n,he⟩:=sortedAll_at s.heap its out
 have lm:=a2.length_eq
 refine ⟨.ref _,_,I.laid (a:=s.heap.objs.size + 1) (o:=.lst (ms.map V.int)) (t':=s.toks) (fun _ _=>sortedAll_old) (Nat.le_succ _) ⟨?_,out.toList,n,g9 a1,?_⟩,rfl,q ms a2 a3 _ (I.bE.fresh (Nat.le_succ _))⟩
 ·rw [List.length_map,lm]
  exact Nat.le_trans (show ns.length ≤ 64 by omega) (by decide)
 ·rw [he]
theorem t6 (val:Nat→Int):∀ i,(firstMet val i).Nodup
 | 0=>by rw [firstMet_zero]; exact .nil
 | i + 1=>by
  rw [firstMet_succ]
  unfold step_dedup
  split
  ·exact t6 val i
  ·rename_i h
   refine List.nodup_append.mpr ⟨t6 val i,by simp,fun a ha b hb e=>h ?_⟩
   rw [List.mem_singleton] at hb
   subst e hb
   exact List.any_eq_true.mpr ⟨_,ha,by simp⟩
theorem MK (ns:List Int) (t:Int):t ∈ firstMet (fun i=>ns.getD i 0) ns.length ↔ t ∈ ns:=by
 have h:=firstMet_any (fun i=>ns.getD i 0) ns.length t
 have e:(List.range ns.length).map (fun i=>ns.getD i 0) = ns:=by
  apply List.ext_getElem?
  intro i
  rw [List.getElem?_map]
  by_cases z:i < ns.length
  ·rw [List.getElem?_range z,List.getElem?_eq_getElem z]; simp [z]
  ·rw [List.getElem?_eq_none (by simp; omega),List.getElem?_eq_none (by omega)]; rfl
 rw [e] at h
 constructor
 ·intro z
  have:ns.any (· == t) = true:=by rw [← h]; exact List.any_eq_true.mpr ⟨t,z,by simp⟩
  obtain ⟨x,hx,ex⟩:=List.any_eq_true.mp this
  rw [beq_iff_eq] at ex; subst ex; exact hx
 ·intro z
  have:(firstMet (fun i=>ns.getD i 0) ns.length).any (· == t) = true:=by rw [h]; exact List.any_eq_true.mpr ⟨t,z,by simp⟩
  obtain ⟨x,hx,ex⟩:=List.any_eq_true.mp this
  rw [beq_iff_eq] at ex; subst ex; exact hx
end
end Dl
namespace Dl
open PySem PySem.Spec PyProof.Rows L2
section
variable {prog:Program} {w:World} {A:Around} {E:Value→Shared→Prop} {s:Shared}
end
section
variable {X:Cx} {e:Expr} {es:List Expr} {t:lK} {p pos:Pos}
end
end Dl
namespace Dl
open PySem PySem.Spec PyProof.Rows L2
section
variable {X:Cx} {e:Expr} {es:List Expr} {te:cx} {t:lK}
end
end Dl
namespace Dl
open PySem PySem.Spec PyProof.Rows L2
inductive Ar where
 | v (d:D) | o (C:Nat) (fs:List (Str × Fl)) | l (xs:List D) | x | r (fs:List (Str × Fl))
 deriving Inhabited
noncomputable abbrev zl:=List Ar→(D→List Ar→Prop)→Prop
noncomputable def TB (h:Nat):Ar→Sl
 | .v d=>.sh d
 | .o C fs=>.ob (some h) C fs
 | .l xs=>.mu h xs
 | .x=>.no
 | .r fs=>.rc (some h) fs
noncomputable def xB (hs:Nat→Nat):Nat→List Ar→List Sl
 | _,[]=>[]
 | i,a :: r=>TB (hs i) a :: xB hs (i + 1) r
noncomputable def fE (N:List Str) (hs:Nat→Nat) (as:List Ar):Ev:=xB hs 0 as ++ List.replicate (N.length - as.length) Sl.no
noncomputable def ML (h:Nat):Ar→Option Sl→Ar
 | .v d,_=>.v d
 | .o _ _,some (.ob (some a) C' fs')=>if a = h then .o C' fs' else .x
 | .l _,some (.mu a ys)=>if a = h then .l ys else .x
 | .r _,some (.rc (some a) fs')=>if a = h then .r fs' else .x
 | _,_=>.x
noncomputable def fX (hs:Nat→Nat):Nat→List Ar→Ev→List Ar
 | _,[],_=>[]
 | i,a :: r,δ=>ML (hs i) a δ[i]? :: fX hs (i + 1) r δ
inductive Ax where
 | v (d:D) | at (j:Nat)
noncomputable abbrev TC:=Ev→(List Ax→Ev→Prop)→Prop
noncomputable def fZ:List Ax→List Nat
 | []=>[]
 | .v _ :: r=>fZ r
 | .at j :: r=>j :: fZ r
noncomputable def N0 (δ:Ev):Ax→Ar
 | .v d=>.v d
 | .at j=>match δ[j]? with
  | some (.ob _ C fs)=>.o C fs
  | some (.ow l)=>.l l
  | some (.mu _ l)=>.l l
  | some (.sh d)=>.v d
  | some (.rc _ fs)=>.r fs
  | _=>.x
noncomputable def Ph:Sl→Option Ar→Sl
 | .ob h _ _,some (.o C fs)=>.ob h C fs
 | .ow _,some (.l ys)=>.ow ys
 | .mu a _,some (.l ys)=>.mu a ys
 | .rc h _,some (.r fs)=>.rc h fs
 | .sh d,_=>.sh d
 | _,_=>.no
noncomputable def t7:Ev→List Ax→List Ar→Ev
 | δ,[],_=>δ
 | δ,.v _ :: r,os=>t7 δ r os.tail
 | δ,.at j :: r,os=>t7 (match δ[j]? with | some s=>δ.set j (Ph s os.head?) | none=>δ) r os.tail
noncomputable def vZ (i:Nat) (C:Nat) (m:Str) (S:zl) (t:TC):cx:=fun δ Q=>match δ[i]? with
 | some (.ob _ C' fs)=>C' = C∧fs.lookup m = none∧t δ fun axs δ1=>(i :: fZ axs).Nodup∧S (N0 δ1 (.at i) :: axs.map (N0 δ1)) fun d outs=>Q d (t7 δ1 (.at i :: axs) outs)
 | _=>False
noncomputable def GS:TC:=fun δ Q=>Q [] δ
noncomputable def Pj (K:PySem.W.Frag) (G H:Hp) (ow:Ow) (i:Nat) (v:V):Ar→Prop
 | .v d=>Den K G v d
 | .o C fs=>∃ a dx bo,v = .ref a∧H a = some (.ins C dx bo)∧H dx = some (.own a)∧ow a = some (i,("":Str))∧ow dx = some (i,("":Str))∧qZ K G H ow i bo fs
 | .l xs=>∃ a vs,v = .ref a∧H a = some (.lst vs)∧ow a = some (i,("":Str))∧aH K G vs xs
 | .x=>True
 | .r fs=>∃ a bo,v = .ref a∧H a = some (.dK (bo.map kx))∧ow a = some (i,("":Str))∧qZ K G H ow i bo fs
structure MM (M:Addr→Prop) (G H G' H':Hp):Prop where
 gg:av G G'
 gh:av G' H'
 hh:∀ b o,H b = some o→¬ M b→H' b = some o
 al:∀ b,H' b = none→H b = none
 fr:∀ b o,G' b = some o→G b = none→H b = none
structure BD (K:PySem.W.Frag) (G H:Hp) (ow:Ow) (vs:List V) (as:List Ar):Prop where
 at_:∀ k a v,as[k]? = some a→vs[k]? = some v→Pj K G H ow k v a
noncomputable def pE (K:PySem.W.Frag) (S:zl):Sp:=fun vs H Q _=>∃ (G:Hp) (as:List Ar) (Qd:D→List Ar→Prop) (ow:Ow),av G H∧as.length = vs.length∧BD K G H ow vs as∧(∀ p k,ow p = some k→G p = none∧H p ≠ none)∧S as Qd ∧
 ∀ (v:V) (G' H':Hp) (d:D) (outs:List Ar) (ow':Ow),MM (fun p=>ow p ≠ none) G H G' H'→Den K G' v d→BD K G' H' ow' vs outs→(∀ p k,ow' p = some k→G' p = none∧H' p ≠ none∧(H p = none∨ow p ≠ none))→Qd d outs→Q v H'
theorem zo (hs:Nat→Nat):∀ (as:List Ar) (i k:Nat),(xB hs i as)[k]? = (as[k]?).map (TB (hs (i + k)))
 | [],i,k=>by simp [xB]
 | a :: r,i,0=>by simp [xB]
 | a :: r,i,k + 1=>by simp only [xB,List.getElem?_cons_succ]; rw [zo hs r (i + 1) k]; congr 2; congr 1; omega
theorem pF (hs:Nat→Nat):∀ (as:List Ar) (i:Nat),(xB hs i as).length = as.length
 | [],i=>rfl
 | a :: r,i=>by simp [xB,pF hs r]
theorem zp (hs:Nat→Nat) (δ:Ev):∀ (as:List Ar) (i k:Nat),(fX hs i as δ)[k]? = (as[k]?).map fun a=>ML (hs (i + k)) a δ[i + k]?
 | [],i,k=>by simp [fX]
 | a :: r,i,0=>by simp [fX]
 | a :: r,i,k + 1=>by
  simp only [fX,List.getElem?_cons_succ]; rw [zp hs δ r (i + 1) k]
  have:i + 1 + k = i + (k + 1):=by omega
  rw [this]
theorem t8:∀ (axs:List Ax) (δ:Ev) (outs:List Ar) (j:Nat) (s':Sl),(fZ axs).Nodup→(t7 δ axs outs)[j]? = some s' →
  (j ∉ fZ axs∧δ[j]? = some s')∨∃ (k:Nat) (s:Sl),axs[k]? = some (Ax.at j)∧δ[j]? = some s∧s' = Ph s outs[k]?
 | [],δ,outs,j,s',_,h=>.inl ⟨by simp [fZ],h⟩
 | .v d :: r,δ,outs,j,s',nd,h=>by
  rcases t8 r δ outs.tail j s' nd h with ⟨h1,h2⟩ | ⟨k,s,h1,h2,h3⟩
  ·exact .inl ⟨h1,h2⟩
  ·exact .inr ⟨k + 1,s,by simpa using h1,h2,by rw [h3]; cases outs <;> simp⟩
 | .at i :: r,δ,outs,j,s',nd,h=>by
  obtain ⟨n1,n2⟩:=List.nodup_cons.mp nd
  rcases t8 r _ outs.tail j s' n2 h with ⟨h1,h2⟩ | ⟨k,s,h1,h2,h3⟩
  ·by_cases e:i = j
   ·subst e
    cases q:δ[i]? with
    | none=>rw [q] at h2; simp only at h2; rw [q] at h2; cases h2
    | some s =>
     rw [q] at h2
     simp only at h2
     rcases fD h2 with ⟨_,e2,_⟩ | ⟨z,_⟩
     ·exact .inr ⟨0,s,rfl,rfl,by rw [e2]; cases outs <;> rfl⟩
     ·exact absurd rfl z
   ·refine .inl ⟨by simp only [fZ,List.mem_cons,not_or]; exact ⟨fun z=>e z.symm,h1⟩,?_⟩
    cases q:δ[i]? with
    | none=>rw [q] at h2; exact h2
    | some s=>rw [q] at h2; simp only at h2; rwa [List.getElem?_set_ne e] at h2
  ·have hj:j ∈ fZ r:=by
    have:∀ (l:List Ax) (k:Nat),l[k]? = some (.at j)→j ∈ fZ l:=by
     intro l
     induction l with
     | nil=>intro k z; simp at z
     | cons a t ih =>
      intro k z
      cases k with
      | zero=>simp at z; subst z; simp [fZ]
      | succ k=>have:=ih k (by simpa using z); cases a <;> simp [fZ,this]
    exact this r k h1
   have e:i ≠ j:=fun z=>n1 (by rw [z]; exact hj)
   refine .inr ⟨k + 1,s,by simpa using h1,?_,by rw [h3]; cases outs <;> simp⟩
   cases q:δ[i]? with
   | none=>rw [q] at h2; exact h2
   | some s=>rw [q] at h2; simp only at h2; rwa [List.getElem?_set_ne e] at h2
theorem t9:∀ (axs:List Ax) (δ:Ev) (outs:List Ar),(t7 δ axs outs).length = δ.length
 | [],δ,outs=>rfl
 | .v d :: r,δ,outs=>t9 r δ outs.tail
 | .at i :: r,δ,outs=>by
  show (t7 (match δ[i]? with | some s=>δ.set i (Ph s outs.head?) | none=>δ) r outs.tail).length = _
  rw [t9 r]
  cases δ[i]? <;> simp
noncomputable def posOf (j:Nat):List Ax→Option Nat
 | []=>none
 | .v _ :: r=>(posOf j r).map (· + 1)
 | .at i :: r=>if i = j then some 0 else (posOf j r).map (· + 1)
theorem kh {j:Nat}:∀ {axs:List Ax},j ∉ fZ axs→posOf j axs = none
 | [],_=>rfl
 | .v _ :: r,h=>by simp only [posOf]; rw [kh (axs:=r) h]; rfl
 | .at i :: r,h=>by
  simp only [fZ,List.mem_cons,not_or] at h
  simp only [posOf]
  rw [if_neg (fun z=>h.1 z.symm),kh h.2]; rfl
theorem ua {j:Nat}:∀ {axs:List Ax} {k:Nat},(fZ axs).Nodup→axs[k]? = some (.at j)→posOf j axs = some k
 | [],k,_,h=>by simp at h
 | .v _ :: r,0,_,h=>by simp at h
 | .v _ :: r,k + 1,nd,h=>by simp only [posOf]; rw [ua (axs:=r) (k:=k) nd (by simpa using h)]; rfl
 | .at i :: r,0,_,h=>by simp at h; subst h; simp [posOf]
 | .at i :: r,k + 1,nd,h=>by
  obtain ⟨n1,n2⟩:=List.nodup_cons.mp nd
  have e:=ua (axs:=r) (k:=k) n2 (by simpa using h)
  have:i ≠ j:=fun z=>by
   subst z
   have:=kh (axs:=r) n1
   rw [e] at this; cases this
  simp only [posOf]; rw [if_neg this,e]; rfl
section
variable {K:PySem.W.Frag} {G H G' H':Hp} {ow ow':Ow} {i i':Nat}
noncomputable def pG (vs:List V):Nat→Nat:=fun k=>match vs[k]? with
 | some (.ref a)=>a
 | _=>0
theorem BE {N:List Str} {vs:List V} {as:List Ar} (s:av G H) (hl:as.length = vs.length) (h:BD K G H ow vs as) (ho:∀ p k,ow p = some k→G p = none∧H p ≠ none) :
  Rel K ⟨G,H,fun p=>ow p ≠ none⟩ (fE N (pG vs) as) (start N vs) G H:=by
 refine ⟨s,av.refl _,fun b o e _=>e,fun b e=>e,fun b o e (e0:G b = none)=>(by rw [e0] at e; cases e),⟨ow,⟨fun p k hk=>⟨(ho p k hk).1,(ho p k hk).2,.inr (fun z=>by rw [hk] at z; cases z)⟩⟩,fun i sl hs=>?_⟩,?_⟩
 ·unfold fE at hs
  by_cases hi:i < as.length
  ·rw [List.getElem?_append_left (by rw [pF]; exact hi),zo,Nat.zero_add] at hs
   have q:as[i]? = some as[i]:=List.getElem?_eq_getElem hi
   rw [q] at hs
   have hv:vs[i]? = some (vs[i]'(by omega)):=List.getElem?_eq_getElem (by omega)
   have hw:=h.at_ i _ _ q hv
   have ym:(start N vs)[i]? = some (some (vs[i]'(by omega))):=by
    unfold L2.start
    rw [List.getElem?_append_left (by rw [List.length_map]; omega),List.getElem?_map,hv]; rfl
   rw [ym]
   generalize as[i] = a at hs hw
   generalize vs[i]'(by omega) = v at hv hw
   cases a with
   | v d=>cases hs; exact ⟨v,rfl,hw⟩
   | x=>cases hs; trivial
   | o C fs =>
    cases hs
    obtain ⟨a,dx,bo,rfl,h3,h4,h5,h6,h7⟩:=hw
    refine ⟨a,dx,bo,rfl,fun a0 z=>?_,h3,h4,h5,h6,h7⟩
    cases z; unfold pG; rw [hv]
   | r fs =>
    cases hs
    obtain ⟨a,bo,rfl,h3,h5,h7⟩:=hw
    refine ⟨a,bo,rfl,fun a0 z=>?_,h3,h5,h7⟩
    cases z; unfold pG; rw [hv]
   | l xs =>
    obtain ⟨a,ws,rfl,h3,h4,h5⟩:=hw
    have e:pG vs i = a:=by unfold pG; rw [hv]
    cases hs
    rw [e]
    exact ⟨ws,rfl,h3,h4,h5⟩
  ·rw [List.getElem?_append_right (by rw [pF]; omega),List.getElem?_replicate] at hs
   split at hs
   ·cases hs; trivial
   ·cases hs
 ·simp [fE,L2.start,hl,pF]
theorem MN {n:En} {δ:Ev} {σ:L2.St} {vs:List V} {as:List Ar} (hw:BD K G H ow vs as) (hG:av G G') (gh:∀ (i:Nat) (s:Sl),δ[i]? = some s→A4 K n G' H' ow' i σ[i]? s):BD K G' H' ow' vs (fX (pG vs) 0 as δ):=by
 refine ⟨fun k b v hb hv=>?_⟩
 rw [zp,Nat.zero_add] at hb
 cases qa:as[k]? with
 | none=>rw [qa] at hb; cases hb
 | some a =>
  rw [qa] at hb
  have h0:=hw.at_ k a v qa hv
  cases a with
  | v d=>cases hb; exact Den.up hG h0
  | x=>cases hb; trivial
  | o C fs =>
   simp only [Option.map_some,Option.some.injEq] at hb
   subst hb
   obtain ⟨a,dx,bo,rfl,-⟩:=h0
   cases q:δ[k]? with
   | none=>trivial
   | some s =>
    cases s with
    | ob h C' fs' =>
     cases h with
     | none=>trivial
     | some a' =>
      show Pj K G' H' ow' k (.ref a) (if a' = pG vs k then .o C' fs' else .x)
      split
      ·rename_i e3
       obtain ⟨b,dy,TF,g1,g2,g3,g4,g5,g6,g7⟩:=gh k _ q
       have:b = a:=by rw [g2 _ rfl,e3]; unfold pG; rw [hv]
       subst this
       exact ⟨b,dy,TF,rfl,g3,g4,g5,g6,g7⟩
      ·trivial
    | _=>trivial
  | r fs =>
   simp only [Option.map_some,Option.some.injEq] at hb
   subst hb
   obtain ⟨a,bo,rfl,-⟩:=h0
   cases q:δ[k]? with
   | none=>trivial
   | some s =>
    cases s with
    | rc h fs' =>
     cases h with
     | none=>trivial
     | some a' =>
      show Pj K G' H' ow' k (.ref a) (if a' = pG vs k then .r fs' else .x)
      split
      ·rename_i e3
       obtain ⟨b,TF,g1,g2,g3,g5,g7⟩:=gh k _ q
       have:b = a:=by rw [g2 _ rfl,e3]; unfold pG; rw [hv]
       subst this
       exact ⟨b,TF,rfl,g3,g5,g7⟩
      ·trivial
    | _=>trivial
  | l xs =>
   simp only [Option.map_some,Option.some.injEq] at hb
   subst hb
   obtain ⟨a,ws,rfl,-⟩:=h0
   cases q:δ[k]? with
   | none=>trivial
   | some s =>
    cases s with
    | mu a' ys =>
     show Pj K G' H' ow' k (.ref a) (if a' = pG vs k then .l ys else .x)
     split
     ·rename_i e3
      obtain ⟨ws',g1,g2,g3,g4⟩:=gh k _ q
      have:a' = a:=by rw [e3]; unfold pG; rw [hv]
      subst this
      exact ⟨_,ws',rfl,g2,g3,g4⟩
     ·trivial
    | _=>trivial
end
section
variable {P:Program} {w:World} {K:PySem.W.Frag} {mg:Str→Option Value} {base:Heap}
theorem JO {x qual:Str} {st:Stmt} {f:Addr} {fd:FuncData} {N ps:List Str} {k:Nat} {S:zl} (F:jU K x qual st f fd) (Sc:aK N ps (ag st)) (len:∀ as Q,S as Q→as.length = ps.length)
  (tH:∀ (eu:Value) (A:Around) (outer:List Env) (s:Shared) (H:Hp) (E:XK),eD k (A.deeper (envOfC qual (ag st) s.heap.objs.size f eu)) →
   ∃ t,E5 (yx bT P w K mg base N qual (ag st) f eu A outer s H E).NV (aG st) t∧∀ (hs:Nat→Nat) as Q,S as Q→t { nx:=fun δ=>Q .aU (fX hs 0 as δ),rt:=fun d δ=>Q d (fX hs 0 as δ) } (fE N hs as)):aJ P w K mg base bT (k + 1) f fd ps (pE K S):=by
 refine F.ok Sc (fun vs H Q E ⟨G,as,Qd,ow,sub,hl,hw,ho,h,_⟩=>?_) (fun eu A outer s H vs Q E hr ⟨G,as,Qd,ow,sub,hl,hw,ho,h,kk⟩=>?_)
 ·rw [← hl]; exact len as Qd h
 ·obtain ⟨t,ht,hq⟩:=tH eu A outer s H E hr
  have fin:∀ (v:V) (d:D) (δ:Ev) (σ:L2.St) (G' H':Hp),Rel K ⟨G,H,fun p=>ow p ≠ none⟩ δ σ G' H'→Den K G' v d→Qd d (fX (pG vs) 0 as δ)→Q v H':=fun v d δ σ G' H' R' dv q=>by
   obtain ⟨ow',ok',gh'⟩:=R'.gh
   exact kk v G' H' d _ ow' ⟨R'.eg,R'.sub,R'.eh,R'.al,fun b o e e0=>R'.fr b o e e0⟩ dv (MN hw R'.eg gh') (fun p k hk=>ok'.is p k hk) q
  exact ⟨_,ht,⟨G,H,fun p=>ow p ≠ none⟩,_,G,_,BE (N:=N) sub hl hw ho,hq (pG vs) as Qd h,⟨fun δ σ G' H' R' q=>fin .aU .aU δ σ G' H' R' .aU q,fun v d δ σ G' H' R' dv q=>fin v d δ σ G' H' R' dv q,fun _ _ _ _ _ q=>q.elim,fun _ _ _ _ _ q=>q.elim⟩⟩
end
end Dl
namespace Dl
open PySem PySem.Spec PyProof.Rows L2
inductive xC (K:PySem.W.Frag) (G:Hp) (σ:L2.St):List V→List Ax→Prop
 | nil:xC K G σ [] []
 | v {x:V} {d:D} {xs:List V} {axs:List Ax}:Den K G x d→xC K G σ xs axs→xC K G σ (x :: xs) (.v d :: axs)
 | at {x:V} {j:Nat} {xs:List V} {axs:List Ax}:σ[j]? = some (some x)→xC K G σ xs axs→xC K G σ (x :: xs) (.at j :: axs)
section
variable {K:PySem.W.Frag} {G G' H H':Hp} {σ:L2.St} {n:En} {δ:Ev}
theorem xC.length:∀ {vs:List V} {axs:List Ax},xC K G σ vs axs→vs.length = axs.length
 | _,_,.nil=>rfl
 | _,_,.v _ t=>by simp [xC.length t]
 | _,_,.at _ t=>by simp [xC.length t]
theorem xC.w6:∀ {vs:List V} {axs:List Ax} {k:Nat} {d:D} {v:V},xC K G σ vs axs→axs[k]? = some (.v d)→vs[k]? = some v→Den K G v d
 | _,_,_,_,_,.nil,h,_=>by simp at h
 | _,_,0,_,_,.v h _,h1,h2=>by simp at h1 h2; subst h1 h2; exact h
 | _,_,0,_,_,.at h _,h1,h2=>by simp at h1
 | _,_,k + 1,_,_,.v _ t,h1,h2=>xC.w6 (k:=k) t (by simpa using h1) (by simpa using h2)
 | _,_,k + 1,_,_,.at _ t,h1,h2=>xC.w6 (k:=k) t (by simpa using h1) (by simpa using h2)
theorem xC.JP:∀ {vs:List V} {axs:List Ax} {k j:Nat},xC K G σ vs axs→axs[k]? = some (.at j)→∃ v,vs[k]? = some v∧σ[j]? = some (some v)
 | _,_,_,_,.nil,h=>by simp at h
 | _,_,0,_,.v h _,h1=>by simp at h1
 | _,_,0,_,.at h _,h1=>by simp at h1; subst h1; exact ⟨_,rfl,h⟩
 | _,_,k + 1,_,.v _ t,h1=>by
  obtain ⟨v,e1,e2⟩:=xC.JP (k:=k) t (by simpa using h1)
  exact ⟨v,by simpa using e1,e2⟩
 | _,_,k + 1,_,.at _ t,h1=>by
  obtain ⟨v,e1,e2⟩:=xC.JP (k:=k) t (by simpa using h1)
  exact ⟨v,by simpa using e1,e2⟩
theorem Rel.after {M:Addr→Prop} (R:Rel K n δ σ G H) (e:MM M G H G' H') (hM:∀ p,M p→n.H p = none∨n.M p) :
  av G' H'∧av n.G G'∧(∀ b o,n.H b = some o→¬ n.M b→H' b = some o)∧(∀ b,H' b = none→n.H b = none)∧(∀ b o,G' b = some o→n.G b = none→n.H b = none):=by
 refine ⟨e.gh,R.eg.trans e.gg,fun b o q m=>e.hh b o (R.eh b o q m) fun z=>?_,fun b q=>R.al b (e.al b q),fun b o q q0=>?_⟩
 ·rcases hM b z with h | h
  ·rw [h] at q; cases q
  ·exact m h
 ·cases h:G b with
  | none=>exact R.al b (e.fr b o q h)
  | some w=>exact R.fr b w h q0
theorem Rel.enter (R:Rel K n δ σ G H) {axs:List Ax} {vs:List V} (nd:(fZ axs).Nodup) (ha:xC K G σ vs axs):∃ K6:Ow,BD K G H K6 vs (axs.map (N0 δ))∧(∀ p k,K6 p = some k→G p = none∧H p ≠ none) ∧
  ∀ (G' H':Hp) (outs:List Ar) (ow':Ow),MM (fun p=>K6 p ≠ none) G H G' H'→BD K G' H' ow' vs outs→(∀ p k,ow' p = some k→G' p = none∧H' p ≠ none∧(H p = none∨K6 p ≠ none))→Rel K n (t7 δ axs outs) σ G' H':=by
 obtain ⟨ow,ok,gh⟩:=R.gh
 have oc:∀ {p:Addr} {j k:Nat} {f:Str},axs[k]? = some (.at j)→ow p = some (j,f)→((ow p).bind fun jf=>(posOf jf.1 axs).map fun k=>(k,jf.2)) = some (k,f):=fun {p j k f} hk h=>by
  rw [h]
  show (posOf j axs).map _ = _
  rw [ua nd hk]; rfl
 have oc':∀ {p:Addr},((ow p).bind fun jf=>(posOf jf.1 axs).map fun k=>(k,jf.2)) ≠ none→∃ jf,ow p = some jf:=fun {p} h=>by
  cases q:ow p with
  | none=>rw [q] at h; exact absurd rfl h
  | some w=>exact ⟨w,rfl⟩
 refine ⟨fun p=>(ow p).bind fun jf=>(posOf jf.1 axs).map fun k=>(k,jf.2),⟨fun k a v h1 h2=>?_⟩,fun p k hk=>?_,fun G' H' outs ow' e hw ho=>?_⟩
 ·rw [List.getElem?_map] at h1
  cases q:axs[k]? with
  | none=>rw [q] at h1; cases h1
  | some ax =>
   rw [q] at h1
   cases ax with
   | v d=>cases h1; exact ha.w6 q h2
   | «at» j =>
    obtain ⟨v',e1,e2⟩:=ha.JP q
    rw [h2] at e1; cases e1
    simp only [Option.map_some,Option.some.injEq] at h1
    subst h1
    show Pj K G H _ k v (match δ[j]? with | some (.ob _ C fs)=>.o C fs | some (.ow l)=>.l l | some (.mu _ l)=>.l l | some (.sh d)=>.v d | some (.rc _ fs)=>.r fs | _=>.x)
    cases qs:δ[j]? with
    | none=>trivial
    | some s =>
     have hs:=gh j s qs
     rw [e2] at hs
     cases s with
     | no=>trivial
     | sh d=>obtain ⟨w,g1,g2⟩:=hs; cases g1; exact g2
     | ow l=>obtain ⟨p,ws,g1,g2,g3,g4,g5⟩:=hs; cases g1; exact ⟨p,ws,rfl,g2,oc q g4,g5⟩
     | mu b l=>obtain ⟨ws,g1,g2,g4,g5⟩:=hs; cases g1; exact ⟨b,ws,rfl,g2,oc q g4,g5⟩
     | ob h C fs =>
      obtain ⟨a,dx,bo,g1,g2,g3,g4,g5,g6,g7⟩:=hs
      cases g1
      exact ⟨a,dx,bo,rfl,g3,g4,oc q g5,oc q g6,g7.keep (av.refl _) (fun p f z=>oc q z) fun _ _ _ _ z=>z⟩
     | pt a=>trivial
     | hb a C fs=>trivial
     | rc h fs =>
      obtain ⟨a,bo,g1,g2,g3,g5,g7⟩:=hs
      cases g1
      exact ⟨a,bo,rfl,g3,oc q g5,g7.keep (av.refl _) (fun p f z=>oc q z) fun _ _ _ _ z=>z⟩
 ·obtain ⟨jf,hj⟩:=oc' (p:=p) (fun z=>by have w:=z.symm.trans hk; cases w)
  obtain ⟨h1,h2,h3⟩:=ok.is p jf hj
  exact ⟨h1,h2⟩
 ·obtain ⟨a1,a2,a3,a4,a5⟩:=R.after e (fun p hp=>by obtain ⟨jf,hj⟩:=oc' hp; exact (ok.is p jf hj).2.2)
  refine ⟨a1,a2,a3,a4,a5,⟨fun p=>match ow' p with
   | some (k,f)=>(match axs[k]? with | some (.at j)=>some (j,f) | _=>none)
   | none=>match ow p with
    | some (j,f)=>if posOf j axs = none then some (j,f) else none
    | none=>none,⟨fun p kk hk=>?_⟩,fun j s' hs'=>?_⟩,by rw [t9]; exact R.len⟩
  ·cases q:ow' p with
   | some kf =>
    obtain ⟨h1,h2,h3⟩:=ho p kf q
    refine ⟨h1,h2,?_⟩
    rcases h3 with h3 | h3
    ·exact .inl (R.al p h3)
    ·obtain ⟨jf,hj⟩:=oc' h3; exact (ok.is p jf hj).2.2
   | none =>
    simp only [q] at hk
    cases q2:ow p with
    | none=>rw [q2] at hk; cases hk
    | some jf =>
     obtain ⟨j,f⟩:=jf
     rw [q2] at hk
     simp only at hk
     split at hk
     ·rename_i hp
      obtain ⟨h1,h2,h3⟩:=ok.is p _ q2
      have nM:¬ (((ow p).bind fun jf=>(posOf jf.1 axs).map fun k=>(k,jf.2)) ≠ none):=fun z=>z (by rw [q2]; show (posOf j axs).map _ = _; rw [hp]; rfl)
      refine ⟨?_,fun z=>h2 (e.al p z),h3⟩
      cases q3:G' p with
      | none=>rfl
      | some w=>exact absurd (e.fr p w q3 h1) h2
     ·cases hk
  ·rcases t8 axs δ outs j s' nd hs' with ⟨hj,hs⟩ | ⟨k,s,hk,hs,rfl⟩
   ·have hp:posOf j axs = none:=kh hj
    have nC:∀ p f,ow p = some (j,f)→((ow p).bind fun jf=>(posOf jf.1 axs).map fun k=>(k,jf.2)) = none:=fun p f z=>by rw [z]; show (posOf j axs).map _ = _; rw [hp]; rfl
    refine (gh j s' hs).keep e.gg (fun p f z=>?_) fun p f o z q=>e.hh p o q fun w=>w (nC p f z)
    have q:ow' p = none:=by
     cases q:ow' p with
     | none=>rfl
     | some kf =>
      obtain ⟨h1,h2,h3⟩:=ho p kf q
      rcases h3 with h3 | h3
      ·exact absurd h3 (ok.is p _ z).2.1
      ·exact absurd (nC p f z) h3
    simp only [q,z,hp]; simp
   ·obtain ⟨v,e1,e2⟩:=ha.JP hk
    have h0:=gh j s hs
    rw [e2] at h0 ⊢
    have hO:∀ p f,ow' p = some (k,f)→(match ow' p with
      | some (k,f)=>(match axs[k]? with | some (.at j)=>some (j,f) | _=>none)
      | none=>match ow p with
       | some (j,f)=>if posOf j axs = none then some (j,f) else none
       | none=>none) = some (j,f):=fun p f z=>by simp only [z,hk]
    cases qo:outs[k]? with
    | none =>
     cases s with
     | sh d=>obtain ⟨w,g1,g2⟩:=h0; exact ⟨w,g1,g2.up e.gg⟩
     | _=>trivial
    | some ar =>
     have hr:=hw.at_ k ar v qo e1
     cases s with
     | no=>cases ar <;> trivial
     | pt a=>cases ar <;> trivial
     | hb a C fs=>cases ar <;> trivial
     | sh d=>obtain ⟨w,g1,g2⟩:=h0; exact ⟨w,g1,g2.up e.gg⟩
     | ow l =>
      cases ar with
      | l ys =>
       obtain ⟨a,ws,rfl,r1,r2,r3⟩:=hr
       obtain ⟨p,zs,g1,g2,g3,g4,g5⟩:=h0
       cases g1
       exact ⟨a,ws,rfl,r1,g3,hO _ _ r2,r3⟩
      | _=>trivial
     | mu b l =>
      cases ar with
      | l ys =>
       obtain ⟨a,ws,rfl,r1,r2,r3⟩:=hr
       obtain ⟨zs,g1,g2,g4,g5⟩:=h0
       cases g1
       exact ⟨ws,rfl,r1,hO _ _ r2,r3⟩
      | _=>trivial
     | ob h C fs =>
      cases ar with
      | o C' fs' =>
       obtain ⟨a,dx,bo,rfl,r1,r2,r3,r4,r5⟩:=hr
       obtain ⟨a',dx',vfs',g1,g2,_⟩:=h0
       cases g1
       exact ⟨a,dx,bo,rfl,g2,r1,r2,hO _ _ r3,hO _ _ r4,r5.keep (av.refl _) hO fun _ _ _ _ z=>z⟩
      | _=>trivial
     | rc h fs =>
      cases ar with
      | r fs' =>
       obtain ⟨a,bo,rfl,r1,r3,r5⟩:=hr
       obtain ⟨a',vfs',g1,g2,_⟩:=h0
       cases g1
       exact ⟨a,bo,rfl,g2,r1,hO _ _ r3,r5.keep (av.refl _) hO fun _ _ _ _ z=>z⟩
      | _=>trivial
end
section
variable {X:Cx} {e:Expr} {es:List Expr} {te:cx} {t:TC} {x:Str} {p pos:Pos} {f C:Addr} {fd:FuncData} {ps:List Str} {S:zl} {k:Nat} {m:Str} {apos:Pos}
theorem ub (i:Nat) {y:Str} {op:Pos} {pl:Sem Bool} (c:wU X.K C) (hm:Meth X.K C m f) (F:aJ X.prog X.w X.K X.mg X.base bT k f fd ps (pE X.K S)) (hr:eD k X.A) (hb:Binds X.K fd ps [])
  (hN:X.N[i]? = some y:=by rfl) (hv:rQ X.env.scope y:=by first | exact Or.inl rfl | exact Or.inr (Or.inl rfl) | exact Or.inr (Or.inr rfl)) (hd:(y == ("__debug__":Str)) = false:=by decide) (om:(y == ("__classdict__":Str)) = false:=by decide)
  (ht:eval (.Call (.Attribute (.Name y op) m apos) [] [] pos) X.env = (do
   let ov ← eval (.Name y op) X.env
   standAt apos.atName
   let (f,first) ← holding [ov] (getMethod ov m pl)
   callWith pos f first (backTo pos (starEach [] X.env)) (backToKw pos (keywordEach [] X.env))):=by rfl) :
  DE X (.Call (.Attribute (.Name y op) m apos) [] [] pos) (vZ i C m S GS) :=
 bx (yw (pl:=pl) (iM hN hv hd om) c hm F hr hb .nil yB ht) fun σ H Q2 hx=>hx.el fun n δ G Q R h kk=>by
  unfold vZ at h
  split at h
  ·rename_i h0 C' fs q
   obtain ⟨rfl,hl,nd,h⟩:=h
   obtain ⟨a,dx,bo,g1,g2,g3,g4,ow,i',g5⟩:=R.sl i _ q
   refine ⟨.ref a,g1,a,dx,bo,rfl,g3,?_,?_⟩
   ·have hk:m ∉ fs.map (·.1):=fun z=>by
     obtain ⟨p,hp,e⟩:=List.mem_map.mp z
     exact absurd hl (by intro hh; have:=List.lookup_eq_none_iff.mp hh p hp; simp [e] at this)
    rw [← g5.keys] at hk
    exact List.lookup_eq_none_iff.mpr fun p hp=>by
     have:p.1 ≠ m:=fun z=>hk (List.mem_map.mpr ⟨p,hp,z⟩)
     simpa using fun z=>this z.symm
   ·obtain ⟨K6,c1,c2,c3⟩:=R.enter (axs:=[.at i]) nd (.at g1 .nil)
    exact ⟨G,_,_,K6,R.sub,by simp,c1,c2,h,fun v G2 H2 d outs ow' e2 dv w2 o2 q2=>kk v G2 H2 d _ (c3 G2 H2 outs ow' e2 w2 o2) e2.gg dv q2⟩
  ·exact h.elim
end
end Dl
namespace Dl
open PySem PySem.Spec PyProof.Rows L2
noncomputable def eE (f:Str) (s:Fl):List (Str × Fl)→List (Str × Fl)
 | []=>[(f,s)]
 | (g,x) :: r=>if g = f then (g,s) :: r else (g,x) :: eE f s r
noncomputable def putK (f:Str):List Str→List Str
 | []=>[f]
 | g :: r=>if g = f then g :: r else g :: putK f r
theorem v5 (f:Str) (v:V):∀ l:List (Str × V),(jj f v l).map (·.1) = putK f (l.map (·.1))
 | []=>rfl
 | (g,x) :: r=>by
  simp only [jj,List.map_cons,putK]
  split
  ·rfl
  ·rw [List.map_cons,v5 f v r]
theorem iR (f:Str) (s:Fl):∀ l:List (Str × Fl),(eE f s l).map (·.1) = putK f (l.map (·.1))
 | []=>rfl
 | (g,x) :: r=>by
  simp only [eE,List.map_cons,putK]
  split
  ·rfl
  ·rw [List.map_cons,iR f s r]
theorem pH (f:Str):∀ l:List Str,f ∈ l→putK f l = l
 | [],h=>by simp at h
 | g :: r,h=>by
  simp only [putK]
  split
  ·rfl
  ·rename_i ne
   rcases List.mem_cons.mp h with e | e
   ·exact absurd e.symm ne
   ·rw [pH f r e]
theorem fF (f g:Str) (s:Fl):∀ fs:List (Str × Fl),(eE f s fs).lookup g = if g = f then some s else fs.lookup g
 | []=>by
  show List.lookup g [(f,s)] = _
  by_cases h:g = f
  ·have hb:(g == f) = true:=beq_iff_eq.mpr h
   simp only [List.lookup,hb,if_pos h]
  ·have hb:(g == f) = false:=beq_eq_false_iff_ne.mpr h
   simp only [List.lookup,hb,if_neg h]
 | (k,x) :: r=>by
  have ih:=fF f g s r
  rw [show eE f s ((k,x) :: r) = (if k = f then (k,s) :: r else (k,x) :: eE f s r) from rfl]
  by_cases hk:k = f
  ·rw [if_pos hk]
   by_cases h:g = k
   ·have hb:(g == k) = true:=beq_iff_eq.mpr h
    simp only [List.lookup,hb,if_pos (h.trans hk)]
   ·have hb:(g == k) = false:=beq_eq_false_iff_ne.mpr h
    simp only [List.lookup,hb,if_neg (fun e:g = f=>h (e.trans hk.symm))]
  ·rw [if_neg hk]
   by_cases h:g = k
   ·have hb:(g == k) = true:=beq_iff_eq.mpr h
    simp only [List.lookup,hb,if_neg (fun e:g = f=>hk (h.symm.trans e))]
   ·have hb:(g == k) = false:=beq_eq_false_iff_ne.mpr h
    simp only [List.lookup,hb]
    exact ih
noncomputable abbrev Iz:=Ev→(D→Prop)→Prop
noncomputable def CU (C i:Nat) (f:Str) (δ:Ev):Option D:=match δ[i]? with
 | some (.ob _ C' fs)=>if C' = C then (match fs.lookup f with
  | some (.sh d)=>some d
  | _=>none) else none
 | _=>none
noncomputable def putAt (i:Nat) (f:Str) (s:Fl) (δ:Ev):Ev:=match δ[i]? with
 | some (.ob h C fs)=>δ.set i (.ob h C (eE f s fs))
 | _=>δ
noncomputable def zq (C i:Nat) (δ:Ev):Bool:=match δ[i]? with
 | some (.ob _ C' fs)=>decide (C' = C) && decide (fs.length < 999)
 | _=>false
noncomputable def GU (i:Nat):Iz:=fun δ Q=>match δ[i]? with
 | some (.sh d)=>Q d
 | _=>False
noncomputable def uc (C i:Nat) (f:Str):Iz:=fun δ Q=>match CU C i f δ with
 | some d=>Q d
 | none=>False
noncomputable def dX (t:Iz):cx:=fun δ Q=>t δ fun d=>Q d δ
noncomputable def rk (C i:Nat) (f:Str) (te:cx):bC:=fun E δ=>te δ fun d δ1=>zq C i δ1 = true∧E.nx (putAt i f (.sh d) δ1)
section
variable {K:PySem.W.Frag} {n:En} {G H G' H':Hp} {ow ow':Ow} {i i':Nat} {f:Str} {v:V} {s:Fl} {bo:List (Str × V)} {fs:List (Str × Fl)} {δ:Ev} {σ:L2.St} {p q:Addr} {o:HO}
theorem E4.CV (hH:∀ p f o,ow p = some (i,f)→(∀ C dx fs,o ≠ HO.ins C dx fs)→H p = some o→H' p = some o) (h:E4 K G H ow i f v s):E4 K G H' ow i f v s:=by
 cases s with
 | sh d=>exact h
 | ow l=>obtain ⟨q,vs,h1,h2,h3,h4⟩:=h; exact ⟨q,vs,h1,hH _ _ _ h3 (fun _ _ _ z=>by cases z) h2,h3,h4⟩
 | dc l=>obtain ⟨q,vs,h1,h2,h3,h4⟩:=h; exact ⟨q,vs,h1,hH _ _ _ h3 (fun _ _ _ z=>by cases z) h2,h3,h4⟩
 | fz q l=>exact h
theorem qZ.CV (hH:∀ p f o,ow p = some (i,f)→(∀ C dx fs,o ≠ HO.ins C dx fs)→H p = some o→H' p = some o) (h:qZ K G H ow i bo fs):qZ K G H' ow i bo fs :=
 ⟨h.keys,fun f s e=>let ⟨v,h1,h2⟩:=h.at_ f s e; ⟨v,h1,h2.CV hH⟩⟩
theorem qZ.put (h:qZ K G H ow i bo fs) (hv:E4 K G H ow i f v s):qZ K G H ow i (jj f v bo) (eE f s fs):=by
 refine ⟨by rw [v5,iR,h.keys],fun g s' e=>?_⟩
 rw [fF] at e
 rw [lR]
 by_cases z:g = f
 ·rw [if_pos z] at e ⊢
  cases e
  subst z
  exact ⟨v,rfl,hv⟩
 ·rw [if_neg z] at e ⊢
  exact h.at_ g s' e
theorem Rel.BF (R:Rel K n δ σ G H) (ok:FL n G H ow) (gh:∀ (i:Nat) (s:Sl),δ[i]? = some s→A4 K n G H ow i σ[i]? s) (hp:ow p = some (i,f)) {s':Sl} (hs:A4 K n G (upd H p o) ow i σ[i]? s'):Rel K n (δ.set i s') σ G (upd H p o):=by
 obtain ⟨g3,g7,g8⟩:=ok.is _ _ hp
 have ne:∀ b u,G b = some u→b ≠ p:=fun b u e z=>by subst z; rw [g3] at e; cases e
 refine ⟨fun b u e=>by rw [aj (ne b u e)]; exact R.sub b u e,R.eg,fun b u q m=>?_,fun b q=>?_,R.fr,⟨ow,⟨fun b k hk=>?_⟩,fun j s hj=>?_⟩,by rw [List.length_set]; exact R.len⟩
 ·have:b ≠ p:=fun z=>by
   subst z
   rcases g8 with g8 | g8
   ·rw [g8] at q; cases q
   ·exact m g8
  rw [aj this]; exact R.eh b u q m
 ·by_cases hb:b = p
  ·subst hb; rw [aq] at q; cases q
  ·rw [aj hb] at q; exact R.al b q
 ·obtain ⟨h1,h2,h3⟩:=ok.is b k hk; exact ⟨h1,oZ h2,h3⟩
 ·rcases fD hj with ⟨e,rfl,hl⟩ | ⟨e,hj⟩
  ·subst e; exact hs
  ·refine (gh j s hj).keep (av.refl _) (fun _ _ z=>z) fun b f' u z q=>?_
   have:b ≠ p:=fun w=>by subst w; rw [hp] at z; cases z; exact e rfl
   rw [aj this]; exact q
theorem JQ (R:Rel K n δ σ G H) (ok:FL n G H ow) (gh:∀ (i:Nat) (s:Sl),δ[i]? = some s→A4 K n G H ow i σ[i]? s) (hq:H q = none) (i:Nat) (f:Str) (o:HO) :
  FL n G (upd H q o) (ic ow q (some (i,f)))∧∀ (i':Nat) (s:Sl),δ[i']? = some s→A4 K n G (upd H q o) (ic ow q (some (i,f))) i' σ[i']? s:=by
 have A5:∀ b k,ow b = some k→b ≠ q:=fun b k hk z=>by subst z; exact (ok.is _ _ hk).2.1 hq
 refine ⟨⟨fun b k hk=>?_⟩,fun j s hs=>?_⟩
 ·by_cases hb:b = q
  ·subst hb; exact ⟨R.sub.free hq,by rw [aq]; exact (fun z=>by cases z),.inl (R.al _ hq)⟩
  ·rw [aS hb] at hk
   obtain ⟨h1,h2,h3⟩:=ok.is b k hk
   exact ⟨h1,oZ h2,h3⟩
 ·exact (gh j s hs).keep (av.refl _) (fun b f z=>by rw [aS (A5 _ _ z)]; exact z) fun b f u z q=>by rw [aj (A5 _ _ z)]; exact q
theorem Er {C i:Nat} {d:D} (h:CU C i f δ = some d):∃ h0 fs,δ[i]? = some (.ob h0 C fs)∧fs.lookup f = some (.sh d):=by
 unfold CU at h
 split at h
 ·rename_i h0 C' fs e
  split at h
  ·rename_i ec
   subst ec
   split at h
   ·rename_i d' e2; cases h; exact ⟨h0,fs,e,e2⟩
   ·cases h
  ·cases h
 ·cases h
theorem v7 {C i:Nat} (h:zq C i δ = true):∃ h0 fs,δ[i]? = some (.ob h0 C fs)∧fs.length < 999:=by
 unfold zq at h
 split at h
 ·rename_i h0 C' fs e
  simp only [Bool.and_eq_true,decide_eq_true_eq] at h
  obtain ⟨rfl,h⟩:=h
  exact ⟨h0,fs,e,h⟩
 ·cases h
theorem md {h0:Option Nat} {C:Nat} (e:δ[i]? = some (.ob h0 C fs)) (s:Fl):putAt i f s δ = δ.set i (.ob h0 C (eE f s fs)):=by
 unfold putAt; rw [e]
theorem Rel.TH (R:Rel K n δ σ G H) {h0:Option Nat} {C:Nat} {d:D} (e:δ[i]? = some (.ob h0 C fs)) (hv:Den K G v d):∃ a dx bo,σ[i]? = some (some (.ref a))∧H a = some (.ins C dx bo)∧bo.length = fs.length ∧
  Rel K n (δ.set i (.ob h0 C (eE f (.sh d) fs))) σ G (upd H a (.ins C dx (jj f v bo))):=by
 obtain ⟨ow,ok,gh⟩:=R.gh
 obtain ⟨a,dx,bo,g1,g2,g3,g4,g5,g6,g7⟩:=gh i _ e
 refine ⟨a,dx,bo,g1,g3,by have:=congrArg List.length g7.keys; simpa using this,R.BF ok gh g5 ⟨a,dx,_,g1,g2,aq,?_,g5,g6,?_⟩⟩
 ·rw [aj (fun z=>by subst z; rw [g3] at g4; cases g4)]; exact g4
 ·refine qZ.put (g7.CV fun p f o z no q=>?_) hv
  rw [aj (fun z=>by subst z; rw [g3] at q; cases q; exact no _ _ _ rfl)]; exact q
end
noncomputable def lX (K:PySem.W.Frag) (t:Iz):TE:=fun σ H Q2=>∃ (n:En) (δ:Ev) (G:Hp) (Q:D→Prop),Rel K n δ σ G H∧t δ Q∧∀ (v:V) (G' H':Hp) (d:D),Ext G H G' H'→Den K G' v d→Q d→Q2 v H'
theorem lX.el {K:PySem.W.Frag} {t:Iz} {σ H Q2} {P:Prop} (x:lX K t σ H Q2) (k:∀ (n:En) (δ:Ev) (G:Hp) (Q:D→Prop),(Rel K n δ σ G H)→(t δ Q)→(∀ (v:V) (G' H':Hp) (d:D),Ext G H G' H'→Den K G' v d→Q d→Q2 v H')→P):P:=by
 obtain ⟨n,δ,G,Q,h0,h1,h2⟩:=x
 exact k n δ G Q h0 h1 h2
noncomputable abbrev DX (X:Cx) (e:Expr) (t:Iz):Prop:=PE X e (lX X.K t)
section
variable {X:Cx} {a b e:Expr} {es:List Expr} {ta tb te:Iz} {t:TXA} {pos:Pos} {C:Addr} {f:Str}
theorem rl (h:DX X e te):DE X e (dX te):=bx h fun σ H Q2 hx=>hx.el fun n δ G Q R h k=>⟨n,δ,G,_,R,h,fun v G' H' d x dv q=>k v G' H' d δ (R.ext x) x.gg dv q⟩
theorem GV (i:Nat) {x:Str} {pos:Pos} (hN:X.N[i]? = some x:=by rfl) (hv:rQ X.env.scope x:=by first | exact Or.inl rfl | exact Or.inr (Or.inl rfl) | exact Or.inr (Or.inr rfl)) (hd:(x == ("__debug__":Str)) = false:=by decide)
  (om:(x == ("__classdict__":Str)) = false:=by decide):DX X (.Name x pos) (GU i) :=
 bx (iM hN hv hd om) fun σ H Q2 hx=>hx.el fun n δ G Q R h k=>by
  unfold GU at h
  split at h
  ·rename_i d e
   obtain ⟨v,h1,h2⟩:=R.sl i _ e
   exact ⟨v,h1,k v G H d (Ext.refl R.sub) h2 h⟩
  ·exact h.elim
theorem mh (i:Nat) {x:Str} {np:Pos} (c:wU X.K C) (na:eU X.K C f) (hN:X.N[i]? = some x:=by rfl) (hv:rQ X.env.scope x:=by first | exact Or.inl rfl | exact Or.inr (Or.inl rfl) | exact Or.inr (Or.inr rfl))
  (hd:(x == ("__debug__":Str)) = false:=by decide) (om:(x == ("__classdict__":Str)) = false:=by decide) (hb:attributeBase (.Name x np) f X.env (eval (.Name x np) X.env) = eval (.Name x np) X.env:=by rfl):DX X (.Attribute (.Name x np) f pos) (uc C i f) :=
 bx (wV (iM hN hv hd om) hb) fun σ H Q2 hx=>hx.el fun n δ G Q R h k=>by
  unfold uc at h
  split at h
  ·rename_i d e
   obtain ⟨h0,fs,e1,e2⟩:=Er e
   obtain ⟨a,dx,bo,g1,g2,g3,g4,ow,i',g5⟩:=R.sl i _ e1
   obtain ⟨v,k1,k2⟩:=g5.at_ f _ e2
   exact ⟨.ref a,g1,a,C,dx,bo,v,rfl,g3,c,na,k1,k v G H d (Ext.refl R.sub) k2 h⟩
  ·exact h.elim
theorem nt (i:Nat) {x:Str} {np tp:Pos} {tv:cx} (c:wU X.K C) (na:eU X.K C f) (he:DE X e tv) (hN:X.N[i]? = some x:=by rfl) (hv:rQ X.env.scope x:=by first | exact Or.inl rfl | exact Or.inr (Or.inl rfl) | exact Or.inr (Or.inr rfl))
  (hd:(x == ("__debug__":Str)) = false:=by decide) (om:(x == ("__classdict__":Str)) = false:=by decide) (hs:swapsWith e (some (.Attribute (.Name x np) f tp)) pos.line X.env = pure false:=by rfl) :
  DS X (.Assign [.Attribute (.Name x np) f tp] e pos) (rk C i f tv) :=
 gc (Fy (iM hN hv hd om) he hs) fun F σ H hx=>hx.el fun n δ G E R h k=>⟨n,δ,G,_,R,h,fun v G1 H1 d δ1 R1 s1 d1 ⟨h1,h2⟩=>by
  obtain ⟨h0,fs,e1,lt⟩:=v7 h1
  obtain ⟨a,dx,bo,g1,g2,g3,R2⟩:=R1.TH (f:=f) e1 d1
  rw [md e1] at h2
  exact ⟨.ref a,g1,a,C,dx,bo,rfl,g2,c,na,by omega,k.nx _ σ G1 _ R2 h2⟩⟩
end
theorem make_core {K:PySem.W.Frag} {n:En} {δ1:Ev} {σ:L2.St} {G1 H1:Hp} {vs:List V} {ds:List D} {S:zl} {y dy C:Addr} {Qf:Nat→List (Str × Fl)→Prop} {Q2:Hp→Prop} (i:Nat) (R1:Rel K n δ1 σ G1 H1) (d1:aH K G1 vs ds) (hy:H1 y = none) (N3:H1 dy = none) (ne:dy ≠ y)
  (h1:S (.o C [] :: ds.map .v) fun d outs=>match d,outs with
   | .aU,.o C' fs :: _=>Qf C' fs
   | _,_=>False)
  (k:∀ C' fs G2 H2,av G1 G2→Rel K n (δ1.set i (.ob none C' fs)) (σ.set i (some (.ref y))) G2 H2→Qf C' fs→Q2 H2):pE K S (.ref y :: vs) (upd (upd H1 dy (.own y)) y (.ins C dy [])) (fun v H2=>v = .aU∧Q2 H2) E0:=by
 have nd:(upd H1 dy (.own y)) y = none:=by rw [aj (Ne.symm ne)]; exact hy
 have R2:Rel K n δ1 σ G1 (upd H1 dy (.own y)):=R1.other (R1.sub.free N3) (R1.al _ N3) N3 _
 have R3:Rel K n δ1 σ G1 (upd (upd H1 dy (.own y)) y (.ins C dy [])):=R2.other (R2.sub.free nd) (R2.al _ nd) nd _
 have GW:∀ p,(ic (ic (fun _=>none) dy (some (0,("":Str)))) y (some (0,("":Str)))) p ≠ none→p = y∨p = dy:=fun p hp=>by
  by_cases h1:p = y
  ·exact .inl h1
  ·rw [aS h1] at hp
   by_cases h2:p = dy
   ·exact .inr h2
   ·rw [aS h2] at hp; exact absurd rfl hp
 have xD:∀ p,p = y∨p = dy→H1 p = none:=fun p hp=>by
  rcases hp with rfl | rfl
  ·exact hy
  ·exact N3
 refine ⟨G1,_,_,ic (ic (fun _=>none) dy (some (0,("":Str)))) y (some (0,("":Str))),R3.sub,by simp [d1.length],⟨fun k a v ka kv=>?_⟩,fun p k hp=>?_,h1,fun v G2 H2 d outs ow' e2 dv w2 o2 q2=>?_⟩
 ·cases k with
  | zero =>
   simp only [List.getElem?_cons_zero,Option.some.injEq] at ka kv
   subst ka kv
   exact ⟨y,dy,[],rfl,aq,by rw [aj ne]; exact aq,du,by rw [aS ne]; exact du,⟨rfl,fun f s z=>by cases z⟩⟩
  | succ k =>
   simp only [List.getElem?_cons_succ,List.getElem?_map] at ka kv
   cases q:ds[k]? with
   | none=>rw [q] at ka; cases ka
   | some d =>
    rw [q] at ka; cases ka
    obtain ⟨v',g1,g2⟩:=d1.get q
    rw [kv] at g1; cases g1
    exact g2
 ·have hp':=GW p (fun z=>by rw [z] at hp; cases hp)
  refine ⟨R1.sub.free (xD p hp'),?_⟩
  rcases hp' with rfl | rfl
  ·rw [aq]; exact fun z=>by cases z
  ·rw [aj ne,aq]; exact fun z=>by cases z
 ·show v = .aU∧Q2 H2
  cases outs with
  | nil=>cases d <;> exact q2.elim
  | cons a0 outs =>
   cases a0 with
   | o C' fs =>
    cases d with
    | aU =>
     refine ⟨dv.w9,?_⟩
     obtain ⟨a1,a2,a3,a4,a5⟩:=R3.after e2 (fun p hp=>.inl (R1.al p (xD p (GW p hp))))
     obtain ⟨ow,ok,gh⟩:=R1.gh
     obtain ⟨a,dx,bo,g1,g2,g3,g4,g5,g6⟩:=w2.at_ 0 _ _ rfl rfl
     cases g1
     have TJ:∀ p jf,ow p = some jf→ow' p = none∧H2 p = H1 p∧G2 p = none:=fun p jf z=>by
      obtain ⟨h1,h2,h3⟩:=ok.is p jf z
      have np:¬ (p = y∨p = dy):=fun w=>h2 (xD p w)
      have TK:(upd (upd H1 dy (.own y)) y (.ins C dy [])) p = H1 p:=by rw [aj (fun w=>np (.inl w)),aj (fun w=>np (.inr w))]
      refine ⟨?_,?_,?_⟩
      ·cases q:ow' p with
       | none=>rfl
       | some kf =>
        obtain ⟨j1,j2,j3⟩:=o2 p kf q
        rcases j3 with j3 | j3
        ·rw [TK] at j3; exact absurd j3 h2
        ·exact absurd (GW p j3) np
      ·cases q:H1 p with
       | none=>exact absurd q h2
       | some u=>exact e2.hh p u (by rw [TK]; exact q) fun w=>np (GW p w)
      ·cases q:G2 p with
       | none=>rfl
       | some u=>have:=e2.fr p u q h1; rw [TK] at this; exact absurd this h2
     refine k C' fs G2 H2 e2.gg ⟨a1,a2,a3,a4,a5,⟨fun p=>match ow' p with
      | some (0,f)=>some (i,f)
      | some _=>none
      | none=>ow p,⟨fun p jf hj=>?_⟩,fun j s hs=>?_⟩,by rw [List.length_set,List.length_set]; exact R1.len⟩ q2
     ·cases q:ow' p with
      | some kf =>
       obtain ⟨j1,j2,j3⟩:=o2 p kf q
       refine ⟨j1,j2,.inl ?_⟩
       rcases j3 with j3 | j3
       ·exact R3.al p j3
       ·exact R1.al p (xD p (GW p j3))
      | none =>
       simp only [q] at hj
       obtain ⟨h1,h2,h3⟩:=ok.is p jf hj
       obtain ⟨_,n2,n3⟩:=TJ p jf hj
       exact ⟨n3,by rw [n2]; exact h2,h3⟩
     ·have hO:∀ p f,ow' p = some (0,f)→(match ow' p with | some (0,f)=>some (i,f) | some _=>none | none=>ow p) = some (i,f):=fun p f z=>by simp only [z]
      rcases fD hs with ⟨e,rfl,hl⟩ | ⟨e,hs⟩
      ·subst e
       exact ⟨_,dx,bo,List.getElem?_set_self (Nat.lt_of_lt_of_le hl (Nat.le_of_eq R1.len)),(fun a0 z=>by cases z),g2,g3,hO _ _ g4,hO _ _ g5,g6.keep (av.refl _) hO fun _ _ _ _ z=>z⟩
      ·rw [List.getElem?_set_ne e]
       refine (gh j s hs).keep e2.gg (fun p f z=>?_) fun p f u z q=>?_
       ·simp only [(TJ p _ z).1]; exact z
       ·rw [(TJ p _ z).2.1]; exact q
    | _=>exact q2.elim
   | _=>cases d <;> exact q2.elim
end Dl
namespace Dl
open PySem PySem.Spec PyProof.Rows L2
section
variable {X:Cx} {e:Expr} {te:Iz} {pos:Pos} {C:Addr} {f:Str}
end
end Dl
namespace L2
open PySem PySem.Spec PyProof.Rows
section
variable {κ:Type} [DecidableEq κ]
noncomputable def BG (kvs:List (κ × V)) (k:κ):Option V:=(kvs.find? fun kv=>decide (kv.1 = k)).map (·.2)
noncomputable def putK (kvs:List (κ × V)) (k:κ) (v:V):List (κ × V) :=
 if (kvs.any fun kv=>decide (kv.1 = k)) = true then kvs.map (fun kv=>if kv.1 = k then (kv.1,v) else kv) else kvs ++ [(k,v)]
theorem zr {p:κ × V} {r:List (κ × V)} {k:κ} (e:p.1 = k):BG (p :: r) k = some p.2:=by simp [BG,List.find?_cons,e]
theorem zt {p:κ × V} {r:List (κ × V)} {k:κ} (e:¬ p.1 = k):BG (p :: r) k = BG r k:=by simp [BG,List.find?_cons,e]
theorem zu (k:κ):∀ kvs:List (κ × V),(kvs.any fun kv=>decide (kv.1 = k)) = (BG kvs k).isSome
 | []=>rfl
 | p :: r=>by
  rw [List.any_cons]
  by_cases e:p.1 = k
  ·simp only [zr e,decide_eq_true e,Bool.true_or,Option.isSome_some]
  ·rw [zt e,decide_eq_false e,Bool.false_or]; exact zu k r
theorem rm (kvs:List (κ × V)) (k:κ) (v:V):(putK kvs k v).length ≤ kvs.length + 1:=by
 unfold putK
 split
 ·rw [List.length_map]; omega
 ·rw [List.length_append,List.length_cons,List.length_nil]; omega
theorem oh.Es {o:Option V} {u:Option Value} (r:oh o u):o.isSome = u.isSome:=by
 cases o with
 | none=>cases u with
  | none=>rfl
  | some _=>exact (show False from r).elim
 | some _=>cases u with
  | none=>exact (show False from r).elim
  | some _=>rfl
theorem oh.getD {o:Option V} {u:Option Value} {d:V} {d':Value} (r:oh o u) (rd:RelV d d'):RelV (o.getD d) (u.getD d'):=by
 cases o with
 | none=>cases u with
  | none=>exact rd
  | some _=>exact (show False from r).elim
 | some _=>cases u with
  | none=>exact (show False from r).elim
  | some _=>exact r
theorem KV.any {kvs:List (κ × V)} {vs:List (κ × Value)} (r:KV kvs vs) (k:κ):(kvs.any fun kv=>decide (kv.1 = k)) = vs.any fun kv=>decide (kv.1 = k):=by
 unfold KV at r
 induction r with
 | nil=>rfl
 | cons h t ih=>rw [List.any_cons,List.any_cons,ih,h.1]
theorem KV.GX {kvs:List (κ × V)} {vs:List (κ × Value)} (r:KV kvs vs) (k:κ) {y:V} {u:Value} (ry:RelV y u) :
  KV (kvs.map fun kv=>if kv.1 = k then (kv.1,y) else kv) (vs.map fun kv=>if kv.1 = k then (kv.1,u) else kv):=by
 unfold KV at r ⊢
 induction r with
 | nil=>exact .nil
 | @cons p q ps qs h t ih =>
  rw [List.map_cons,List.map_cons]
  refine .cons ?_ ih
  obtain ⟨h1,h2⟩:=h
  by_cases e:p.1 = k
  ·rw [if_pos e,if_pos (h1.symm.trans e)]; exact ⟨h1,ry⟩
  ·rw [if_neg e,if_neg (fun z=>e (h1.trans z))]; exact ⟨h1,h2⟩
theorem KV.put {kvs:List (κ × V)} {vs:List (κ × Value)} (r:KV kvs vs) (k:κ) {y:V} {u:Value} (ry:RelV y u):KV (putK kvs k y) (stored vs k u):=by
 unfold putK stored
 rw [r.any k]
 by_cases e:(vs.any fun kv=>decide (kv.1 = k)) = true
 ·rw [if_pos e,if_pos e]; exact r.GX k ry
 ·rw [if_neg e,if_neg e]; exact Paired.snoc r ⟨rfl,ry⟩
theorem KV.keys {kvs:List (κ × V)} {vs:List (κ × Value)} (r:KV kvs vs):kvs.map (·.1) = vs.map (·.1):=by
 unfold KV at r
 induction r with
 | nil=>rfl
 | cons h t ih=>rw [List.map_cons,List.map_cons,ih,h.1]
theorem KV.length {kvs:List (κ × V)} {vs:List (κ × Value)} (r:KV kvs vs):kvs.length = vs.length:=Paired.length r
end
theorem K7 {P:Program} {w:World} {k:Key} {u:Value} (r:RelV (kV k) u):(bz P w).is k u = true:=by
 cases k with
 | inl i=>obtain ⟨t,e⟩:=(show ∃ t,u = Value.int i t from r); subst e; exact yn P w i t
 | inr x=>obtain ⟨t,e⟩:=(show ∃ t,u = Value.str x t from r); subst e; exact yo P w x t
theorem v8 {P:Program} {w:World}:∀ {ks:List Key} {us:List Value},Vals (ks.map kV) us→ItemsAre (bz P w) ks us
 | [],_,r=>by rw [List.map_nil] at r; cases r; exact .nil
 | k :: ks,_,r=>by
  rw [List.map_cons] at r
  cases r with
  | cons h t=>exact .cons (K7 h) (v8 t)
noncomputable abbrev KT (H:Hp):List (List Key × V)→List (List Key × Addr × Value)→Prop:=Paired fun p q=>p.1 = q.1∧H q.2.1 = some (.tup (p.1.map kV))∧RelV p.2 q.2.2
theorem KT.val {H:Hp} {kvs:List (List Key × V)} {xs:List (List Key × Addr × Value)} (r:KT H kvs xs) (k:List Key):oh (BG kvs k) ((atKey xs k).map (·.2)):=by
 induction r with
 | nil=>exact True.intro
 | @cons p q ps qs h t ih =>
  obtain ⟨h1,_,h2⟩:=h
  by_cases e:p.1 = k
  ·have e':q.1 = k:=h1.symm.trans e
   have b:atKey (q :: qs) k = some q.2:=by simp [atKey,List.find?_cons,e']
   rw [zr e,b]; exact h2
  ·have e':¬ q.1 = k:=fun z=>e (h1.trans z)
   have b:atKey (q :: qs) k = atKey qs k:=by simp [atKey,List.find?_cons,e']
   rw [zt e,b]; exact ih
theorem KT.GX {H:Hp} {kvs:List (List Key × V)} {xs:List (List Key × Addr × Value)} (r:KT H kvs xs) (k:List Key) {y:V} {u:Value} (ry:RelV y u) :
  KT H (kvs.map fun kv=>if kv.1 = k then (kv.1,y) else kv) (xs.map (putAt k u)):=by
 induction r with
 | nil=>exact .nil
 | @cons p q ps qs h t ih =>
  rw [List.map_cons,List.map_cons]
  refine .cons ?_ ih
  obtain ⟨h1,h2,h3⟩:=h
  unfold putAt
  by_cases e:p.1 = k
  ·rw [if_pos e,if_pos (h1.symm.trans e)]; exact ⟨h1,h2,ry⟩
  ·rw [if_neg e,if_neg (fun z=>e (h1.trans z))]; exact ⟨h1,h2,h3⟩
theorem KT.put {H:Hp} {kvs:List (List Key × V)} {xs:List (List Key × Addr × Value)} (r:KT H kvs xs) (k:List Key) {b:Addr} {y:V} {u:Value} (hb:H b = some (.tup (k.map kV))) (ry:RelV y u) :
  KT H (putK kvs k y) (storedH xs k b u):=by
 have e:(kvs.any fun kv=>decide (kv.1 = k)) = (atKey xs k).isSome:=by
  rw [zu,(r.val k).Es,Option.isSome_map]
 unfold putK storedH
 rw [e]
 by_cases q:(atKey xs k).isSome = true
 ·rw [if_pos q,if_pos q]; exact r.GX k ry
 ·rw [if_neg q,if_neg q]; exact Paired.snoc r ⟨rfl,hb,ry⟩
theorem KT.keeps {H H':Hp} {kvs:List (List Key × V)} {xs:List (List Key × Addr × Value)} (r:KT H kvs xs) (ht:∀ b ys,H b = some (.tup ys)→H' b = some (.tup ys)):KT H' kvs xs :=
 Paired.LD r fun _ _ z=>⟨z.1,ht _ _ z.2.1,z.2.2⟩
section
variable {P:Program} {w:World} {H:Hp} {h:Heap} {a:Addr}
theorem K8 {u:HO} (ok:nF P w H h) (e:Rd H a u):cG P w H h a u:=e.ok ok
theorem K9 {kvs:List (Key × V)} (ok:nF P w H h) (e:Rd H a (.dK kvs)):kvs.length ≤ sizeLine∧(a == sysModules) = false∧∃ vs,KV kvs vs∧h.DictOf (bz P w) a vs :=
 show cG P w H h a (.dK kvs) from K8 ok e
theorem Pk {kvs:List (Key × V)} (ok:nF P w H h) (e:H a = some (.dK kvs)):kvs.length ≤ sizeLine∧(a == sysModules) = false∧∃ vs,KV kvs vs∧h.DictOf (bz P w) a vs:=K9 ok (.inl e)
theorem GY {ks:List Key} (ok:nF P w H h) (e:H a = some (.tup (ks.map kV))):(tupleKind (bz P w)).is h ks a:=by
 obtain ⟨_,its,r,o,h1,h2,n,h3⟩:=(show cG P w H h a (.tup (ks.map kV)) from ok a _ e)
 exact ⟨o,its.toArray,n,h1,h2,h3,by simpa using v8 r⟩
theorem La {kvs:List (List Key × V)} (ok:nF P w H h) (e:Rd H a (.dT kvs)):kvs.length ≤ sizeLine∧(a == sysModules) = false ∧
  ∃ xs,KT H kvs xs∧h.DictOfH (tupleKind (bz P w)) a xs:=by
 obtain ⟨z,y,xs,r,o,es,ep,h1,h2,h3,h4,h5⟩:=(show cG P w H h a (.dT kvs) from K8 ok e)
 refine ⟨z,y,xs,r,o,es,ep,h1,h2,h3,h4,fun x hx=>?_,h5⟩
 have all:∀ {l:List (List Key × V)} {m:List (List Key × Addr × Value)},KT H l m→∀ x ∈ m,(tupleKind (bz P w)).is h x.1 x.2.1:=by
  intro l m q
  induction q with
  | nil=>intro x hx; exact nomatch hx
  | @cons p q ps qs hq t ih =>
   intro x hx
   rcases List.mem_cons.mp hx with e | hx
   ·subst e
    exact GY ok (by rw [← hq.1]; exact hq.2.1)
   ·exact ih x hx
 exact all r x hx
theorem Pl {kvs:List (List Key × V)} (ok:nF P w H h) (e:H a = some (.dT kvs)):kvs.length ≤ sizeLine∧(a == sysModules) = false ∧
  ∃ xs,KT H kvs xs∧h.DictOfH (tupleKind (bz P w)) a xs:=La ok (.inl e)
end
noncomputable def BH (H:Hp) (a:Addr) (y v:V) (H':Hp):Prop :=
 (∃ kvs k,H a = some (.dK kvs)∧y = kV k∧kvs.length < sizeLine∧H' = upd H a (.dK (putK kvs k v))) ∨
 ∃ kvs k b,H a = some (.dT kvs)∧y = .ref b∧H b = some (.tup (k.map kV))∧kvs.length < sizeLine∧H' = upd H a (.dT (putK kvs k v))
theorem BH.k {H:Hp} {a:Addr} {kvs:List (Key × V)} {k:Key} {v:V} (e:H a = some (.dK kvs)) (hl:kvs.length < sizeLine):BH H a (kV k) v (upd H a (.dK (putK kvs k v))):=.inl ⟨kvs,k,e,rfl,hl,rfl⟩
theorem BH.t {H:Hp} {a b:Addr} {kvs:List (List Key × V)} {k:List Key} {v:V} (e:H a = some (.dT kvs)) (eb:H b = some (.tup (k.map kV))) (hl:kvs.length < sizeLine) :
  BH H a (.ref b) v (upd H a (.dT (putK kvs k v))):=.inr ⟨kvs,k,b,e,rfl,eb,hl,rfl⟩
section
variable {X:Cx} {pins:List (Addr × Obj)} {σ:St} {H:Hp} {s:Shared} {a:Addr} {y v:V} {u r:Value} {o:Option V} {A:Around} {E:Value→Shared→Prop}
theorem Inv.big (I:Inv X pins σ H s):sysModules < s.heap.objs.size:=by
 have h:mainGlobals < s.heap.objs.size:=(I.mod.glob.keeps I.bk).lt
 exact Nat.lt_trans (by decide) h
theorem CW {h':Heap} {t':Nat} {ob:HO} (I:Inv X pins σ H s) (mu:Og (H a)) (hs:Heap.SameBut a s.heap h') (he:∃ q,h'.get? a = some q) (new:cG X.prog X.w (upd H a ob) h' a ob) :
  Inv X pins σ (upd H a ob) { s with heap:=h',toks:=t' } :=
 I.write (x:=a) (e:=a) mu (.inl rfl) (fun b q hb z=>(hs.2 b hb).trans z) he new
theorem MO {P:Program} {w:World} {H':Hp} {h':Heap} {kvs:List (Key × V)} {vs:List (Key × Value)} (z:kvs.length ≤ sizeLine) (hd:(a == sysModules) = false) (rel:KV kvs vs) (dd:h'.DictOf (bz P w) a vs) :
  cG P w H' h' a (.dK kvs):=⟨z,hd,vs,rel,dd⟩
theorem Et {H':Hp} {Q:Unit→Shared→Prop} (hu:A.units + 1 < cLine) (I:Inv X pins σ H s) (g:BH H a y v H') (ry:RelV y u) (rv:RelV v r) (h:∀ s',Inv X pins σ H' s'→Q () s') :
  wpAny (model X.prog X.w) A (setItem (.ref a) u r) Q E s:=by
 rcases g with ⟨kvs,k,e,ey,l,eH⟩ | ⟨kvs,k,b,e,ey,eb,l,eH⟩
 ·subst ey eH
  obtain ⟨z,hd,vs,rel,dd⟩:=Pk I.bE e
  have hz:vs.length ≤ sizeLine:=by rw [← rel.length]; exact z
  have hl:(putK kvs k v).length ≤ sizeLine:=by have:=rm kvs k v; omega
  refine wpAny_setItem_pairs (hsz:=hz) (K7 ry) dd fun h' dd' hs=>h _ ?_
  have he:∃ q,h'.get? a = some q:=let ⟨q,_,_,hq,_⟩:=dd'; ⟨q,hq⟩
  exact CW I (by rw [e]; exact True.intro) hs he (MO hl hd (rel.put k rv) dd')
 ·subst ey eH
  cases (show u = Value.ref b from ry)
  obtain ⟨z,hd,xs,rel,dd⟩:=Pl I.bE e
  have hz:xs.length ≤ sizeLine:=by rw [← Paired.length rel]; exact z
  have hl:(putK kvs k v).length ≤ sizeLine:=by have:=rm kvs k v; omega
  refine wpAny_setItem_heap (hsz:=hz) (tupleKind_room_in1 hu) (GY I.bE eb) dd fun h' dd' hs=>h _ ?_
  obtain ⟨q,es,ep,hq,h2,h3,h4,_,h5⟩:=dd'
  refine CW I (by rw [e]; exact True.intro) hs ⟨q,hq⟩ ⟨hl,hd,_,(rel.put k eb rv).keeps fun c ys ec=>?_,q,es,ep,hq,h2,h3,h4,h5⟩
  rw [aj (Of ec e (fun z=>nomatch z))]
  exact ec
end
section
variable {X:Cx} {pins:List (Addr × Obj)} {σ:St} {H:Hp} {s:Shared} {a:Addr} {kvs:List (Key × V)} {k:Key} {u:Value} {A:Around} {E:Value→Shared→Prop}
end
noncomputable def Pm (td ty tv:TE):TS:=fun D σ H=>tv σ H fun v H1=>td σ H1 fun x H2=>ty σ H2 fun y H3=>∃ a H4,x = .ref a∧BH H3 a y v H4∧D.nx σ H4
section
variable {X:Cx} {o i e value:Expr} {pos pos' Sy:Pos} {td ty tv:TE}
theorem JR (hu:X.A.units + 1 < cLine) (ho:PE X o td) (hi:PE X i ty) (hv:PE X value tv) (hs:swapsWith value (some (.Subscript o i pos')) pos.line X.env = pure false) :
  PS X (.Assign [.Subscript o i pos'] value pos) (Pm td ty tv):=by
 intro pins s σ H D I h
 refine wpAny_Assign_Subscript (cP (hv pins s σ H _ I h) fun r s1 ⟨v,H1,I1,rv,q1⟩=>cP (ho pins s1 σ H1 _ I1 q1) fun u s2 ⟨x,H2,I2,rx,q2⟩=>cP (hi pins s2 σ H2 _ I2 q2) fun iv s3 ⟨y,H3,I3,ry,a,H4,ex,g,q3⟩=>?_) hs
 subst ex
 obtain rfl : u = Value.ref a:=rx
 exact Et hu I3 g ry rv fun s4 I4=>⟨σ,H4,I4,q3⟩
end
theorem GZ {P:Program} {w:World} {H:Hp} (h:Heap) (hb:sysModules < h.objs.size):cG P w H (h.push { cls:=.type "dict",data:=.dict #[] }) h.objs.size (.dK []) :=
 ⟨Nat.zero_le _,beq_eq_false_iff_ne.mpr (Ne.symm (Nat.ne_of_lt hb)),[],.nil,Heap.DictOf.new h⟩
noncomputable def MP:TE:=fun _ H Q=>∀ p,H p = none→Q (.ref p) (upd H p (.dK []))
section
variable {X:Cx} {pos:Pos}
theorem G4:PE X (.Dict [] [] pos) MP:=fun pins s σ H Q I h =>
 wpAny_Dict_empty ⟨.ref s.heap.objs.size,_,I.laid (a:=s.heap.objs.size) (o:=.dK []) (t':=s.toks) (fun _ _ q=>Heap.get?_push_of_some _ q) (Nat.le_refl _) (GZ s.heap I.big),rfl,h _ (I.bE.fresh (Nat.le_refl _))⟩
end
noncomputable def IsD (H:Hp) (a:Addr):Prop:=(∃ kvs,Rd H a (.dK kvs))∨∃ kvs,Rd H a (.dT kvs)
theorem G6 {X:Cx} {pins:List (Addr × Obj)} {σ:St} {H:Hp} {s:Shared} {a:Addr} (I:Inv X pins σ H s) (d:IsD H a) :
  s.TypeIs (.ref a) "dict"∧(∀ b,Value.ref a = .ref b→∃ ob,s.heap.get? b = some ob∧ob.dict = none)∧(a == sysModules) = false:=by
 rcases d with ⟨kvs,e⟩ | ⟨kvs,e⟩
 ·obtain ⟨_,hd,vs,_,dd⟩:=K9 I.bE e
  refine ⟨dd.typeIs,fun b q=>?_,hd⟩
  cases q
  obtain ⟨ob,_,_,h1,h2,_⟩:=dd
  exact ⟨ob,h1,h2.2.1⟩
 ·obtain ⟨_,hd,xs,_,dd⟩:=La I.bE e
  refine ⟨dd.typeIs,fun b q=>?_,hd⟩
  cases q
  obtain ⟨ob,_,_,h1,h2,_⟩:=dd
  exact ⟨ob,h1,h2.2.1⟩
section
variable {X:Cx} {pins:List (Addr × Obj)} {σ:St} {H:Hp} {s:Shared} {a:Addr} {y d:V} {u r:Value} {o:Option V} {A:Around} {E:Value→Shared→Prop}
end
section
variable {X:Cx} {o e f:Expr} {apos tK:Pos} {td ty tx:TE}
end
section
variable {X:Cx} {pins:List (Addr × Obj)} {σ:St} {H:Hp} {s:Shared} {a:Addr} {kvs:List (Key × V)} {A:Around} {E:Value→Shared→Prop}
end
section
variable {X:Cx} {pins:List (Addr × Obj)} {σ:St} {H:Hp} {s:Shared} {a:Addr} {y:V} {u:Value} {A:Around} {E:Value→Shared→Prop}
end
end L2
namespace Dl
open PySem PySem.Spec PyProof.Rows L2
noncomputable def valD (kvs:List (Key × D)) (k:Key):Option D:=(kvs.find? fun kv=>decide (kv.1 = k)).map (·.2)
noncomputable def putD (kvs:List (Key × D)) (k:Key) (d:D):List (Key × D) :=
 if (kvs.any fun kv=>decide (kv.1 = k)) = true then kvs.map (fun kv=>if kv.1 = k then (kv.1,d) else kv) else kvs ++ [(k,d)]
noncomputable def JS:D→Option Key
 | .int i=>some (.inl i)
 | .str x=>some (.inr x)
 | _=>none
noncomputable def dK:Key→D
 | .inl i=>.int i
 | .inr x=>.str x
section
variable {K:PySem.W.Frag} {G G':Hp} {vs:List (Key × V)} {ds:List (Key × D)} {k:Key}
theorem eV.length (h:eV K G vs ds):vs.length = ds.length:=by
 induction h with
 | nil=>rfl
 | cons _ _ ih=>simp [ih]
theorem eV.any (h:eV K G vs ds):(vs.any fun kv=>decide (kv.1 = k)) = ds.any fun kv=>decide (kv.1 = k):=by
 induction h with
 | nil=>rfl
 | cons a _ ih=>simp only [List.any_cons,ih]
theorem eV.append {vs':List (Key × V)} {ds':List (Key × D)} (h:eV K G vs ds) (h':eV K G vs' ds'):eV K G (vs ++ vs') (ds ++ ds'):=by
 induction h with
 | nil=>exact h'
 | cons a _ ih=>exact .cons a ih
theorem eV.GX {v:V} {d:D} (h:eV K G vs ds) (hv:Den K G v d):eV K G (vs.map fun kv=>if kv.1 = k then (kv.1,v) else kv) (ds.map fun kv=>if kv.1 = k then (kv.1,d) else kv):=by
 induction h with
 | nil=>exact .nil
 | @cons k' v' d' r s a _ ih =>
  rw [List.map_cons,List.map_cons]
  by_cases z:k' = k
  ·rw [if_pos z,if_pos z]; exact .cons hv ih
  ·rw [if_neg z,if_neg z]; exact .cons a ih
theorem eV.put {v:V} {d:D} (h:eV K G vs ds) (hv:Den K G v d):eV K G (L2.putK vs k v) (putD ds k d):=by
 unfold L2.putK putD
 rw [h.any (k:=k)]
 split
 ·exact h.GX hv
 ·exact h.append (.cons hv .nil)
theorem eV.get {i:Nat} {kv:Key × V} (h:eV K G vs ds) (e:vs[i]? = some kv):∃ d,ds[i]? = some (kv.1,d)∧Den K G kv.2 d:=by
 induction h generalizing i with
 | nil=>simp at e
 | @cons k' v' d' r s a _ ih =>
  cases i with
  | zero=>simp at e; subst e; exact ⟨d',rfl,a⟩
  | succ i=>exact ih (by simpa using e)
theorem G8 {v:V} {d:D} (h:Den K G v d) (e:JS d = some k):v = kV k:=by
 cases h <;> simp [JS] at e <;> subst e <;> rfl
theorem MQ:Den K G (kV k) (dK k):=by
 cases k
 ·exact .int _
 ·exact .str _
end
noncomputable def v9 (C i:Nat) (f:Str) (δ:Ev):Option (List (Key × D)):=match δ[i]? with
 | some (.ob _ C' fs)=>if C' = C then (match fs.lookup f with
  | some (.dc l)=>some l
  | _=>none) else none
 | _=>none
section
variable {K:PySem.W.Frag} {n:En} {G H G' H':Hp} {ow ow':Ow} {i i':Nat} {f:Str} {v:V} {s:Fl} {bo:List (Str × V)} {fs:List (Str × Fl)} {δ:Ev} {σ:L2.St} {p q:Addr} {o:HO}
theorem qu {C i:Nat} {l:List (Key × D)} (h:v9 C i f δ = some l):∃ h0 fs,δ[i]? = some (.ob h0 C fs)∧fs.lookup f = some (.dc l):=by
 unfold v9 at h
 split at h
 ·rename_i h0 C' fs e
  split at h
  ·rename_i ec
   subst ec
   split at h
   ·rename_i d' e2; cases h; exact ⟨h0,fs,e,e2⟩
   ·cases h
  ·cases h
 ·cases h
theorem qZ.own {s0 s1:Fl} {o':HO} (h:qZ K G H ow i bo fs) (hf:fs.lookup f = some s0) (hq:bo.lookup f = some (.ref q)) (ho:ow q = some (i,f)) (hd:E4 K G (upd H q o') ow i f (.ref q) s1):qZ K G (upd H q o') ow i bo (eE f s1 fs):=by
 refine ⟨?_,fun g s' e=>?_⟩
 ·rw [iR,Dl.pH,h.keys]
  cases hm:fs.find? (fun p=>f == p.1) with
  | none =>
   have:=List.find?_eq_none.mp hm
   have:fs.lookup f = none:=List.lookup_eq_none_iff.mpr fun p hp=>by simpa using this p hp
   rw [hf] at this; cases this
  | some p =>
   have h1:=List.mem_of_find?_eq_some hm
   have h2:=List.find?_some hm
   exact List.mem_map.mpr ⟨p,h1,(beq_iff_eq.mp h2).symm⟩
 ·rw [fF] at e
  by_cases z:g = f
  ·rw [if_pos z] at e
   cases e
   subst z
   exact ⟨.ref q,hq,hd⟩
  ·rw [if_neg z] at e
   obtain ⟨v,h1,h2⟩:=h.at_ g s' e
   refine ⟨v,h1,?_⟩
   cases s' with
   | sh d=>exact h2
   | ow m =>
    obtain ⟨r,ws,g1,g2,g3,g4⟩:=h2
    have:r ≠ q:=fun w=>by subst w; rw [ho] at g3; cases g3; exact z rfl
    exact ⟨r,ws,g1,by rw [aj this]; exact g2,g3,g4⟩
   | dc m =>
    obtain ⟨r,ws,g1,g2,g3,g4⟩:=h2
    have:r ≠ q:=fun w=>by subst w; rw [ho] at g3; cases g3; exact z rfl
    exact ⟨r,ws,g1,by rw [aj this]; exact g2,g3,g4⟩
   | fz q' m=>exact h2
theorem Rel.Pn (R:Rel K n δ σ G H) {h0:Option Nat} {C:Nat} (e:δ[i]? = some (.ob h0 C fs)) (hq:H q = none):∃ a dx bo,σ[i]? = some (some (.ref a))∧(upd H q (.dK [])) a = some (.ins C dx bo)∧bo.length = fs.length ∧
  Rel K n (δ.set i (.ob h0 C (eE f (.dc []) fs))) σ G (upd (upd H q (.dK [])) a (.ins C dx (jj f (.ref q) bo))):=by
 obtain ⟨ow,ok,gh⟩:=R.gh
 have R1:Rel K n δ σ G (upd H q (.dK [])):=R.other (R.sub.free hq) (R.al _ hq) hq _
 obtain ⟨ok1,Zx⟩:=JQ R ok gh hq i f (.dK [])
 obtain ⟨a,dx,bo,g1,g2,g3,g4,g5,g6,g7⟩:=Zx i _ e
 have qa:q ≠ a:=fun z=>by subst z; rw [aq] at g3; cases g3
 refine ⟨a,dx,bo,g1,g3,by have:=congrArg List.length g7.keys; simpa using this,R1.BF ok1 Zx g5 ⟨a,dx,_,g1,g2,aq,?_,g5,g6,?_⟩⟩
 ·rw [aj (fun z=>by subst z; rw [g3] at g4; cases g4)]; exact g4
 ·refine qZ.put (g7.CV fun p f o z no q=>?_) ⟨q,[],rfl,?_,du,.nil⟩
  ·rw [aj (fun z=>by subst z; rw [g3] at q; cases q; exact no _ _ _ rfl)]; exact q
  ·rw [aj qa]; exact aq
theorem Rel.CY (R:Rel K n δ σ G H) {h0:Option Nat} {C:Nat} {l:List (Key × D)} (e:δ[i]? = some (.ob h0 C fs)) (hl:fs.lookup f = some (.dc l)):∃ a dx bo q vs,σ[i]? = some (some (.ref a))∧H a = some (.ins C dx bo)∧bo.lookup f = some (.ref q)∧H q = some (.dK vs)∧eV K G vs l ∧
  ∀ (G' H':Hp) (vs':List (Key × V)) (l':List (Key × D)),Ext G H G' H'→eV K G' vs' l'→Rel K n (δ.set i (.ob h0 C (eE f (.dc l') fs))) σ G' (upd H' q (.dK vs')):=by
 obtain ⟨ow,ok,gh⟩:=R.gh
 obtain ⟨a,dx,bo,g1,g2,g3,g4,g5,g6,g7⟩:=gh i _ e
 obtain ⟨w,k1,q,vs,rfl,k2,k3,k4⟩:=g7.at_ f _ hl
 refine ⟨a,dx,bo,q,vs,g1,g3,k1,k2,k4,fun G' H' vs' l' x hd=>?_⟩
 have ok':FL n G' H' ow:=⟨fun p k hk=>by
  obtain ⟨h1,h2,h3⟩:=ok.is p k hk
  refine ⟨?_,vR x.hh h2,h3⟩
  cases q:G' p with
  | none=>rfl
  | some w=>exact absurd (x.fr p w q h1) h2⟩
 have gh':∀ (i:Nat) (s:Sl),δ[i]? = some s→A4 K n G' H' ow i σ[i]? s:=fun i s hs=>(gh i s hs).keep x.gg (fun _ _ z=>z) fun p f u _ z=>x.hh p u z
 refine (R.ext x).BF ok' gh' k3 ⟨a,dx,bo,g1,g2,?_,?_,g5,g6,?_⟩
 ·rw [aj (fun z=>by subst z; rw [g3] at k2; cases k2)]; exact x.hh _ _ g3
 ·rw [aj (fun z=>by subst z; rw [g4] at k2; cases k2)]; exact x.hh _ _ g4
 ·exact (g7.keep x.gg (fun _ _ z=>z) fun p f u _ z=>x.hh p u z).own hl k1 k3 ⟨q,vs',rfl,aq,k3,hd⟩
end
theorem JT {k:Nat} {A:Around} (r:eD k A):A.units + 1 < cLine:=by have:=r.un; omega
noncomputable def Ha (C i:Nat) (f:Str):bC:=fun E δ=>zq C i δ = true∧E.nx (putAt i f (.dc []) δ)
noncomputable def CZ (C i:Nat) (f:Str) (tx tz:Iz):bC:=fun E δ=>match v9 C i f δ with
 | some l=>tx δ fun d=>tz δ fun z=>∃ k,JS z = some k∧l.length < sizeLine∧E.nx (putAt i f (.dc (putD l k d)) δ)
 | none=>False
section
variable {X:Cx} {a b e z:Expr} {es:List Expr} {ta tb te tz:Iz} {pos:Pos} {C:Addr} {f:Str}
theorem JU (i:Nat) {x:Str} {np tp lp:Pos} (c:wU X.K C) (na:eU X.K C f) (hN:X.N[i]? = some x:=by rfl) (hv:rQ X.env.scope x:=by first | exact Or.inl rfl | exact Or.inr (Or.inl rfl) | exact Or.inr (Or.inr rfl))
  (hd:(x == ("__debug__":Str)) = false:=by decide) (om:(x == ("__classdict__":Str)) = false:=by decide) (hs:swapsWith (.Dict [] [] lp) (some (.Attribute (.Name x np) f tp)) pos.line X.env = pure false:=by rfl) :
  DS X (.Assign [.Attribute (.Name x np) f tp] (.Dict [] [] lp) pos) (Ha C i f) :=
 gc (Fy (iM hN hv hd om) G4 hs) fun F σ H ⟨n,δ,G,E,R,⟨h2,h3⟩,k⟩=>fun p hp=>by
  obtain ⟨h0,fs,e1,lt⟩:=v7 h2
  obtain ⟨a,dx,bo,g1,g2,g3,R2⟩:=R.Pn (f:=f) e1 hp
  rw [md e1] at h3
  exact ⟨.ref a,g1,a,C,dx,bo,rfl,g2,c,na,by omega,k.nx _ σ G _ R2 h3⟩
theorem JV (i:Nat) {x:Str} {np fp sp:Pos} (hu:X.A.units + 1 < cLine) (c:wU X.K C) (na:eU X.K C f) (he:DX X e te) (hz:DX X z tz) (hN:X.N[i]? = some x:=by rfl) (hv:rQ X.env.scope x:=by first | exact Or.inl rfl | exact Or.inr (Or.inl rfl) | exact Or.inr (Or.inr rfl))
  (hd:(x == ("__debug__":Str)) = false:=by decide) (om:(x == ("__classdict__":Str)) = false:=by decide) (hb:attributeBase (.Name x np) f X.env (eval (.Name x np) X.env) = eval (.Name x np) X.env:=by rfl)
  (hs:swapsWith e (some (.Subscript (.Attribute (.Name x np) f fp) z sp)) pos.line X.env = pure false:=by rfl) :
  DS X (.Assign [.Subscript (.Attribute (.Name x np) f fp) z sp] e pos) (CZ C i f te tz) :=
 gc (JR hu (wV (iM hN hv hd om) hb) hz he hs) fun F σ H hx=>hx.el fun n δ G E R h k=>by
  unfold CZ at h
  split at h
  ·rename_i l el
   refine ⟨n,δ,G,_,R,h,fun v G1 H1 d x1 d1 h1=>?_⟩
   obtain ⟨h0,fs,e1,e2⟩:=qu el
   obtain ⟨a,dx,bo,q,vs,g1,g2,g3,g4,g5,g6⟩:=(R.ext x1).CY e1 e2
   refine ⟨.ref a,g1,a,C,dx,bo,.ref q,rfl,g2,c,na,g3,n,δ,G1,_,R.ext x1,h1,fun v2 G2 H2 d2 x2 IX ⟨kk,ek,hl,h2⟩=>?_⟩
   cases G8 IX ek
   rw [md e1] at h2
   exact ⟨q,_,rfl,BH.k (x2.hh _ _ g4) (by rw [g5.length]; exact hl),k.nx _ σ G2 _ (g6 G2 H2 _ _ x2 ((g5.up x2.gg).put (d1.up x2.gg))) h2⟩
  ·exact h.elim
end
end Dl
namespace Dl
open PySem PySem.Spec PyProof.Rows L2
section
variable {X:Cx} {pins:List (Addr × Obj)} {σ:L2.St} {H:Hp} {s:Shared} {q:Addr} {kvs:List (Key × V)} {ob:Obj}
theorem Inv.iK (I:Inv X pins σ H s) (e:H q = some (.dK kvs)):∃ ob,Inv X pins σ (upd H q (.iK ob (.dK kvs))) s:=by
 obtain ⟨z,y,vs,r,ob,es,ep,eh,c⟩:=I.bE q _ e
 have ne:∀ b o,H b = some o→(∀ kvs,o ≠ .dK kvs)→b ≠ q:=fun b o eb no w=>by subst w; rw [e] at eb; cases eb; exact no _ rfl
 have nn:∀ b,H b = none→b ≠ q:=fun b eb w=>by subst w; rw [e] at eb; cases eb
 have st:∀ a o,H a = some o→cG X.prog X.w (upd H q (.iK ob (.dK kvs))) s.heap a o:=fun a o ea =>
  (I.bE a o ea).oj (fun _ _ _ w=>w) (fun b w=>by rw [aj (ne b _ w (fun _ z=>by cases z))]; exact w) fun b xs w=>by rw [aj (ne b _ w (fun _ z=>by cases z))]; exact w
 refine ⟨ob,⟨I.ok,I.os,I.bare,⟨I.base.keep,I.base.slot,fun b o e1 n hx=>?_,I.base.there,fun b xs w=>?_,fun b o u w=>?_,fun b ps w=>?_⟩,I.loc,I.cell,?_,fun x c w=>?_,fun p hp=>?_,fun a o ea=>?_,I.len⟩⟩
 ·have:=I.base.free b o e1 n hx
  rw [aj (nn b this)]; exact this
 ·have:=I.base.u6 b xs w
  rw [aj (ne b _ this (fun _ z=>by cases z))]; exact this
 ·have:=I.base.rP b o u w
  rw [aj (ne b _ this (fun _ z=>by cases z))]; exact this
 ·obtain ⟨more,this⟩:=I.base.u7 b ps w
  exact ⟨more,by rw [aj (ne b _ this (fun _ z=>by cases z))]; exact this⟩
 ·rw [aj (nn _ I.free)]; exact I.free
 ·have:=I.iZ x c w
  rw [aj (nn _ this)]; exact this
 ·obtain ⟨p1,p2,p3⟩:=I.pin p hp
  exact ⟨p1,by rw [aj (nn _ p2)]; exact p2,p3⟩
 ·by_cases ha:a = q
  ·subst ha
   rw [aq] at ea; cases ea
   exact ⟨eh,st _ _ e⟩
  ·rw [aj ha] at ea
   exact st a o ea
theorem Inv.Po (I:Inv X pins σ H s) (e:H q = some (.dK kvs)):∀ o u,X.H₀ q ≠ some (.iK o u):=fun o u w=>by
 have:=I.base.rP q o u w
 rw [e] at this; cases this
theorem Inv.vm (I:Inv X pins σ H s) (e:H q = some (.iK ob (.dK kvs))) (nf:∀ o u,X.H₀ q ≠ some (.iK o u)):Inv X pins σ (upd H q (.dK kvs)) s:=by
 have ne:∀ b o,H b = some o→(∀ ob u,o ≠ .iK ob u)→b ≠ q:=fun b o eb no w=>by subst w; rw [e] at eb; cases eb; exact no _ _ rfl
 have nn:∀ b,H b = none→b ≠ q:=fun b eb w=>by subst w; rw [e] at eb; cases eb
 have st:∀ a o,cG X.prog X.w H s.heap a o→cG X.prog X.w (upd H q (.dK kvs)) s.heap a o:=fun a o ea =>
  ea.oj (fun _ _ _ w=>w) (fun b w=>by rw [aj (ne b _ w (fun _ _ z=>by cases z))]; exact w) fun b xs w=>by rw [aj (ne b _ w (fun _ _ z=>by cases z))]; exact w
 refine ⟨I.ok,I.os,I.bare,⟨I.base.keep,I.base.slot,fun b o e1 n hx=>?_,I.base.there,fun b xs w=>?_,fun b o u w=>?_,fun b ps w=>?_⟩,I.loc,I.cell,?_,fun x c w=>?_,fun p hp=>?_,fun a o ea=>?_,I.len⟩
 ·have:=I.base.free b o e1 n hx
  rw [aj (nn b this)]; exact this
 ·have:=I.base.u6 b xs w
  rw [aj (ne b _ this (fun _ _ z=>by cases z))]; exact this
 ·have:=I.base.rP b o u w
  have hb:b ≠ q:=fun z=>by subst z; exact nf o u w
  rw [aj hb]; exact this
 ·obtain ⟨more,this⟩:=I.base.u7 b ps w
  exact ⟨more,by rw [aj (ne b _ this (fun _ _ z=>by cases z))]; exact this⟩
 ·rw [aj (nn _ I.free)]; exact I.free
 ·have:=I.iZ x c w
  rw [aj (nn _ this)]; exact this
 ·obtain ⟨p1,p2,p3⟩:=I.pin p hp
  exact ⟨p1,by rw [aj (nn _ p2)]; exact p2,p3⟩
 ·by_cases ha:a = q
  ·subst ha
   rw [aq] at ea; cases ea
   exact st _ _ (I.bE _ _ e).2
  ·rw [aj ha] at ea
   exact st a o (I.bE a o ea)
end
noncomputable def TL (t:TS):TS:=fun F σ H=>∃ (q:Addr) (kvs:List (Key × V)),H q = some (.dK kvs)∧∀ ob,t ⟨fun σ' H'=>H' q = some (.iK ob (.dK kvs))∧F.nx σ' (upd H' q (.dK kvs)),fun _ _=>False,fun _ _=>False,fun _ _=>False⟩ σ (upd H q (.iK ob (.dK kvs)))
theorem MR {X:Cx} {st:Stmt} {t:TS} (h:PS X st t):PS X st (TL t):=fun pins s σ H F I ⟨q,kvs,e,k⟩=>by
 obtain ⟨ob,I1⟩:=Inv.iK I e
 refine wpAny_mono (h pins s σ _ _ I1 (k ob)) (fun f s1 hs=>?_) fun _ _ z=>z
 cases f with
 | next=>obtain ⟨σ',H',I',e',q'⟩:=hs; exact ⟨σ',_,Inv.vm I' e' (Inv.Po I e),q'⟩
 | ret u=>obtain ⟨_,_,_,_,_,z⟩:=hs; exact z.elim
 | brk=>obtain ⟨_,_,_,z⟩:=hs; exact z.elim
 | cont=>obtain ⟨_,_,_,z⟩:=hs; exact z.elim
noncomputable def N4:Fl→Bool
 | .fz _ _=>false
 | _=>true
noncomputable def Lb:Sl→Bool
 | .ob _ _ fs=>fs.all fun p=>N4 p.2
 | .rc _ fs=>fs.all fun p=>N4 p.2
 | .hb _ _ fs=>fs.all fun p=>N4 p.2
 | _=>true
noncomputable def Hb (δ:Ev):Bool:=δ.all Lb
noncomputable abbrev JW (n:En) (q:Addr) (o:HO):En:=⟨upd n.G q o,upd n.H q o,fun b=>n.M b∧b ≠ q⟩
section
variable {K:PySem.W.Frag} {n:En} {G H G' H':Hp} {ow ow':Ow} {i i':Nat} {f:Str} {v:V} {s:Fl} {bo:List (Str × V)} {fs:List (Str × Fl)} {δ:Ev} {σ:L2.St} {p q:Addr} {o:HO} {ob:Obj} {kvs:List (Key × V)}
theorem JX {a:Addr} {xs:List V} (hq:G q = some (.iK ob (.dK kvs))) (h:kT K G a xs):kT K (del G q) a xs:=by
 rcases h with (h | ⟨o,h⟩) | h
 ·exact .inl (.inl (by rw [bB (fun z=>by subst z; rw [hq] at h; cases h)]; exact h))
 ·exact .inl (.inr ⟨o,by rw [bB (fun z=>by subst z; rw [hq] at h; cases h)]; exact h⟩)
 ·exact .inr h
theorem JY {a:Addr} {xs:List V} (hq:G q = some (.iK ob (.dK kvs))) (h:gG K G a xs):gG K (del G q) a xs:=by
 rcases h with (h | ⟨o,h⟩) | h
 ·exact .inl (.inl (by rw [bB (fun z=>by subst z; rw [hq] at h; cases h)]; exact h))
 ·exact .inl (.inr ⟨o,by rw [bB (fun z=>by subst z; rw [hq] at h; cases h)]; exact h⟩)
 ·exact .inr h
mutual
theorem Den.del (hq:G q = some (.iK ob (.dK kvs))):∀ {v:V} {d:D},Den K G v d→Den K (Dl.del G q) v d
 | _,_,.aU=>.aU
 | _,_,.bl b=>.bl b
 | _,_,.int i=>.int i
 | _,_,.str x=>.str x
 | _,_,.pt a=>.pt a
 | _,_,.tup h l=>.tup (JX hq h) (aH.del hq l)
 | _,_,.lst h l=>.lst (JY hq h) (aH.del hq l)
theorem aH.del (hq:G q = some (.iK ob (.dK kvs))):∀ {vs:List V} {ds:List D},aH K G vs ds→aH K (Dl.del G q) vs ds
 | _,_,.nil=>.nil
 | _,_,.cons h t=>.cons (Den.del hq h) (aH.del hq t)
end
theorem eV.del {vs:List (Key × V)} {ds:List (Key × D)} (hq:G q = some (.iK ob (.dK kvs))) (h:eV K G vs ds):eV K (Dl.del G q) vs ds:=by
 induction h with
 | nil=>exact .nil
 | cons a _ ih=>exact .cons (a.del hq) ih
theorem pI {β:Type} {f:Str} {s:β}:∀ {fs:List (Str × β)},fs.lookup f = some s→∃ g,(g,s) ∈ fs
 | [],h=>by cases h
 | (g,x) :: r,h=>by
  rw [List.lookup_cons] at h
  split at h
  ·cases h; exact ⟨g,List.mem_cons_self⟩
  ·obtain ⟨g',h'⟩:=pI h; exact ⟨g',List.mem_cons_of_mem _ h'⟩
theorem E4.vm {o':HO} (hq:G q = some (.iK ob (.dK kvs))) (no:ow q = none) (nf:N4 s = true) (h:E4 K G H ow i f v s):E4 K (del G q) (upd H q o') (ic ow q o2) i f v s:=by
 have nq:∀ r k,ow r = some k→r ≠ q:=fun r k w z=>by subst z; rw [no] at w; cases w
 cases s with
 | sh d=>exact Den.del hq h
 | ow l=>obtain ⟨r,vs,h1,h2,h3,h4⟩:=h; exact ⟨r,vs,h1,by rw [aj (nq _ _ h3)]; exact h2,by rw [aS (nq _ _ h3)]; exact h3,h4.del hq⟩
 | dc l=>obtain ⟨r,vs,h1,h2,h3,h4⟩:=h; exact ⟨r,vs,h1,by rw [aj (nq _ _ h3)]; exact h2,by rw [aS (nq _ _ h3)]; exact h3,h4.del hq⟩
 | fz r l=>cases nf
theorem qZ.vm {o':HO} (hq:G q = some (.iK ob (.dK kvs))) (no:ow q = none) (nf:(fs.all fun p=>N4 p.2) = true) (h:qZ K G H ow i bo fs):qZ K (del G q) (upd H q o') (ic ow q o2) i bo fs :=
 ⟨h.keys,fun f s e=>let ⟨v,h1,h2⟩:=h.at_ f s e; ⟨v,h1,h2.vm hq no (by obtain ⟨g,hg⟩:=pI e; exact (List.all_eq_true.mp nf) _ hg)⟩⟩
theorem A4.vm {n':En} {o':HO} {s:Sl} {x:Option (Option V)} (hn:∀ p,p ≠ q→n'.H p = none→n.H p = none) (hq:G q = some (.iK ob (.dK kvs))) (no:ow q = none) (nf:Lb s = true) (h:A4 K n' G H ow i x s):A4 K n (del G q) (upd H q o') (ic ow q o2) i x s:=by
 have nq:∀ r k,ow r = some k→r ≠ q:=fun r k w z=>by subst z; rw [no] at w; cases w
 cases s with
 | no=>trivial
 | sh d=>obtain ⟨v,h1,h2⟩:=h; exact ⟨v,h1,h2.del hq⟩
 | ow l=>obtain ⟨p,vs,h1,h2,h3,h4,h5⟩:=h; exact ⟨p,vs,h1,by rw [aj (nq _ _ h4)]; exact h2,hn _ (nq _ _ h4) h3,by rw [aS (nq _ _ h4)]; exact h4,h5.del hq⟩
 | mu a l=>obtain ⟨vs,h1,h2,h4,h5⟩:=h; exact ⟨vs,h1,by rw [aj (nq _ _ h4)]; exact h2,by rw [aS (nq _ _ h4)]; exact h4,h5.del hq⟩
 | ob r C fs =>
  obtain ⟨a,dx,bo,h1,h2,h3,h4,h5,h6,h7⟩:=h
  exact ⟨a,dx,bo,h1,h2,by rw [aj (nq _ _ h5)]; exact h3,by rw [aj (nq _ _ h6)]; exact h4,by rw [aS (nq _ _ h5)]; exact h5,by rw [aS (nq _ _ h6)]; exact h6,h7.vm hq no nf⟩
 | pt a=>exact h
 | rc r fs =>
  obtain ⟨a,bo,h1,h2,h3,h5,h7⟩:=h
  exact ⟨a,bo,h1,h2,by rw [aj (nq _ _ h5)]; exact h3,by rw [aS (nq _ _ h5)]; exact h5,h7.vm hq no nf⟩
 | hb a C fs =>
  obtain ⟨dx,bo,h3,h4,h5,h6,h7⟩:=h
  exact ⟨dx,bo,by rw [aj (nq _ _ h5)]; exact h3,by rw [aj (nq _ _ h6)]; exact h4,by rw [aS (nq _ _ h5)]; exact h5,by rw [aS (nq _ _ h6)]; exact h6,h7.vm hq no nf⟩
theorem Rel.iK (R:Rel K n δ σ G H) {h0:Option Nat} {C:Nat} {l:List (Key × D)} (e:δ[i]? = some (.ob h0 C fs)) (hl:fs.lookup f = some (.dc l)):∃ (q:Addr) (vs:List (Key × V)),H q = some (.dK vs)∧G q = none∧∀ ob:Obj,
  Rel K (JW n q (.iK ob (.dK vs))) (δ.set i (.ob h0 C (eE f (.fz q l) fs))) σ (upd G q (.iK ob (.dK vs))) (upd H q (.iK ob (.dK vs))) ∧
  ∀ (δ':Ev) (σ':L2.St) (G' H':Hp) (h1:Option Nat) (fs':List (Str × Fl)) (l':List (Key × D)),Rel K (JW n q (.iK ob (.dK vs))) δ' σ' G' H'→δ'[i]? = some (.ob h1 C fs')→fs'.lookup f = some (.fz q l')→Hb (δ'.set i (.ob h1 C (eE f (.dc l') fs'))) = true →
   H' q = some (.iK ob (.dK vs))∧G' q = some (.iK ob (.dK vs))∧Rel K n (δ'.set i (.ob h1 C (eE f (.dc l') fs'))) σ' (del G' q) (upd H' q (.dK vs)):=by
 obtain ⟨ow,ok,gh⟩:=R.gh
 obtain ⟨a,dx,bo,g1,g2,g3,g4,g5,g6,g7⟩:=gh i _ e
 obtain ⟨w,k1,q,vs,rfl,k2,k3,k4⟩:=g7.at_ f _ hl
 obtain ⟨c1,c2,c3⟩:=ok.is _ _ k3
 refine ⟨q,vs,k2,c1,fun ob=>⟨?_,?_⟩⟩
 ·have s1:av G (upd G q (.iK ob (.dK vs))):=aC c1 _
  have nq:∀ (r:Addr) (j:Nat) (g:Str),ow r = some (j,g)→(j = i→g ≠ f)→r ≠ q:=fun r j g w no z=>by subst z; rw [k3] at w; cases w; exact no rfl rfl
  refine ⟨fun b u eb=>?_,fun b u eb=>?_,fun b u eb m=>?_,fun b eb=>?_,fun b u eb e0=>?_,⟨ic ow q none,⟨fun b k hk=>?_⟩,fun j s hj=>?_⟩,by rw [List.length_set]; exact R.len⟩
  ·by_cases hb:b = q
   ·subst hb; rw [aq] at eb ⊢; exact eb
   ·rw [aj hb] at eb ⊢; exact R.sub b u eb
  ·have eb:upd n.G q _ b = some u:=eb
   by_cases hb:b = q
   ·subst hb; rw [aq] at eb ⊢; exact eb
   ·rw [aj hb] at eb ⊢; exact R.eg b u eb
  ·have eb:upd n.H q _ b = some u:=eb
   by_cases hb:b = q
   ·subst hb; rw [aq] at eb ⊢; exact eb
   ·rw [aj hb] at eb ⊢; exact R.eh b u eb fun z=>m ⟨z,hb⟩
  ·by_cases hb:b = q
   ·subst hb; rw [aq] at eb; cases eb
   ·rw [aj hb] at eb; show upd n.H q _ b = none; rw [aj hb]; exact R.al b eb
  ·by_cases hb:b = q
   ·subst hb; rw [show (JW n b _).G b = _ from aq] at e0; cases e0
   ·rw [aj hb] at eb
    have e0':n.G b = none:=by have:upd n.G q _ b = none:=e0; rw [aj hb] at this; exact this
    show upd n.H q _ b = none
    rw [aj hb]; exact R.fr b u eb e0'
  ·by_cases hb:b = q
   ·subst hb; rw [du] at hk; cases hk
   ·rw [aS hb] at hk
    obtain ⟨o1,o2,o3⟩:=ok.is b k hk
    refine ⟨by rw [aj hb]; exact o1,by rw [aj hb]; exact o2,?_⟩
    rcases o3 with o3 | o3
    ·exact .inl (by show upd n.H q _ b = none; rw [aj hb]; exact o3)
    ·exact .inr ⟨o3,hb⟩
  ·rcases fD hj with ⟨ej,rfl,hlj⟩ | ⟨ej,hj⟩
   ·subst ej
    have na:a ≠ q:=fun z=>by subst z; rw [g3] at k2; cases k2
    have nd:dx ≠ q:=fun z=>by subst z; rw [g4] at k2; cases k2
    refine ⟨a,dx,bo,g1,g2,by rw [aj na]; exact g3,by rw [aj nd]; exact g4,by rw [aS na]; exact g5,by rw [aS nd]; exact g6,⟨?_,fun g s' eg=>?_⟩⟩
    ·rw [iR,Dl.pH,g7.keys]
     obtain ⟨g',hg'⟩:=pI hl
     cases hm:fs.find? (fun p=>f == p.1) with
     | none =>
      have:=List.find?_eq_none.mp hm
      have:fs.lookup f = none:=List.lookup_eq_none_iff.mpr fun p hp=>by simpa using this p hp
      rw [hl] at this; cases this
     | some p =>
      have h1:=List.mem_of_find?_eq_some hm
      have h2:=List.find?_some hm
      exact List.mem_map.mpr ⟨p,h1,(beq_iff_eq.mp h2).symm⟩
    ·rw [fF] at eg
     by_cases z:g = f
     ·rw [if_pos z] at eg
      cases eg
      subst z
      exact ⟨.ref q,k1,ob,vs,rfl,aq,k4.up s1⟩
     ·rw [if_neg z] at eg
      obtain ⟨v,h1,h2⟩:=g7.at_ g s' eg
      refine ⟨v,h1,?_⟩
      cases s' with
      | sh d=>exact Den.up s1 h2
      | ow m =>
       obtain ⟨r,ws,y1,y2,y3,y4⟩:=h2
       have:=nq r _ _ y3 fun _=>z
       exact ⟨r,ws,y1,by rw [aj this]; exact y2,by rw [aS this]; exact y3,y4.up s1⟩
      | dc m =>
       obtain ⟨r,ws,y1,y2,y3,y4⟩:=h2
       have:=nq r _ _ y3 fun _=>z
       exact ⟨r,ws,y1,by rw [aj this]; exact y2,by rw [aS this]; exact y3,y4.up s1⟩
      | fz q' m=>obtain ⟨ob',ws,y1,y2,y3⟩:=h2; exact ⟨ob',ws,y1,s1 _ _ y2,y3.up s1⟩
   ·have hk:=(gh j s hj).keep (ow':=ic ow q none) (H':=upd H q (.iK ob (.dK vs))) (i':=j) s1 (fun b g z=>by rw [aS (nq b j g z fun w=>absurd w.symm ej)]; exact z) fun b g u z w=>by rw [aj (nq b j g z fun w=>absurd w.symm ej)]; exact w
    cases s with
    | ow m =>
     obtain ⟨p,ws,y1,y2,y3,y4,y5⟩:=hk
     have hp:p ≠ q:=fun z=>by subst z; rw [du] at y4; cases y4
     exact ⟨p,ws,y1,y2,by show upd n.H q _ p = none; rw [aj hp]; exact y3,y4,y5⟩
    | _=>exact hk
 ·intro δ' σ' G' H' h1 fs' l' R' e' hl' nf
  have MS:G' q = some (.iK ob (.dK vs)):=R'.eg _ _ (show upd n.G q _ q = _ from aq)
  have hHq:H' q = some (.iK ob (.dK vs)):=R'.sub _ _ MS
  obtain ⟨ow',ok',gh'⟩:=R'.gh
  have no:ow' q = none:=by
   cases z:ow' q with
   | none=>rfl
   | some k=>have:=(ok'.is _ _ z).1; rw [MS] at this; cases this
  have hn:∀ p,p ≠ q→(JW n q (.iK ob (.dK vs))).H p = none→n.H p = none:=fun p hp z=>by
   have z':upd n.H q _ p = none:=z
   rw [aj hp] at z'; exact z'
  refine ⟨hHq,MS,⟨fun b u eb=>?_,fun b u eb=>?_,fun b u eb m=>?_,fun b eb=>?_,fun b u eb e0=>?_,⟨ic ow' q (some (i,f)),⟨fun b k hk=>?_⟩,fun j s hj=>?_⟩,by rw [List.length_set]; exact R'.len⟩⟩
  ·have hb:b ≠ q:=fun z=>by subst z; rw [bL] at eb; cases eb
   rw [bB hb] at eb
   rw [aj hb]; exact R'.sub b u eb
  ·have hb:b ≠ q:=fun z=>by subst z; rw [R.eg b u eb] at c1; cases c1
   rw [bB hb]
   exact R'.eg b u (by show upd n.G q _ b = _; rw [aj hb]; exact eb)
  ·have hb:b ≠ q:=fun z=>by
    subst z
    rcases c3 with c3 | c3
    ·rw [c3] at eb; cases eb
    ·exact m c3
   rw [aj hb]
   exact R'.eh b u (by show upd n.H q _ b = _; rw [aj hb]; exact eb) fun z=>m z.1
  ·by_cases hb:b = q
   ·subst hb; rw [aq] at eb; cases eb
   ·rw [aj hb] at eb; exact hn b hb (R'.al b eb)
  ·have hb:b ≠ q:=fun z=>by subst z; rw [bL] at eb; cases eb
   rw [bB hb] at eb
   exact hn b hb (R'.fr b u eb (by show upd n.G q _ b = none; rw [aj hb]; exact e0))
  ·by_cases hb:b = q
   ·subst hb
    exact ⟨bL,(by rw [aq]; exact fun z=>(by cases z)),c3⟩
   ·rw [aS hb] at hk
    obtain ⟨o1,o2,o3⟩:=ok'.is b k hk
    refine ⟨by rw [bB hb]; exact o1,by rw [aj hb]; exact o2,?_⟩
    rcases o3 with o3 | o3
    ·exact .inl (hn b hb o3)
    ·exact .inr o3.1
  ·have Zy:Lb s = true:=(List.all_eq_true.mp nf) s (List.mem_of_getElem? hj)
   rcases fD hj with ⟨ej,rfl,hlj⟩ | ⟨ej,hj⟩
   ·subst ej
    obtain ⟨a,dx,bo,y1,y2,y3,y4,y5,y6,y7⟩:=gh' i _ e'
    have nq:∀ r k,ow' r = some k→r ≠ q:=fun r k w z=>by subst z; rw [no] at w; cases w
    refine ⟨a,dx,bo,y1,y2,by rw [aj (nq _ _ y5)]; exact y3,by rw [aj (nq _ _ y6)]; exact y4,by rw [aS (nq _ _ y5)]; exact y5,by rw [aS (nq _ _ y6)]; exact y6,⟨?_,fun g s' eg=>?_⟩⟩
    ·rw [iR,Dl.pH,y7.keys]
     cases hm:fs'.find? (fun p=>f == p.1) with
     | none =>
      have:=List.find?_eq_none.mp hm
      have:fs'.lookup f = none:=List.lookup_eq_none_iff.mpr fun p hp=>by simpa using this p hp
      rw [hl'] at this; cases this
     | some p =>
      have h1:=List.mem_of_find?_eq_some hm
      have h2:=List.find?_some hm
      exact List.mem_map.mpr ⟨p,h1,(beq_iff_eq.mp h2).symm⟩
    ·have nfg:N4 s' = true:=by
      obtain ⟨g',hg'⟩:=pI eg
      exact (List.all_eq_true.mp Zy) _ hg'
     rw [fF] at eg
     by_cases z:g = f
     ·rw [if_pos z] at eg
      cases eg
      subst z
      obtain ⟨w,z1,ob',ws,rfl,z2,z3⟩:=y7.at_ g _ hl'
      rw [MS] at z2; cases z2
      exact ⟨.ref q,z1,q,vs,rfl,aq,du,z3.del MS⟩
     ·rw [if_neg z] at eg
      obtain ⟨v,h1,h2⟩:=y7.at_ g s' eg
      exact ⟨v,h1,h2.vm MS no nfg⟩
   ·exact (gh' j s hj).vm hn MS no Zy
end
noncomputable def Hc (C i:Nat) (f:Str) (δ:Ev):Option (Nat × List (Key × D)):=match δ[i]? with
 | some (.ob _ C' fs)=>if C' = C then (match fs.lookup f with
  | some (.fz q l)=>some (q,l)
  | _=>none) else none
 | _=>none
theorem zv {C i q:Nat} {f:Str} {δ:Ev} {l:List (Key × D)} (h:Hc C i f δ = some (q,l)):∃ h0 fs,δ[i]? = some (.ob h0 C fs)∧fs.lookup f = some (.fz q l):=by
 unfold Hc at h
 split at h
 ·rename_i h0 C' fs e
  split at h
  ·rename_i ec
   subst ec
   split at h
   ·rename_i q' d' e2; cases h; exact ⟨h0,fs,e,e2⟩
   ·cases h
  ·cases h
 ·cases h
noncomputable def N5 (C i:Nat) (f:Str) (t:bC):bC:=fun E δ=>match v9 C i f δ with
 | some l=>∀ q:Nat,t { nx:=fun δ'=>Hc C i f δ' = some (q,l)∧Hb (putAt i f (.dc l) δ') = true∧E.nx (putAt i f (.dc l) δ'),rt:=fun _ _=>False } (putAt i f (.fz q l) δ)
 | none=>False
theorem Hd {X:Cx} {st:Stmt} {t:bC} {C:Nat} {f:Str} (i:Nat) (h:DS X st t):DS X st (N5 C i f t) :=
 gc (MR h) fun F σ H hx=>hx.el fun n δ G E R h k=>by
  unfold N5 at h
  split at h
  ·rename_i l el
   obtain ⟨h0,fs,e1,e2⟩:=qu el
   obtain ⟨q,vs,g1,g2,g3⟩:=R.iK e1 e2
   refine ⟨q,vs,g1,fun ob=>?_⟩
   obtain ⟨R1,back⟩:=g3 ob
   have h1:=h q
   rw [md e1] at h1
   refine ⟨_,_,_,_,R1,h1,⟨fun δ' σ' G' H' R' ⟨z1,z2,z3⟩=>?_,fun _ _ _ _ _ _ _ _ z=>z,fun _ _ _ _ _ z=>z,fun _ _ _ _ _ z=>z⟩⟩
   obtain ⟨h1',fs',y1,y2⟩:=zv z1
   rw [md y1] at z2 z3
   obtain ⟨b1,b2,b3⟩:=back δ' σ' G' H' h1' fs' l R' y1 y2 z2
   exact ⟨b1,k.nx _ σ' _ _ b3 z3⟩
  ·exact h.elim
end Dl
namespace Dl
open PySem PySem.Spec PyProof.Rows L2
theorem oC {α β:Type} {R:α→β→Prop}:∀ {xs:List α} {ys:List β} {i:Nat} {x:α},Paired R xs ys→xs[i]? = some x→∃ y,ys[i]? = some y∧R x y
 | _,_,_,_,.nil,e=>by simp at e
 | _,_,0,_,.cons h _,e=>by simp at e; subst e; exact ⟨_,rfl,h⟩
 | _,_,i + 1,_,.cons _ t,e=>by
  obtain ⟨y,h1,h2⟩:=oC (i:=i) t (by simpa using e)
  exact ⟨y,by simpa using h1,h2⟩
theorem zw {P:Program} {w:World} {k:Key} {u:Value} (h:(bz P w).is k u = true):RelV (kV k) u:=by
 have h:tj k u = true:=h
 rcases bN h with ⟨i,t,rfl,rfl⟩ | ⟨x,t,rfl,rfl⟩
 ·exact ⟨t,rfl⟩
 ·exact ⟨t,rfl⟩
noncomputable def TM (q:Addr) (ob:Obj) (kvs:List (Key × V)):It :=
 ⟨fun i H=>H q = some (.iK ob (.dK kvs))∧i < kvs.length,
  fun i H v H'=>∃ p kv,v = .ref p∧H p = none∧H' = upd H p (.tup [kV kv.1,kv.2])∧kvs[i]? = some kv,
  fun i H=>H q = some (.iK ob (.dK kvs))∧kvs.length ≤ i⟩
theorem BI {P:Program} {w:World} {K:PySem.W.Frag} {elts:List Expr} {kk:Nat} {tp:Pos} {it q:Addr} {ob:Obj} {kvs:List (Key × V)} {vs:List (Key × Value)} {ep:Nat} (rel:KV kvs vs) (da:∀ h:Heap,h.get? q = some ob→h.DictAt (bz P w) q vs ep) :
  Turn P w K (.Tuple elts kk tp) (TM q ob kvs) [it] it (fun i h=>∃ ok ov,IsItemIter h it q i vs.length ep ok ov) where
 mem:=by simp
 obj:=fun i h ⟨ok,ov,h1⟩ c hc=>by
  have e:c = it:=by simpa using hc
  subst e
  exact ⟨_,h1,fun v z=>nomatch z⟩
 keep:=fun i h h' ⟨ok,ov,h1⟩ k=>⟨ok,ov,k it (by simp) _ h1⟩
 item:=by
  intro X hP hw hK hc i pins s σ H E I hf ⟨ok,ov,h1⟩ ⟨hq,hi⟩
  subst hP hw hK
  obtain ⟨kv,Pp⟩ : ∃ kv,kvs[i]? = some kv:=⟨_,List.getElem?_eq_getElem hi⟩
  obtain ⟨⟨k',u⟩,hu,ek,ru⟩:=oC rel Pp
  have ek:kv.1 = k':=ek
  subst ek
  refine wpAny_pyNext_items_item h1 (da _ (I.bE q _ hq).1) hu fun key g hk z1 z2 z3 kp=>?_
  refine ⟨_,rfl,wpAny_letOwnedTupleGo_items z1 fun g' z1' sb=>?_⟩
  have lte:it ≠ s.heap.objs.size:=Nat.ne_of_lt (Heap.lt_size h1)
  obtain ⟨I1,Pq⟩:=Inv.yields (fp:=[it]) (tk:=s.toks) (g:=g') (vs:=[kV kv.1,kv.2]) (us:=[key,u]) I hf
   (fun c hc'=>by
    have e:c = it:=by simpa using hc'
    subst e; exact ⟨_,h1⟩)
   (fun c o hc' e=>by
    have hc':c ≠ it:=by simpa using hc'
    exact sb.extBut _ _ hc' (kp c o hc' e))
   ⟨_,sb.extBut _ _ (Ne.symm lte) z2,rfl,_,rfl⟩ (.cons (zw hk) (.cons ru .nil)) (by show 2 ≤ sizeLine; decide)
  exact ⟨.ref s.heap.objs.size,_,I1,rfl,⟨_,kv,rfl,I.bE.fresh (Nat.le_refl _),rfl,Pp⟩,⟨_,_,z1'⟩,Pq⟩
 done:=by
  intro X hP hw hK hc i pins s σ H E I hf ⟨ok,ov,h1⟩ ⟨hq,hl⟩
  subst hP hw hK
  have hx:vs[i]? = none:=by rw [List.getElem?_eq_none_iff,← rel.length]; exact hl
  refine wpAny_pyNext_items_end (I.ok.hd hc) h1 (da _ (I.bE q _ hq).1) hx fun g kp=>⟨rfl,?_⟩
  exact Inv.turns (fp:=[it]) (tk:=s.toks) I hf fun c o hc' e=>kp c o (fun z=>hc' (by simp [z])) e
 self:=fun A i s Q E ⟨ok,ov,h1⟩ h=>PySem.W.kcp_self h1 h
section
variable {X:Cx} {elts:List Expr} {kk:Nat} {tp p pos:Pos} {o:Expr} {td:TE} {ap cp:Pos}
noncomputable def MT (td:TE):TI:=fun σ H R=>td σ H fun x H1=>∃ q ob kvs,x = .ref q∧H1 q = some (.iK ob (.dK kvs))∧R (TM q ob kvs) H1
theorem He (ho:PE X o td) (lU:attributeBase o "items" X.env (eval o X.env) = eval o X.env)
  (tL:((backTo cp (starEach [] X.env)).all (fun x=>!x.1) && (backToKw cp (keywordEach [] X.env)).all (fun x=>x.1.isSome)
   && decide (([]:List Expr).length + ([]:List Keyword).length + (if ([]:List Keyword).isEmpty then 0 else 1) < 30)) = true)
  (lV:(ap.endLine == cp.line) = true):PI X (.Tuple elts kk tp) (.Call (.Attribute o "items" ap) [] [] cp) (MT td):=by
 intro pins s σ H R I h
 refine wpAny_Call_method lU tL lV PySem.F.plainAttrs_dict PySem.F.slot_dict_items PySem.F.type_dict_items (cP (ho pins s σ H _ I h) fun u s1 ⟨x,H1,I1,rx,q,ob,kvs,ex,e,r⟩=>?_)
 subst ex
 obtain rfl : u = Value.ref q:=rx
 obtain ⟨t1,t2,hd⟩:=G6 I1 (.inl ⟨kvs,.inr ⟨ob,e⟩⟩)
 refine ⟨t1,t2,?_⟩
 obtain ⟨eh,z,y,vs,rel,ob',es,ep,eh',c⟩:=I1.bE q _ e
 have eo:ob' = ob:=by rw [eh] at eh'; exact (Option.some.inj eh').symm
 subst eo
 have da:∀ h:Heap,h.get? q = some ob'→h.DictAt (bz X.prog X.w) q vs ep:=fun h w=>⟨ob',es,w,c⟩
 refine Calls.callWith_builtin rfl (PySem.evalArgs_none ?_)
 refine call_meetsIn PySem.F.slot_dict_items t1 PySem.F.entry_dict_items (PySem.F.args_dict_items_1 _) (meets_dict_items (bz X.prog X.w) q hd) ⟨⟨vs,(da _ eh).dictOf⟩,?_⟩
 have up1:∀ b o,s1.heap.get? b = some o→(s1.heap.push { cls:=.type "dict_items",data:=.fields #[.ref q] }).get? b = some o:=fun b o w=>Heap.get?_push_of_some _ w
 refine wpAny_pyIter_items (knd:=bz X.prog X.w) (d:=q) (kvs:=vs) (ep:=ep) ⟨_,Heap.get?_push_size _ rfl,rfl,rfl⟩ (da _ (up1 _ _ eh)) ?_
 have ls:s1.heap.objs.size ≤ (s1.heap.push { cls:=.type "dict_items",data:=.fields #[.ref q] }).objs.size:=by rw [Heap.size_push]; exact Nat.le_succ _
 have h0:H1 (s1.heap.push { cls:=.type "dict_items",data:=.fields #[.ref q] }).objs.size = none:=I1.bE.fresh ls
 refine ⟨_,[_],_,_,H1,rfl,I1.kept (t':=s1.toks) fun b o w=>Heap.get?_push_of_some _ (up1 b o w),BI rel da,⟨_,_,Heap.get?_push_size _ rfl⟩,fun b hb=>?_,r⟩
 have e:b = (s1.heap.push { cls:=.type "dict_items",data:=.fields #[.ref q] }).objs.size:=by simpa using hb
 subst e
 exact I1.Fm ls h0
end
noncomputable def fG (l:List (Key × D)):List D:=l.map fun kv=>.tup [dK kv.1,kv.2]
noncomputable def nu (C i:Nat) (f:Str):oW:=fun δ Q=>match Hc C i f δ with
 | some (_,l)=>Q (fG l) δ
 | none=>False
theorem Eu {K:PySem.W.Frag} {G:Hp} {q:Addr} {ob:Obj} {vs:List (Key × V)} {l:List (Key × D)} (h:G q = some (.iK ob (.dK vs))) (hl:eV K G vs l):Jl K G (TM q ob vs) (fG l):=by
 have len:=hl.length
 have el:(fG l).length = l.length:=by simp [fG]
 refine ⟨fun i G1 H1 s1 s2 hi=>⟨s2 _ _ (s1 _ _ h),by omega⟩,fun i G1 H1 x H2 s1 s2 hi y=>?_,fun i G1 H1 s1 s2 hi=>⟨s2 _ _ (s1 _ _ h),by omega⟩⟩
 obtain ⟨p,kv,rfl,hp,rfl,hx⟩:=y
 obtain ⟨d,hd,dv⟩:=hl.get hx
 have sg:av G1 (upd G1 p (.tup [kV kv.1,kv.2])):=aC (s2.free hp) _
 exact ⟨_,.tup [dK kv.1,d],Ext.laid s2 hp _,by simp [fG,hd],.tup (kT.of aq) (.cons MQ (.cons (dv.up (s1.trans sg)) .nil))⟩
theorem ud {X:Cx} {C:Addr} {f:Str} {elts:List Expr} {kk:Nat} {tp ap cp fp:Pos} (i:Nat) {x:Str} {np:Pos} (c:wU X.K C) (na:eU X.K C f) (hN:X.N[i]? = some x:=by rfl) (hv:rQ X.env.scope x:=by first | exact Or.inl rfl | exact Or.inr (Or.inl rfl) | exact Or.inr (Or.inr rfl))
  (hd:(x == ("__debug__":Str)) = false:=by decide) (om:(x == ("__classdict__":Str)) = false:=by decide) (hb:attributeBase (.Name x np) f X.env (eval (.Name x np) X.env) = eval (.Name x np) X.env:=by rfl)
  (lU:attributeBase (.Attribute (.Name x np) f fp) "items" X.env (eval (.Attribute (.Name x np) f fp) X.env) = eval (.Attribute (.Name x np) f fp) X.env:=by rfl)
  (tL:((backTo cp (starEach [] X.env)).all (fun x=>!x.1) && (backToKw cp (keywordEach [] X.env)).all (fun x=>x.1.isSome)
   && decide (([]:List Expr).length + ([]:List Keyword).length + (if ([]:List Keyword).isEmpty then 0 else 1) < 30)) = true:=by rfl)
  (lV:(ap.endLine == cp.line) = true:=by rfl):DI X (.Tuple elts kk tp) (.Call (.Attribute (.Attribute (.Name x np) f fp) "items" ap) [] [] cp) (nu C i f) :=
 tU (He (wV (iM hN hv hd om) hb) lU tL lV) fun σ H R2 hx=>hx.el fun n δ G Q R h k=>by
  unfold nu at h
  split at h
  ·rename_i q l el
   obtain ⟨h0,fs,e1,e2⟩:=zv el
   obtain ⟨ow,ok,gh⟩:=R.gh
   obtain ⟨a,dx,bo,g1,g2,g3,g4,g5,g6,g7⟩:=gh i _ e1
   obtain ⟨w,k1,ob,vs,rfl,k2,k3⟩:=g7.at_ f _ e2
   exact ⟨.ref a,g1,a,C,dx,bo,.ref q,rfl,g3,c,na,k1,q,ob,vs,rfl,R.sub _ _ k2,k _ G H _ δ R (av.refl _) (Eu k2 k3) h⟩
  ·exact h.elim
end Dl
namespace Dl
open PySem PySem.Spec PyProof.Rows L2
noncomputable def ki:Key→Key→Bool
 | .inl i,.inl j=>decide (i < j)
 | .inr x,.inr y=>decide (x.cps.toList < y.cps.toList)
 | _,_=>false
noncomputable def klt:List Key→List Key→Bool
 | a :: r,b :: s=>if a = b then klt r s else ki a b
 | _,_=>false
noncomputable def TN:Key→Bool
 | .inl _=>false
 | .inr _=>true
noncomputable def u5 (l:List Key):List Bool:=l.map TN
noncomputable def tD (ks:List Key):D:=.tup (ks.map dK)
theorem Hf (a:Key):ki a a = false:=by
 cases a with
 | inl i=>simp [ki]
 | inr x=>simp only [ki,decide_eq_false_iff_not]; exact List.lt_irrefl _
theorem zA {a b:Key} (h:ki a b = true):ki b a = false:=by
 cases a <;> cases b <;> simp [ki] at h ⊢
 ·omega
 ·exact List.le_of_lt h
theorem xE {a b:Key} (hk:TN a = TN b) (h1:ki a b = false) (h2:ki b a = false):a = b:=by
 cases a with
 | inl i=>cases b with
  | inl j=>simp [ki] at h1 h2; exact congrArg _ (by omega)
  | inr y=>cases hk
 | inr x=>cases b with
  | inl j=>cases hk
  | inr y =>
   simp only [ki,decide_eq_false_iff_not] at h1 h2
   have e:x.cps.toList = y.cps.toList:=List.le_antisymm h2 h1
   have:x = y:=by cases x; cases y; simp at e; simp [e]
   rw [this]
theorem JZ {a b c:Key} (h1:ki a b = true) (h2:ki b c = true):ki a c = true:=by
 cases a <;> cases b <;> cases c <;> simp [ki] at h1 h2 ⊢
 ·omega
 ·exact List.lt_trans h1 h2
theorem C1:∀ l,klt l l = false
 | []=>rfl
 | a :: r=>by simp [klt,C1 r]
theorem C2:∀ a b,klt a b = true→klt b a = false
 | [],_,h=>by cases h
 | _ :: _,[],h=>by cases h
 | x :: r,y :: s,h=>by
  unfold klt at h ⊢
  by_cases e:x = y
  ·subst e; simp only [if_true] at h ⊢; exact C2 r s h
  ·rw [if_neg e] at h; rw [if_neg (Ne.symm e)]; exact zA h
theorem Hg:∀ a b c,u5 a = u5 b→u5 b = u5 c→klt b a = false→klt c b = false→klt c a = false
 | [],[],[],_,_,_,_=>rfl
 | [],_ :: _,_,h,_,_,_=>by cases h
 | _ :: _,[],_,h,_,_,_=>by cases h
 | _,[],_ :: _,_,h,_,_=>by cases h
 | _,_ :: _,[],_,h,_,_=>by cases h
 | x :: r,y :: s,z :: t,h1,h2,h3,h4=>by
  simp only [u5,List.map_cons,List.cons.injEq] at h1 h2
  unfold klt at h3 h4 ⊢
  by_cases e1:y = x
  ·subst e1
   rw [if_pos rfl] at h3
   by_cases e2:z = y
   ·subst e2
    rw [if_pos rfl] at h4 ⊢
    exact Hg r s t h1.2 h2.2 h3 h4
   ·rw [if_neg e2] at h4 ⊢; exact h4
  ·rw [if_neg e1] at h3
   by_cases e2:z = y
   ·subst e2
    rw [if_neg e1]; exact h3
   ·rw [if_neg e2] at h4
    have g3:ki x y = true:=by
     cases q:ki x y with
     | true=>rfl
     | false=>exact absurd (xE h1.1.symm h3 q) e1
    have g4:ki y z = true:=by
     cases q:ki y z with
     | true=>rfl
     | false=>exact absurd (xE h2.1.symm h4 q) e2
    have g5:=JZ g3 g4
    have ne:z ≠ x:=fun w=>by subst w; rw [Hf] at g5; cases g5
    rw [if_neg ne]; exact zA g5
theorem Hh:∀ a b,u5 a = u5 b→klt a b = false→klt b a = false→a = b
 | [],[],_,_,_=>rfl
 | [],_ :: _,h,_,_=>by cases h
 | _ :: _,[],h,_,_=>by cases h
 | x :: r,y :: s,h,h1,h2=>by
  simp only [u5,List.map_cons,List.cons.injEq] at h
  unfold klt at h1 h2
  by_cases e:x = y
  ·subst e
   rw [if_pos rfl] at h1 h2
   rw [Hh r s h.2 h1 h2]
  ·rw [if_neg e] at h1; rw [if_neg (Ne.symm e)] at h2
   exact absurd (xE h.1 h1 h2) e
end Dl
namespace Dl
open PySem PySem.W PyProof.Rows
structure Pr (lt:Nat→Nat→Bool):Prop where
 irr:∀ a,lt a a = false
 asy:∀ a b,lt a b = true→lt b a = false
 tr:∀ a b c,lt b a = false→lt c b = false→lt c a = false
section
variable {lt:Nat→Nat→Bool}
structure AL (n:Nat) (p:Array Nat):Prop where
 pos:0 < n
 all:∀ x ∈ p,x < n
end
end Dl
namespace Dl
open PySem PySem.Spec PyProof.Rows L2 PySem.W
theorem Ew {P:Program} {w:World} {H:Hp} {h:Heap} {a:Addr} {o:HO} (x:cG P w H h a o):∃ ob,h.get? a = some ob:=by
 cases o with
 | lst xs=>have ⟨_,_,_,_,e⟩:=x; exact ⟨_,e⟩
 | tup xs=>have ⟨_,_,_,_,e,_⟩:=x; exact ⟨_,e⟩
 | dK kvs=>have ⟨_,_,_,_,_,_,_,e,_⟩:=x; exact ⟨_,e⟩
 | dT kvs=>have ⟨_,_,_,_,_,_,_,e,_⟩:=x; exact ⟨_,e⟩
 | set S n=>have ⟨_,_,_,_,e,_⟩:=x; exact ⟨_,e⟩
 | ins C dx fs=>have ⟨_,_,_,e,_⟩:=x; exact ⟨_,e⟩
 | own y=>exact x
 | xd fs=>have ⟨_,⟨_,_,_,e,_⟩,_⟩:=x; exact ⟨_,e⟩
 | Q4 lo hi=>have ⟨_,_,_,e⟩:=x; exact ⟨_,e⟩
 | iK ob u=>exact ⟨_,x.1⟩
 | KJ ps=>exact ⟨_,x⟩
 | met f y=>exact ⟨_,x⟩
 | ext φ=>exact x.2.1
end Dl
namespace Dl
open PySem PySem.Spec PyProof.Rows L2 PySem.W
section
variable {prog:Program} {w:World} {A:Around} {E:Value→Shared→Prop} {s:Shared}
theorem Hi {a:Addr} {v:Value} {n:Nat} {P:PySem.Fin→Shared→Prop} (ho:s.heap.get? a = some (seqObj "list" [v].toArray n))
  (h:P (.done (.ret .none)) { s with heap:=sortedHeap s.heap a [v] #[v] }):wpAny (model prog w) A (Builtin.«list.sort» ⟨[.ref a],[]⟩) P E s:=by
 rw [list_sort_plain]
 have ha:a < s.heap.objs.size:=Heap.lt_size ho
 refine wpAny_bind (listItems_at ho rfl ?_)
 refine wpAny_bind (listUpdate_at ho rfl ?_)
 obtain ⟨e1,Zz⟩ : ∃ e1,(s.heap.update a (Obj.mapSeq fun _=>#[])).get? a = some (seqObj "list" #[] e1):=⟨_,get?_update_seq ho (fun _=>#[])⟩
 refine wpAny_bind (seqEpoch_at Zz rfl ?_)
 refine wpAny_bind (wpAny_newTuple ?_)
 refine wpAny_bind (wpAny_newList ?_)
 refine wpAny_holding ?_
 have ZA:(((s.heap.update a (Obj.mapSeq fun _=>#[])).push (seqObj "tuple" [v].toArray 0)).push (seqObj "list" #[] 0)).get? a = some (seqObj "list" #[] e1):=by
  rw [Heap.get?_push_ne _ _ _ (by rw [size_push',Heap.size_update]; exact Nat.ne_of_lt (Nat.lt_succ_of_lt ha)),Heap.get?_push_ne _ _ _ (by rw [Heap.size_update]; exact Nat.ne_of_lt ha)]
  exact Zz
 show wpAny (model prog w) A _ P E { s with heap:=((s.heap.update a (Obj.mapSeq fun _=>#[])).push (seqObj "tuple" [v].toArray 0)).push (seqObj "list" #[] 0) }
 dsimp only
 have h2:[v].toArray.size < 2:=by simp
 have ez:Array.map (fun x=>x.snd) (arrOf (SortSt.mk' general' ([v].toArray.zip [v].toArray) #[] 7 none)) = #[v]:=by
  show Array.map (fun x=>x.snd) ([v].toArray.zip [v].toArray) = #[v]
  simp
 rw [if_pos h2,if_pos h2]
 refine wpAny_bind (wpAny_pure ?_)
 rw [StateT.run_pure]
 refine wpAny_bind (wpAny_pure ?_)
 dsimp only
 refine wpAny_bind (seqEpoch_at ZA rfl ?_)
 rw [ez]
 refine wpAny_bind (listUpdate_at ZA rfl ?_ (hsz2:=by show 1 ≤ sizeLine + 1; rw [sizeLine_eq]; omega))
 simp only [bne_self_eq_false,Bool.false_eq_true,if_false]
 exact wpAny_pure h
theorem BJ {l:Addr} {v:Value} {Q:Value→Shared→Prop} (hl:s.heap.IsList l [v].toArray) (h:Q (.ref (s.heap.objs.size + 1)) { s with heap:=sortedAll s.heap [v] #[v] }):wpAny (model prog w) A (call (.builtin "sorted") [.ref l]) Q E s:=by
 refine Calls.call_function_entry kind_sorted plain_sorted entry_sorted (args_sorted1 _) ?_
 unfold Builtin.«sorted»
 refine wpAny_bind (m:=checkCount "sorted" 1 1 _) (wpAny_pure ?_)
 refine wpAny_bind (PyProof.Rows.collect_list hl ?_ (by show 1 ≤ sizeLine; decide))
 refine wpAny_bind (wpAny_newList ?_)
 have hsz:((s.heap.push (seqObj "list" #[] 0)).update s.heap.objs.size (Obj.mapSeq (· ++ [v].toArray))).objs.size = s.heap.objs.size + 1:=by
  rw [Heap.size_update,size_push']
 have E3:(((s.heap.push (seqObj "list" #[] 0)).update s.heap.objs.size (Obj.mapSeq (· ++ [v].toArray))).push (seqObj "list" [v].toArray 0)).get? (s.heap.objs.size + 1) = some (seqObj "list" [v].toArray 0):=by
  rw [← hsz]; exact Heap.get?_push_size _ rfl
 show wpAny _ _ _ _ _ { s with heap:=((s.heap.push (seqObj "list" #[] 0)).update s.heap.objs.size (Obj.mapSeq (· ++ [v].toArray))).push (seqObj "list" [v].toArray 0) }
 rw [hsz]
 refine wpAny_bind (wpAny_holding (wpAny_call_entry slot_list_sort ⟨_,E3,rfl⟩ entry_list_sort (Hi E3 ⟨_,rfl,?_⟩) (args_list_sort _)))
 exact wpAny_pure ⟨_,rfl,h⟩
theorem ue {b:Bool} {Q:Bool→Shared→Prop}:∀ (ps qs:List Key) (xs ys:List Value) (i:Nat),Vals (ps.map kV) xs→Vals (qs.map kV) ys→u5 ps = u5 qs→Q (klt ps qs) s→KatLex prog w A b false Q (xs.zip ys) i s
 | [],[],_,_,_,.nil,.nil,_,h=>kat_nil h
 | [],_ :: _,_,_,_,_,_,e,_=>by cases e
 | _ :: _,[],_,_,_,_,_,e,_=>by cases e
 | p :: r,q :: t,x :: xs,y :: ys,i,.cons rx vx,.cons ry vy,e,h=>by
  simp only [u5,List.map_cons,List.cons.injEq] at e
  cases p with
  | inl m=>cases q with
   | inl n =>
    obtain ⟨t1,rfl⟩:=(show ∃ t,x = Value.int m t from rx)
    obtain ⟨t2,rfl⟩:=(show ∃ t,y = Value.int n t from ry)
    refine kat_cons (wpAny_eqBool_int (kat_go (fun ee=>kat_yes ?_) (fun ee=>kat_no ?_)))
    ·have ee:m = n:=eq_of_beq ee
     subst ee
     refine ue r t xs ys (i + 1) vx vy e.2 ?_
     unfold klt at h; rw [if_pos rfl] at h; exact h
    ·have ne:m ≠ n:=fun z=>by subst z; simp at ee
     have z:klt (.inl m :: r) (.inl n :: t) = decide (m < n):=by unfold klt; rw [if_neg (fun z=>ne (by injection z))]; rfl
     rw [z] at h
     cases (b && i == 0) with
     | true=>exact oneLt_int h
     | false=>exact kat_one _ _ (PyProof.Rows.lt_int h)
   | inr y=>cases e.1
  | inr m=>cases q with
   | inl n=>cases e.1
   | inr n =>
    obtain ⟨t1,rfl⟩:=(show ∃ t,x = Value.str m t from rx)
    obtain ⟨t2,rfl⟩:=(show ∃ t,y = Value.str n t from ry)
    refine kat_cons (wpAny_eqBool_str (kat_go (fun ee=>kat_yes ?_) (fun ee=>kat_no ?_)))
    ·have ee:m = n:=of_decide_eq_true ee
     subst ee
     refine ue r t xs ys (i + 1) vx vy e.2 ?_
     unfold klt at h; rw [if_pos rfl] at h; exact h
    ·have ne:m ≠ n:=of_decide_eq_false ee
     have z:klt (.inr m :: r) (.inr n :: t) = decide (m.cps.toList < n.cps.toList):=by unfold klt; rw [if_neg (fun z=>ne (by injection z))]; rfl
     rw [z] at h
     cases (b && i == 0) with
     | true=>exact oneLt_str h
     | false=>exact kat_one _ _ (PyProof.Rows.lt_str h)
end
section
variable {X:Cx} {e:Expr} {es:List Expr} {t:lK} {p pos:Pos}
theorem rn {h:Heap} {T:Bool}:∀ {its:List Value},(∀ v ∈ its,∃ a o xs n f,v = .ref a∧h.get? a = some o∧o.cls = .type "tuple"∧o.data = .seq xs n∧xs[0]? = some f∧(if T then ∃ i t,f = .str i t else ∃ i t,f = .int i t)) →
  ∃ fs:List Value,KatTups h its fs∧fs.length = its.length∧∀ v ∈ fs,if T then ∃ i t,v = .str i t else ∃ i t,v = .int i t
 | [],_=>⟨[],trivial,rfl,fun _ z=>nomatch z⟩
 | v :: r,hh=>by
  obtain ⟨fs,a,b,c⟩:=rn (T:=T) (its:=r) fun v hv=>hh v (List.mem_cons_of_mem _ hv)
  obtain ⟨x,o,xs,n,f,e1,e2,e3,e4,e5,e6⟩:=hh v (List.mem_cons_self ..)
  refine ⟨f :: fs,⟨⟨x,o,xs,n,e1,e2,e3,e4,e5⟩,a⟩,by simp [b],fun v hv=>?_⟩
  rcases List.mem_cons.mp hv with rfl | hv
  ·exact e6
  ·exact c v hv
noncomputable def BK (K:PySem.W.Frag):List V→Hp→VK→Prop:=fun xs H Q=>∃ (p:Addr) (v:V),xs = [.ref p]∧gG K H p [v]∧∀ l,H l = none→Q (.ref l) (upd H l (.lst [v]))
theorem BL:dq X (.builtin "sorted") (BK X.K):=by
 rintro pins s σ H xs us Q I r ⟨p,v,rfl,hq,q⟩
 obtain ⟨u,rfl,ru⟩:=r.one
 cases ru
 obtain ⟨its,rv,pl,hz⟩:=I.list hq
 obtain ⟨u,rfl,ru⟩:=rv.one
 refine BJ pl.isList ?_
 obtain ⟨n,he⟩:=sortedAll_at s.heap [u] #[u]
 exact ⟨.ref _,_,I.laid (a:=s.heap.objs.size + 1) (o:=.lst [v]) (t':=s.toks) (fun _ _=>sortedAll_old) (Nat.le_succ _) ⟨by show 1 ≤ sizeLine; decide,[u],n,.cons ru .nil,he⟩,rfl,q _ (I.bE.fresh (Nat.le_succ _))⟩
theorem wa {K:PySem.W.Frag} {G:Hp}:∀ {ws:List V} {ks:List Key},aH K G ws (ks.map dK)→ws = ks.map kV
 | [],[],.nil=>rfl
 | w :: r,k :: s,.cons h t=>by
  rw [List.map_cons,← wa t]
  cases k with
  | inl i=>rw [show w = .int i from h.int_inv]; rfl
  | inr x=>rw [show w = .str x from h.str_inv]; rfl
end
end Dl
namespace Dl
open PySem PySem.Spec PyProof.Rows L2
noncomputable def N6:Sl→Bool
 | .ob _ _ _=>true
 | .rc _ _=>true
 | .hb _ _ _=>true
 | _=>false
noncomputable def J0 (a:Nat):Sl→Sl
 | .sh d=>.sh d
 | .ob _ C fs=>.ob (some a) C fs
 | .rc _ fs=>.rc (some a) fs
 | .hb b C fs=>.hb b C fs
 | _=>.no
noncomputable def hC (as:Nat→Nat):Nat→Ev→Ev
 | _,[]=>[]
 | i,s :: r=>J0 (as i) s :: hC as (i + 1) r
theorem uf (as:Nat→Nat):∀ (δ:Ev) (i k:Nat),(hC as i δ)[k]? = (δ[k]?).map (J0 (as (i + k)))
 | [],i,k=>by simp [hC]
 | a :: r,i,0=>by simp [hC]
 | a :: r,i,k + 1=>by simp only [hC,List.getElem?_cons_succ]; rw [uf as r (i + 1) k]; congr 2; congr 1; omega
theorem pJ (as:Nat→Nat):∀ (δ:Ev) (i:Nat),(hC as i δ).length = δ.length
 | [],i=>rfl
 | a :: r,i=>by simp [hC,pJ as r]
section
variable {K:PySem.W.Frag} {n:En} {δ:Ev} {σ:L2.St} {G H:Hp} {D₀:Addr} {o:HO}
theorem Rel.MU (R:Rel K n δ σ G (del H D₀)) (hD:H D₀ = some o) (k:Nat):∃ (as:Nat→Nat) (M:Addr→Prop),Rel K ⟨G,H,M⟩ (hC as 0 δ ++ List.replicate k .no) (σ ++ List.replicate k none) G H ∧
  ∀ (δ':Ev) (σ':L2.St) (G' H':Hp),Rel K ⟨G,H,M⟩ δ' σ' G' H'→δ'.take δ.length = hC as 0 δ→H' D₀ = some o∧G' D₀ = none∧av G G'∧Rel K n δ σ G' (del H' D₀):=by
 obtain ⟨ow,ok,gh⟩:=R.gh
 have gD:G D₀ = none:=R.sub.free bL
 have N7:∀ p k,ow p = some k→p ≠ D₀∧H p ≠ none:=fun p k hk=>by
  have h2:=(ok.is p k hk).2.1
  have ne:p ≠ D₀:=fun z=>by subst z; exact h2 bL
  rw [bB ne] at h2
  exact ⟨ne,h2⟩
 let io:Nat→Bool:=fun i=>match δ[i]? with
  | some s=>N6 s
  | none=>false
 let as:Nat→Nat:=fun i=>match σ[i]? with
  | some (some (.ref a))=>a
  | _=>0
 let M:Addr→Prop:=fun p=>∃ i f,ow p = some (i,f)∧io i = true
 have ZC:¬ M D₀:=fun ⟨i,f,h,_⟩=>(N7 _ _ h).1 rfl
 refine ⟨as,M,⟨fun b u e=>?_,av.refl _,fun b u e _=>e,fun b e=>e,fun b u e (e0:G b = none)=>(by rw [e0] at e; cases e),⟨fun p=>match ow p with
  | some (i,f)=>if io i = true then some (i,f) else none
  | none=>none,⟨fun p kk hk=>?_⟩,fun i s hs=>?_⟩,?_⟩,fun δ' σ' G' H' R' hk=>?_⟩
 ·have z:=R.sub b u e
  have ne:b ≠ D₀:=fun w=>by subst w; rw [gD] at e; cases e
  rw [bB ne] at z; exact z
 ·cases q:ow p with
  | none=>rw [q] at hk; cases hk
  | some jf =>
   obtain ⟨j,f⟩:=jf
   rw [q] at hk
   simp only at hk
   split at hk
   ·rename_i vn
    exact ⟨(ok.is p _ q).1,(N7 p _ q).2,.inr ⟨j,f,q,vn⟩⟩
   ·cases hk
 ·by_cases hi:i < δ.length
  ·rw [List.getElem?_append_left (by rw [pJ]; exact hi),uf,Nat.zero_add] at hs
   have hi':i < σ.length:=by rw [← R.len]; exact hi
   rw [List.getElem?_append_left hi']
   have qs:δ[i]? = some δ[i]:=List.getElem?_eq_getElem hi
   rw [qs] at hs
   have h0:=gh i _ qs
   generalize δ[i] = s0 at qs hs h0
   have keep:io i = true→(∀ p f,ow p = some (i,f)→(match ow p with | some (i,f)=>if io i = true then some (i,f) else none | none=>none) = some (i,f))∧∀ p f o,ow p = some (i,f)→(del H D₀) p = some o→H p = some o:=fun vn=>⟨fun p f z=>by simp only [z,vn,if_true],fun p f o z e=>by rw [bB (N7 p _ z).1] at e; exact e⟩
   cases s0 with
   | sh d=>cases hs; exact h0
   | ob h C fs =>
    cases hs
    have vn:io i = true:=by show (match δ[i]? with | some s=>N6 s | none=>false) = true; rw [qs]; rfl
    obtain ⟨k1,k2⟩:=keep vn
    obtain ⟨a,dx,bo,g1,g2,g3,g4,g5,g6,g7⟩:=h0
    refine ⟨a,dx,bo,g1,fun a0 z=>?_,k2 _ _ _ g5 g3,k2 _ _ _ g6 g4,k1 _ _ g5,k1 _ _ g6,g7.keep (av.refl _) k1 k2⟩
    cases z
    show a = (match σ[i]? with | some (some (.ref a))=>a | _=>0)
    rw [g1]
   | rc h fs =>
    cases hs
    have vn:io i = true:=by show (match δ[i]? with | some s=>N6 s | none=>false) = true; rw [qs]; rfl
    obtain ⟨k1,k2⟩:=keep vn
    obtain ⟨a,bo,g1,g2,g3,g5,g7⟩:=h0
    refine ⟨a,bo,g1,fun a0 z=>?_,k2 _ _ _ g5 g3,k1 _ _ g5,g7.keep (av.refl _) k1 k2⟩
    cases z
    show a = (match σ[i]? with | some (some (.ref a))=>a | _=>0)
    rw [g1]
   | hb b C fs =>
    cases hs
    have vn:io i = true:=by show (match δ[i]? with | some s=>N6 s | none=>false) = true; rw [qs]; rfl
    obtain ⟨k1,k2⟩:=keep vn
    obtain ⟨dx,bo,g3,g4,g5,g6,g7⟩:=h0
    exact ⟨dx,bo,k2 _ _ _ g5 g3,k2 _ _ _ g6 g4,k1 _ _ g5,k1 _ _ g6,g7.keep (av.refl _) k1 k2⟩
   | no=>cases hs; trivial
   | ow l=>cases hs; trivial
   | mu a l=>cases hs; trivial
   | pt a=>cases hs; trivial
  ·rw [List.getElem?_append_right (by rw [pJ]; omega),List.getElem?_replicate] at hs
   split at hs
   ·cases hs; trivial
   ·cases hs
 ·rw [List.length_append,List.length_append,List.length_replicate,List.length_replicate,pJ,R.len]
 ·have hD':H' D₀ = some o:=R'.eh D₀ o hD ZC
  have gD':G' D₀ = none:=by
   cases q:G' D₀ with
   | none=>rfl
   | some u=>have z:=R'.fr D₀ u q gD; have z':H D₀ = none:=z; rw [hD] at z'; cases z'
  have sG:av G G':=R'.eg
  refine ⟨hD',gD',sG,?_⟩
  obtain ⟨Hj,TQ,TR⟩:=R'.gh
  have Pt:∀ p kk,Hj p = some kk→p ≠ D₀:=fun p kk hp z=>by
   subst z
   rcases (TQ.is _ _ hp).2.2 with h | h
   ·have h':H p = none:=h; rw [hD] at h'; cases h'
   ·exact ZC h
  have TU:∀ p,H p = none→n.H p = none:=fun p hp=>R.al p (by
   by_cases z:p = D₀
   ·subst z; exact bL
   ·rw [bB z]; exact hp)
  have slot:∀ i s,δ[i]? = some s→δ'[i]? = some (J0 (as i) s):=fun i s hs=>by
   have hi:i < δ.length:=(List.getElem?_eq_some_iff.mp hs).1
   have z:(δ'.take δ.length)[i]? = (hC as 0 δ)[i]?:=by rw [hk]
   rw [uf,hs,Nat.zero_add,List.getElem?_take,if_pos hi] at z
   exact z
  let N8:Ow:=fun p=>match Hj p with
   | some (i,f)=>if io i = true then some (i,f) else none
   | none=>match ow p with
    | some (i,f)=>if io i = true then none else some (i,f)
    | none=>none
  have zB:∀ i,io i = true→∀ p f,Hj p = some (i,f)→N8 p = some (i,f):=fun i vn p f z=>by
   show (match Hj p with
   | some (i,f)=>if io i = true then some (i,f) else none
   | none=>match ow p with
    | some (i,f)=>if io i = true then none else some (i,f)
    | none=>none) = _
   simp only [z,vn,if_true]
  have MV:∀ i,io i = false→∀ p f,ow p = some (i,f)→N8 p = some (i,f)∧¬ M p:=fun i vn p f z=>by
   have nM:¬ M p:=fun ⟨i',f',h,h'⟩=>by rw [z] at h; cases h; rw [vn] at h'; cases h'
   have q:Hj p = none:=by
    cases q:Hj p with
    | none=>rfl
    | some kf =>
     rcases (TQ.is _ _ q).2.2 with h | h
     ·exact absurd h (N7 p _ z).2
     ·exact absurd h nM
   refine ⟨?_,nM⟩
   show (match Hj p with
   | some (i,f)=>if io i = true then some (i,f) else none
   | none=>match ow p with
    | some (i,f)=>if io i = true then none else some (i,f)
    | none=>none) = _
   simp only [q,z,vn,Bool.false_eq_true,if_false]
  have oj:∀ p u,H p = some u→¬ M p→H' p = some u:=fun p u e h=>R'.eh p u e h
  refine ⟨fun b u e=>?_,R.eg.trans sG,fun b u e m=>?_,fun b e=>?_,fun b u e e0=>?_,⟨N8,⟨fun p kk hp=>?_⟩,fun i s hs=>?_⟩,R.len⟩
  ·rw [bB (aR e gD')]; exact R'.sub b u e
  ·have z:=R.eh b u e m
   have ne:b ≠ D₀:=fun w=>by subst w; rw [bL] at z; cases z
   rw [bB ne] at z ⊢
   refine oj b u z fun ⟨i,f,h,_⟩=>?_
   rcases (ok.is b _ h).2.2 with w | w
   ·rw [w] at e; cases e
   ·exact m w
  ·by_cases z:b = D₀
   ·subst z; exact R.al _ bL
   ·rw [bB z] at e; exact TU b (R'.al b e)
  ·cases q:G b with
   | none=>exact TU b (R'.fr b u e q)
   | some w=>exact R.fr b w q e0
  ·cases q:Hj p with
   | some jf =>
    obtain ⟨j,f⟩:=jf
    obtain ⟨h1,h2,h3⟩:=TQ.is p _ q
    refine ⟨h1,by rw [bB (Pt p _ q)]; exact h2,?_⟩
    rcases h3 with h3 | ⟨i,f,h3,_⟩
    ·exact .inl (TU p h3)
    ·exact (ok.is p _ h3).2.2
   | none =>
    cases q2:ow p with
    | none =>
     have:N8 p = none:=by
      show (match Hj p with
      | some (i,f)=>if io i = true then some (i,f) else none
      | none=>match ow p with
       | some (i,f)=>if io i = true then none else some (i,f)
       | none=>none) = _
      simp only [q,q2]
     rw [this] at hp; cases hp
    | some jf =>
     obtain ⟨j,f⟩:=jf
     cases vn:io j with
     | true =>
      have:N8 p = none:=by
       show (match Hj p with
       | some (i,f)=>if io i = true then some (i,f) else none
       | none=>match ow p with
        | some (i,f)=>if io i = true then none else some (i,f)
        | none=>none) = _
       simp only [q,q2,vn,if_true]
      rw [this] at hp; cases hp
     | false =>
      obtain ⟨_,nM⟩:=MV j vn p f q2
      obtain ⟨h1,h2,h3⟩:=ok.is p _ q2
      obtain ⟨n1,n2⟩:=N7 p _ q2
      refine ⟨?_,?_,h3⟩
      ·cases q3:G' p with
       | none=>rfl
       | some u=>exact absurd (R'.fr p u q3 h1) n2
      ·rw [bB n1]
       cases q3:H p with
       | none=>exact absurd q3 n2
       | some u=>rw [oj p u q3 nM]; exact fun z=>by cases z
  ·have h0:=gh i s hs
   have h1:=slot i s hs
   have Lc:io i = false→(∀ p f,ow p = some (i,f)→N8 p = some (i,f))∧∀ p f u,ow p = some (i,f)→(del H D₀) p = some u→(del H' D₀) p = some u:=fun vn=>⟨fun p f z=>(MV i vn p f z).1,fun p f u z e=>by
    rw [bB (N7 p _ z).1] at e ⊢
    exact oj p u e (MV i vn p f z).2⟩
   have jC:io i = true→∀ p f u,Hj p = some (i,f)→H' p = some u→(del H' D₀) p = some u:=fun vn p f u z e=>by rw [bB (Pt p _ z)]; exact e
   have io_of:io i = N6 s:=by show (match δ[i]? with | some s=>N6 s | none=>false) = _; rw [hs]
   cases s with
   | no=>trivial
   | sh d=>obtain ⟨v,g1,g2⟩:=h0; exact ⟨v,g1,g2.up sG⟩
   | pt a=>exact h0
   | ow l=>obtain ⟨a1,a2⟩:=Lc io_of; exact A4.keep (s:=.ow l) sG a1 a2 h0
   | mu a l=>obtain ⟨a1,a2⟩:=Lc io_of; exact A4.keep (s:=.mu a l) sG a1 a2 h0
   | ob h C fs =>
    obtain ⟨a,dx,bo,g1,g2,_⟩:=h0
    obtain ⟨a',dx',vfs',r1,r2,r3,r4,r5,r6,r7⟩:=TR i _ h1
    have ea:a' = a:=by
     rw [r2 _ rfl]
     show (match σ[i]? with | some (some (.ref a))=>a | _=>0) = a
     rw [g1]
    subst ea
    exact ⟨a',dx',vfs',g1,g2,jC io_of _ _ _ r5 r3,jC io_of _ _ _ r6 r4,zB i io_of _ _ r5,zB i io_of _ _ r6,r7.keep (av.refl _) (zB i io_of) (jC io_of)⟩
   | rc h fs =>
    obtain ⟨a,bo,g1,g2,_⟩:=h0
    obtain ⟨a',vfs',r1,r2,r3,r5,r7⟩:=TR i _ h1
    have ea:a' = a:=by
     rw [r2 _ rfl]
     show (match σ[i]? with | some (some (.ref a))=>a | _=>0) = a
     rw [g1]
    subst ea
    exact ⟨a',vfs',g1,g2,jC io_of _ _ _ r5 r3,zB i io_of _ _ r5,r7.keep (av.refl _) (zB i io_of) (jC io_of)⟩
   | hb b C fs =>
    obtain ⟨dx',vfs',r3,r4,r5,r6,r7⟩:=TR i _ h1
    exact ⟨dx',vfs',jC io_of _ _ _ r5 r3,jC io_of _ _ _ r6 r4,zB i io_of _ _ r5,zB i io_of _ _ r6,r7.keep (av.refl _) (zB i io_of) (jC io_of)⟩
end
end Dl
namespace Dl
open PySem PySem.Spec PyProof.Rows L2
noncomputable def mj (k:Nat) (ti:oW) (g:sP) (tt:lB) (te:cx):cx:=fun δ Q=>ti δ fun items δ1=>∃ F:D→Option D,
 (∀ d ∈ items,∀ as:Nat→Nat,g d (hC as 0 δ1 ++ List.replicate k .no) fun δ2=>tt δ2 fun b δ3=>if b = true then te δ3 fun y δ4=>δ4.take δ1.length = hC as 0 δ1∧F d = some y else δ3.take δ1.length = hC as 0 δ1∧F d = none) ∧
  (items.filterMap F).length ≤ sizeLine∧Q (.lst (items.filterMap F)) δ1
theorem wb {X:Cx} {elt iter target:Expr} {ifs:List Expr} {scope:Scope} {pos:Pos} {N':List Str} (k:Nat) {ti:oW} {g:sP} {tt:lB} {te:cx} (hc:X.calm = true) (hi:DI X target iter ti)
  (hb:∀ (cl:List (Str × Addr)) (C:Addr) (ex:List Addr) (s:Shared) (H:Hp),DG (aB X N' scope cl C ex s H) target g∧CQ (aB X N' scope cl C ex s H) ifs tt∧DE (aB X N' scope cl C ex s H) elt te)
  (gH:scope.kind = .function) (iP:∀ y ∈ scope.names,y.2 = .local→scope.names.lookup y.1 = some .local) (GF:∀ x,(x,NameKind.free) ∈ scope.names→(x,NameKind.cell) ∉ scope.names) (hN:N'.length = X.N.length + k)
  (lZ:∀ (i:Nat) (x:Str),N'[i]? = some x→i < X.N.length→rQ (relabel scope X.env) x→X.N[i]? = some x∧scope.names.lookup x = some .free∧X.env.scope.names.lookup x = some .cell)
  (GG:∀ x ∈ scope.names,x.2 = NameKind.free→X.env.scope.names.lookup x.1 = some .cell)
  (hs:∀ x,foldedSetIterable iter X.env x = pure x)
  {use:Option (Value→Sem Unit)} {Qf:Value→Shared→Prop} {pins:List (Addr × Obj)} {s:Shared} {σ:L2.St} {H:Hp} {Q2:VK} {p:Pos} (I:Inv X pins σ H s) (hq:lE X.K (mj k ti g tt te) σ H Q2)
  (fin:∀ (D₀ C:Addr) (H':Hp) (s6:Shared),Inv X pins σ H' s6→lP X pins H' C→(∃ m,s6.heap.Ns C m)→Q2 (.ref D₀) H'→compPost (model X.prog X.w) X.A X.xe use Qf (.ref D₀) C (.ok .next) s6) :
  wpAny (model X.prog X.w) X.A (comprehension (.ListComp elt [⟨target,iter,ifs,0⟩] scope pos) scope X.env p (newList []) false (eval iter X.env) use) Qf X.xe s:=by
 obtain ⟨n,δ,G,Q,R,h,kk⟩:=hq
 obtain ⟨cl,GH,vh,vi⟩:=CO (env:=X.env) (scope:=scope) (fun x hx hf=>I.ok.has x.1 (.inl (GG x hx hf)))
 refine wpAny_comprehension_free (use:=use) rfl hs GH gH iP (wpAny_mono (hi pins s σ H _ I ⟨n,δ,G,_,R,h,fun J G' H' l δ' R' s' j' q'=>(show ∃ G' l δ',Rel X.K n δ' σ G' H'∧av G G'∧Jl X.K G' J l ∧
  (∃ F:D→Option D,(∀ d ∈ l,∀ as:Nat→Nat,g d (hC as 0 δ' ++ List.replicate k .no) fun δ2=>tt δ2 fun b δ3=>if b = true then te δ3 fun y δ4=>δ4.take δ'.length = hC as 0 δ'∧F d = some y else δ3.take δ'.length = hC as 0 δ'∧F d = none)∧(l.filterMap F).length ≤ sizeLine∧Q (.lst (l.filterMap F)) δ') from ⟨G',l,δ',R',s',j',q'⟩)⟩)
  (fun xv s₁ h₁=>wpAny_mono h₁ (fun IH s₂ h₂=>?_) fun _ _ z=>z) fun _ _ z=>z)
 obtain ⟨it,fp,tn,J,H2,rfl,I2,T,Fo,f2,G2,items,δ1,R2,Ti,j2,F,hF,hsz,hQ⟩:=h₂
 refine wpAny_newObj_type (nH ?_)
 rw [qt]
 dsimp only
 have hD:H2 s₂.heap.objs.size = none:=I2.fresh
 have I3:Inv X pins σ (upd H2 s₂.heap.objs.size (.lst [])) { s₂ with heap:=s₂.heap.push { cls:=.type "list",dict:=none,data:=.seq ([]:List Value).toArray } }:=I2.Je (t':=s₂.toks) .nil (Nat.zero_le _)
 have R3:Rel X.K n δ1 σ G2 (upd H2 s₂.heap.objs.size (.lst [])):=R2.other (R2.sub.free hD) (R2.al _ hD) (R2.xb hD) _
 have f3:∀ b ∈ fp,lP X pins (upd H2 s₂.heap.objs.size (.lst [])) b:=fun b hb=>by
  have lt : b < s₂.heap.objs.size:=by obtain ⟨o,ho,_⟩:=T.obj _ _ Fo b hb; exact Heap.lt_size ho
  refine ⟨?_,(f2 b hb).2⟩
  rw [aj (Nat.ne_of_lt lt)]; exact (f2 b hb).1
 have Mw:∀ b ∈ fp,b < (s₂.heap.push { cls:=.type "list",dict:=none,data:=.seq ([]:List Value).toArray }).objs.size:=fun b hb=>by
  obtain ⟨o,ho,_⟩:=T.obj _ _ Fo b hb
  rw [Heap.size_push]
  exact Nat.lt_succ_of_lt (Heap.lt_size ho)
 have Tj:∀ b o,s₂.heap.get? b = some o→(s₂.heap.push { cls:=.type "list",dict:=none,data:=.seq ([]:List Value).toArray }).get? b = some o:=fun b o e=>Heap.get?_push_of_some _ e
 generalize Mx:upd H2 s₂.heap.objs.size (.lst []) = H3 at I3 R3 f3
 have Pa:H3 s₂.heap.objs.size = some (.lst []):=by rw [← Mx]; exact aq
 have Pb:G2 s₂.heap.objs.size = none:=R2.sub.free hD
 have Tn:n.H s₂.heap.objs.size = none:=R2.al _ hD
 have GI:Rel X.K n δ1 σ G2 (del H3 s₂.heap.objs.size):=by rw [← Mx,sN,yC hD]; exact R2
 have Zw:av H2 H3:=by rw [← Mx]; exact aC hD _
 generalize s₂.heap.objs.size = D₀ at hD Pa Pb Tn GI ⊢
 have My:∀ h',(∀ b o,(s₂.heap.push { cls:=.type "list",dict:=none,data:=.seq ([]:List Value).toArray }).get? b = some o→h'.get? b = some o)→tn 0 h':=fun h' k'=>T.keep 0 _ _ Fo fun b _ o e=>k' b o (Tj b o e)
 have Rc:({ s₂ with heap:=s₂.heap.push { cls:=.type "list",dict:=none,data:=.seq ([]:List Value).toArray } }:Shared).os = s₂.os:=rfl
 generalize Pc:({ s₂ with heap:=s₂.heap.push { cls:=.type "list",dict:=none,data:=.seq ([]:List Value).toArray } }:Shared) = s₃ at I3
 have To:s₃.heap = s₂.heap.push { cls:=.type "list",dict:=none,data:=.seq ([]:List Value).toArray }:=by rw [← Pc]
 rw [← To] at Mw My ⊢
 have ow:=CP (h:=s₃.heap) GF
 have hns₁:(pushCells (s₃.heap.push { cls:=.type "dict",data:=.dict #[] }) scope.names).Ns s₃.heap.objs.size fun _=>none:=(Heap.Ns.new s₃.heap (.type "dict")).keeps (pushCells_keeps _ _)
 have JC:∀ b o,s₃.heap.get? b = some o→(pushCells (s₃.heap.push { cls:=.type "dict",data:=.dict #[] }) scope.names).get? b = some o:=fun b o e=>pushCells_keeps _ _ b o (Heap.get?_push_of_some _ e)
 generalize cellsFrom (s₃.heap.objs.size + 1) scope.names [] = own at ow ⊢
 generalize hh1:pushCells (s₃.heap.push { cls:=.type "dict",data:=.dict #[] }) scope.names = h₁ at ow hns₁ JC ⊢
 have Tp:({ s₂ with heap:=h₁ }:Shared) = { s₃ with heap:=h₁,toks:=s₃.toks }:=by rw [← Pc]
 have I4:Inv (aB X N' scope (own ++ cl) s₃.heap.objs.size fp s₃ H3) [] (σ ++ List.replicate k none) H3 { s₃ with heap:=h₁,toks:=s₃.toks }:=zj I3 gH vh vi ow hN lZ f3 Mw hns₁ JC
 have reset:∀ {pins':List (Addr × Obj)} {σ':L2.St} {H':Hp} {s':Shared},Inv (aB X N' scope (own ++ cl) s₃.heap.objs.size fp s₃ H3) pins' σ' H' s'→Inv (aB X N' scope (own ++ cl) s₃.heap.objs.size fp s₃ H3) pins' (σ ++ List.replicate k none) H' s' :=
  fun J'=>t4 I3 vh vi ow.free hN lZ J'
 generalize own ++ cl = cl at I4 reset ⊢
 have Bx:∀ {H':Hp},(∀ b ∈ fp,H' b = none)→∀ b ∈ fp,lP (aB X N' scope cl s₃.heap.objs.size fp s₃ H3) [] H' b:=fun hn b hb =>
  ⟨hn b hb,Nat.ne_of_lt (Mw b hb),I4.ok.DN b hb,.inl hb,(I4.ok.Oj b hb).2,fun p hp=>absurd (show p ∈ ([]:List (Addr × Obj)) from hp) (by simp)⟩
 obtain ⟨hG,hT,hE⟩:=hb cl s₃.heap.objs.size fp s₃ H3
 have loop:∀ s₄:Shared,s₄ = { s₃ with heap:=h₁,toks:=s₃.toks } →
   codeAny (model X.prog X.w) X.A (.compLoop (.ListComp elt [⟨target,iter,ifs,0⟩] scope pos) 0 (.ref it) (.ref D₀) (compEnvC scope cl s₃.heap.objs.size X.env)) (compPost (model X.prog X.w) X.A X.xe use Qf (.ref D₀) s₃.heap.objs.size) s₄:=by
  rintro s₄ rfl
  refine pk (fun m s=>∃ (i:Nat) (H:Hp) (G:Hp) (ws:List V),i ≤ items.length∧m = items.length - i∧Inv (aB X N' scope cl s₃.heap.objs.size fp s₃ H3) [] (σ ++ List.replicate k none) H s∧tn i s.heap∧(∀ b ∈ fp,H b = none) ∧
   Rel X.K n δ1 σ G (del H D₀)∧av G2 G∧H D₀ = some (.lst ws)∧G D₀ = none∧aH X.K G ws ((items.take i).filterMap F)) ?_ items.length
   ⟨0,H3,G2,[],Nat.zero_le _,rfl,I4,My _ JC,fun b hb=>(f3 b hb).1,GI,av.refl _,Pa,Pb,.nil⟩
  rintro m s5 ⟨i,H5,G5,ws,hi,rfl,I5,IJ,LW,R5',Eh,Iy,MA,GJ⟩
  have R5:=R5'.K0 Iy
  by_cases xw:i < items.length
  ·refine cP (T.item (aB X N' scope cl s₃.heap.objs.size fp s₃ H3) rfl rfl rfl hc i [] s5 _ H5 _ I5 (Bx LW) IJ (j2.go i G5 H5 Eh R5.sub xw)) fun r s6 ⟨u,hr,h6⟩=>?_
   subst hr
   refine cP h6 fun _ s7 ⟨x,H7,I7,rx,y7,MB,Tq⟩=>?_
   obtain ⟨G7,d,e7,hd,dx⟩:=j2.yl i G5 H5 x H7 Eh R5.sub xw y7
   have NY:G7 D₀ = none:=by
    cases q:G7 D₀ with
    | none=>rfl
    | some o=>have z:=e7.fr D₀ o q MA; rw [Iy] at z; cases z
   have R7:=R5'.ext (e7.del NY)
   obtain ⟨as,M,Tr,back⟩:=R7.MU (e7.hh _ _ Iy) k
   have I7':=I7.pinned (Bx Tq) (T.obj _ _ MB)
   have keep:∀ {σ':L2.St} {H':Hp} {s':Shared},Inv (aB X N' scope cl s₃.heap.objs.size fp s₃ H3) ([] ++ qi fp s7.heap) σ' H' s'→tn (i + 1) s'.heap∧(∀ b ∈ fp,H' b = none)∧Inv (aB X N' scope cl s₃.heap.objs.size fp s₃ H3) [] (σ ++ List.replicate k none) H' s':=fun {σ' H' s'} J'=>by
    refine ⟨T.keep _ _ _ MB fun b hb o e=>(J'.pin (b,o) (List.mem_append_right _ (List.mem_append_right _ (gb hb e)))).1,fun b hb=>?_,reset J'.lQ⟩
    obtain ⟨o,e,_⟩:=T.obj _ _ MB b hb
    exact (J'.pin (b,o) (List.mem_append_right _ (List.mem_append_right _ (gb hb e)))).2.1
   refine cP (hG _ s7 _ H7 x u (fun σ8 H8=>H8 = H7∧∃ δ8,Rel X.K ⟨G7,H7,M⟩ δ8 σ8 G7 H7∧tt δ8 fun b δ3=>if b = true then te δ3 fun y δ4=>δ4.take δ1.length = hC as 0 δ1∧F d = some y else δ3.take δ1.length = hC as 0 δ1∧F d = none) I7' rx
    ⟨_,_,G7,d,_,Tr,dx,hF d (List.mem_of_getElem? hd) as,fun δ8 σ8 R8 q8=>⟨rfl,δ8,R8,q8⟩⟩) fun _ s8 ⟨σ8,H8,I8,e8,δ8,R8,q8⟩=>?_
   subst e8
   refine cP (hT _ s8 σ8 _ (fun b H9=>∃ G9 δ9,Rel X.K ⟨G7,H8,M⟩ δ9 σ8 G9 H9∧if b = true then te δ9 fun y δ4=>δ4.take δ1.length = hC as 0 δ1∧F d = some y else δ9.take δ1.length = hC as 0 δ1∧F d = none) I8 ⟨_,δ8,G7,_,R8,q8,fun b G9 H9 δ9 R9 _ q9=>⟨G9,δ9,R9,q9⟩⟩) fun ok s9 ⟨H9,I9,G9,δ9,R9,q9⟩=>?_
   cases ok with
   | false =>
    rw [if_neg Bool.false_ne_true] at q9 ⊢
    obtain ⟨k1,k2,k3⟩:=keep I9
    obtain ⟨w1,w2,w3,w4⟩:=back δ9 σ8 G9 H9 R9 q9.1
    refine ⟨items.length - (i + 1),by omega,i + 1,H9,G9,ws,xw,rfl,k3,k1,k2,w4,Eh.trans (e7.gg.trans w3),w1,w2,?_⟩
    rw [nj F items i d hd,q9.2]
    simpa using GJ.up (e7.gg.trans w3)
   | true =>
    rw [if_pos rfl] at q9 ⊢
    refine cP (hE _ s9 σ8 H9 (fun v Ei=>∃ CS y,(∃ δ10,Rel X.K ⟨G7,H8,M⟩ δ10 σ8 CS Ei∧δ10.take δ1.length = hC as 0 δ1)∧Den X.K CS v y∧F d = some y) I9 ⟨_,δ9,G9,_,R9,q9,fun v CS Ei y δ10 MC _ Ts Rf=>⟨CS,y,⟨δ10,MC,Rf.1⟩,Ts,Rf.2⟩⟩) fun xv uZ ⟨v,Ei,Tt,rv,CS,y,⟨δ10,MC,TV⟩,dv,hy⟩=>?_
    obtain ⟨ME,w2,w3,w4⟩:=back δ10 σ8 CS Ei MC TV
    have MF:ws.length < sizeLine:=by
     have l1:=K5 F items (i + 1)
     rw [nj F items i d hd,hy,List.length_append] at l1
     have l2:=GJ.length
     simp only [Option.toList_some,List.length_singleton] at l1
     omega
    refine cP (qk (X:=aB X N' scope cl s₃.heap.objs.size fp s₃ H3) _ uZ σ8 Ei (.ref D₀) [v] (.ref D₀) [xv] (fun _ H'=>H' = upd Ei D₀ (.lst (ws ++ [v]))) Tt rfl (.cons rv .nil) ⟨D₀,ws,v,rfl,rfl,ME,MF,rfl⟩) fun _ oX ⟨_,H11,Tu,_,Tv⟩=>?_
    subst Tv
    obtain ⟨k1,k2,k3⟩:=keep Tu
    refine ⟨items.length - (i + 1),by omega,i + 1,_,CS,ws ++ [v],xw,rfl,k3,k1,k2,(by rw [sN]; exact w4),Eh.trans (e7.gg.trans w3),aq,w2,?_⟩
    rw [nj F items i d hd,hy]
    exact (GJ.up (e7.gg.trans w3)).append (.cons dv .nil)
  ·have ei:i = items.length:=by omega
   subst ei
   refine cP (T.done (aB X N' scope cl s₃.heap.objs.size fp s₃ H3) rfl rfl rfl hc _ [] s5 _ H5 _ I5 (Bx LW) IJ (j2.st _ G5 H5 Eh R5.sub (Nat.le_refl _))) fun r s6 ⟨hr,I6⟩=>?_
   subst hr
   obtain ⟨m,hm,_⟩:=I6.loc
   have Tw:Inv X pins σ H5 s6:=I3.call' (s':=s6) (ch:=fp) I6.os (show Un (AK X.stack) fp H3 H5 s₃.heap s6.heap from I6.base) I6.bE I6.bare fun b hb=>⟨(f3 b hb).2.2.2.1,(f3 b hb).2.1,(f3 b hb).2.2.2.2.1,(f3 b hb).2.2.2.2.2⟩
   rw [List.take_length] at GJ
   exact fin D₀ s₃.heap.objs.size H5 s6 Tw (I3.Fm (Nat.le_refl _) I6.free) ⟨m,hm⟩ (kk _ _ _ _ δ1 (R5'.OX Iy) (Ti.trans (Eh.trans (aC MA _))) (.lst (gG.of aq) (GJ.up (aC MA _))) hQ)
 rw [Tp]
 exact codeAny_compStart_list (loop _ rfl) (T.self _ 0 _ _ _ (My _ JC) (loop _ rfl))
theorem Hl {X:Cx} {elt iter target:Expr} {ifs:List Expr} {scope:Scope} {pos:Pos} {N':List Str} (k:Nat) {ti:oW} {g:sP} {tt:lB} {te:cx} (hc:X.calm = true) (hi:DI X target iter ti)
  (hb:∀ (cl:List (Str × Addr)) (C:Addr) (ex:List Addr) (s:Shared) (H:Hp),DG (aB X N' scope cl C ex s H) target g∧CQ (aB X N' scope cl C ex s H) ifs tt∧DE (aB X N' scope cl C ex s H) elt te)
  (gH:scope.kind = .function) (iP:∀ y ∈ scope.names,y.2 = .local→scope.names.lookup y.1 = some .local) (GF:∀ x,(x,NameKind.free) ∈ scope.names→(x,NameKind.cell) ∉ scope.names) (hN:N'.length = X.N.length + k)
  (lZ:∀ (i:Nat) (x:Str),N'[i]? = some x→i < X.N.length→rQ (relabel scope X.env) x→X.N[i]? = some x∧scope.names.lookup x = some .free∧X.env.scope.names.lookup x = some .cell)
  (GG:∀ x ∈ scope.names,x.2 = NameKind.free→X.env.scope.names.lookup x.1 = some .cell)
  (hs:∀ x,foldedSetIterable iter X.env x = pure x:=by intro _; rfl):DE X (.ListComp elt [⟨target,iter,ifs,0⟩] scope pos) (mj k ti g tt te):=by
 rintro pins s σ H Q2 I q
 rw [eval_ListComp]
 exact wb k hc hi hb gH iP GF hN lZ GG hs (use:=none) I q fun D₀ C H' s6 I6 f ⟨m,hm⟩ q6=>⟨m,hm,fun h' hs'=>⟨.ref D₀,H',pA I6 f hs',rfl,q6⟩⟩
theorem Ex {X:Cx} {elt iter target:Expr} {ifs:List Expr} {scope:Scope} {pos:Pos} (N':List Str) (k:Nat) {ti:oW} {g:sP} {tt:lB} {te:cx} (hc:X.calm = true) (hi:DI X target iter ti)
  (hb:∀ (cl:List (Str × Addr)) (C:Addr) (ex:List Addr) (s:Shared) (H:Hp),DG (aB X N' scope cl C ex s H) target g∧CQ (aB X N' scope cl C ex s H) ifs tt∧DE (aB X N' scope cl C ex s H) elt te)
  (ok:bG X.N X.env.scope N' scope k = true)
  (hs:∀ x,foldedSetIterable iter X.env x = pure x:=by intro _; rfl):DE X (.ListComp elt [⟨target,iter,ifs,0⟩] scope pos) (mj k ti g tt te):=by
 unfold bG at ok
 simp only [Bool.and_eq_true,List.all_eq_true,Bool.or_eq_true,bne_iff_ne,ne_eq,beq_iff_eq] at ok
 obtain ⟨⟨⟨⟨⟨h1,h2⟩,MG⟩,h4⟩,h5⟩,h6⟩:=ok
 have h3:∀ x,(x,NameKind.free) ∈ scope.names→(x,NameKind.cell) ∉ scope.names:=fun x hx hc=>by
  have z:=(MG _ hx).resolve_left fun z=>z rfl
  have w:(scope.names.any fun z=>z.1 == x && z.2 == .cell) = true:=List.any_eq_true.mpr ⟨_,hc,by simp⟩
  rw [w] at z; cases z
 refine Hl k hc hi hb (by cases q:scope.kind <;> rw [q] at h1 <;> first | rfl | cases h1) (fun y hy hl=>(h2 y hy).resolve_left fun z=>z hl) h3 h4 (fun i x e hi hv=>?_) (fun x hx hf=>(h5 x hx).resolve_left fun z=>z hf) hs
 have h6':=h6 i (List.mem_range.mpr hi)
 rw [e] at h6'
 dsimp only at h6'
 have hv':∃ kd,scope.names.lookup x = some kd∧(kd = .local∨kd = .cell∨kd = .free):=by
  have yp:(relabel scope X.env).names.lookup x = _:=bR
  unfold rQ at hv
  rw [yp] at hv
  cases q:scope.names.lookup x with
  | none=>rw [q] at hv; simp at hv
  | some kd =>
   refine ⟨kd,rfl,?_⟩
   rw [q] at hv
   cases kd <;> simp at hv ⊢
 obtain ⟨kd,hk,MH⟩:=hv'
 rw [hk] at h6'
 rcases MH with rfl | rfl | rfl
 ·simp at h6'
 ·simp at h6'
 ·have e1:X.N[i]? = some x:=by simpa using h6'
  exact ⟨e1,hk,(h5 _ (bO hk)).resolve_left fun z=>z rfl⟩
end Dl
namespace Dl
open PySem PySem.Spec PyProof.Rows L2
section
variable {X:Cx} {e:Expr} {es:List Expr} {t:lK} {p pos:Pos}
noncomputable def Ld (K:PySem.W.Frag):List V→Hp→VK→Prop:=fun xs H Q=>∃ (p:Addr) (ns:List Int),xs = [.ref p]∧gG K H p (ns.map V.int)∧ns ≠ []∧∀ m:Int,m ∈ ns→(∀ x ∈ ns,m ≤ x)→Q (.int m) H
theorem Ey (hc:X.calm = true):dq X (.builtin "min") (Ld X.K):=by
 rintro pins s σ H xs us Q I r ⟨p,ns,rfl,hq,A5,q⟩
 obtain ⟨u,rfl,ru⟩:=r.one
 cases ru
 obtain ⟨its,rv,pl,hz⟩:=I.list hq
 have hi:=intsAre_of rv
 obtain ⟨ys,ey⟩:=hi.allInts.items
 have e0:numsOf its.toArray.toList = ns:=hi.numsOf
 have el:=rv.length
 rw [List.length_map] at el
 have l1:(intItems ys).size = ns.length:=by rw [← ey,List.size_toArray,el]
 have l2:ys.size = ns.length:=by simpa [intItems] using l1
 have lp:0 < ns.length:=List.length_pos_iff.mpr A5
 rw [ey,nums_intItems] at e0
 refine min_intList (I.ok.hd hc) (ey ▸ pl.isList) (by omega) fun v h' tk hv hk=>?_
 obtain ⟨t,rfl⟩:=intItems_at hv
 obtain ⟨h1,h2⟩:=argBest_lt (numAt ys) (ys.size - 1)
 refine ⟨.int _,H,I.kept (t':=tk) hk,⟨t,rfl⟩,q _ ?_ fun x hx=>?_⟩
 ·rw [← e0,numAt_eq]; exact getD_mem (by rw [List.length_map,Array.length_toList]; omega)
 ·rw [← e0] at hx
  obtain ⟨j,hj,rfl⟩:=mem_getD hx
  rw [List.length_map,Array.length_toList] at hj
  rw [← numAt_eq]; exact h2 j (by omega)
theorem J1 {K:PySem.W.Frag}:kU K (Ld K) vY:=fun G H xs ds Q Q2 s hd h k=>by
 unfold vY at h
 split at h
 ·obtain ⟨l,e0,ns,e,A5,AI,q⟩:=h
  obtain ⟨v,rfl,d1⟩:=rh hd
  unfold MJ at e0
  split at e0
  ·cases e0
   obtain ⟨a,vs,rfl,ha,la⟩:=d1.lst_inv
   rw [kg e] at la
   have ev:vs = ns.map V.int:=aH.pC la
   subst ev
   exact ⟨a,ns,rfl,s.seq ha,A5,fun m p1 p2=>k _ G H _ (Ext.refl s) (.int _) (q m p1 p2)⟩
  ·cases e0
 ·exact h.elim
theorem C3 (hc:X.calm = true) (hm:X.mg "min" = none) (ha:DA X (e :: es) t) (hg:Gl X "min":=by rfl) (he:starEach (e :: es) X.env = (false,eval e X.env) :: starEach es X.env:=by rfl) (lJ:(backTo pos (starEach es X.env)).any (·.1) = false:=by rfl):DE X (.Call (.Name "min" p) (e :: es) [] pos) (ay vY t) :=
 jx (Ey hc) J1 hm (by rfl) ha hg (by decide) (by decide) he lJ
end
end Dl
namespace Dl
open PySem PySem.Spec PyProof.Rows L2
theorem Hm {X:Cx} {elt iter target:Expr} {ifs:List Expr} {scope:Scope} {pos:Pos} {N':List Str} (k:Nat) {ti:oW} {g:sP} {tt:lB} {te:cx} (hc:X.calm = true) (hi:DI X target iter ti)
  (hb:∀ (cl:List (Str × Addr)) (C:Addr) (ex:List Addr) (s:Shared) (H:Hp),DG (aB X N' scope cl C ex s H) target g∧CQ (aB X N' scope cl C ex s H) ifs tt∧DE (aB X N' scope cl C ex s H) elt te)
  (gH:scope.kind = .function) (iP:∀ y ∈ scope.names,y.2 = .local→scope.names.lookup y.1 = some .local) (GF:∀ x,(x,NameKind.free) ∈ scope.names→(x,NameKind.cell) ∉ scope.names) (hN:N'.length = X.N.length + k)
  (lZ:∀ (i:Nat) (x:Str),N'[i]? = some x→i < X.N.length→rQ (relabel scope X.env) x→X.N[i]? = some x∧scope.names.lookup x = some .free∧X.env.scope.names.lookup x = some .cell)
  (GG:∀ x ∈ scope.names,x.2 = NameKind.free→X.env.scope.names.lookup x.1 = some .cell)
  (hs:∀ x,foldedSetIterable iter X.env x = pure x) (i:Nat) {x:Str} {pos' pB:Pos} (JF:X.N.Nodup) (JG:X.N[i]? = some x) (hx:Loc X.env.scope x)
  (JH:swapsWith (.ListComp elt [⟨target,iter,ifs,0⟩] scope pos) (some (.Name x pos')) pB.line X.env = pure true) (hf:X.fn x = true∨X.env.scope.names.lookup x = some .local) :
  DS X (.Assign [.Name x pos'] (.ListComp elt [⟨target,iter,ifs,0⟩] scope pos) pB) (bw i (mj k ti g tt te)):=by
 rintro pins s σ H F I ⟨n,δ,G,E,R,h,kk⟩
 rw [exec_Assign_Name_used _ _ _ _ JH]
 refine wpAny_bind (wpAny_standAt (wpAny_bind ?_))
 show wpAny _ X.A (do let _ ← comprehension (.ListComp elt [⟨target,iter,ifs,0⟩] scope pos) scope X.env _ (newList []) false (eval iter X.env) (some (assign (.Name x pos') X.env))) _ _ s
 refine wpAny_bind (wpAny_mono (wb k hc hi hb gH iP GF hN lZ GG hs (use:=some (assign (.Name x pos') X.env)) (Qf:=fun _ s'=>SP X pins F .next s') (Q2:=fun v H'=>F.nx (σ.set i (some v)) H') I
  ⟨n,δ,G,_,R,h,fun v G1 H1 d δ1 R1 s1 d1 h1=>kk.nx _ _ G1 H1 (R1.set i d1) h1⟩ fun D₀ C H' s6 I6 f hm q6=>?_) (fun _ s' hq=>wpAny_pure (wpAny_pure hq)) fun _ _ e=>e)
 obtain ⟨m,hm⟩:=hm
 refine wpAny_assign_Name (qh (v:=.ref D₀) I6 JF JG hx rfl (fun s7 I7 ⟨a,sb,ha⟩=>⟨m,hm.sameBut sb ?_,fun h' hs'=>⟨_,H',pA I7 f hs',q6⟩⟩) hf)
 rcases ha with rfl | ha
 ·exact f.2.1
 ·exact Ne.symm (f.2.2.2.2.1 x a ha)
theorem Ez {X:Cx} {elt iter target:Expr} {ifs:List Expr} {scope:Scope} {pos:Pos} (N':List Str) (k i:Nat) {ti:oW} {g:sP} {tt:lB} {te:cx} (hc:X.calm = true) (hi:DI X target iter ti)
  (hb:∀ (cl:List (Str × Addr)) (C:Addr) (ex:List Addr) (s:Shared) (H:Hp),DG (aB X N' scope cl C ex s H) target g∧CQ (aB X N' scope cl C ex s H) ifs tt∧DE (aB X N' scope cl C ex s H) elt te)
  (ok:bG X.N X.env.scope N' scope k = true)
  (hs:∀ x,foldedSetIterable iter X.env x = pure x:=by intro _; rfl) {x:Str} {pos' pB:Pos} (JF:X.N.Nodup) (JG:X.N[i]? = some x:=by rfl) (hx:Loc X.env.scope x:=by first | exact Or.inl rfl | exact Or.inr rfl)
  (JH:swapsWith (.ListComp elt [⟨target,iter,ifs,0⟩] scope pos) (some (.Name x pos')) pB.line X.env = pure true:=by rfl) (hf:X.fn x = true∨X.env.scope.names.lookup x = some .local:=by first | exact .inl rfl | exact .inr rfl | assumption) :
  DS X (.Assign [.Name x pos'] (.ListComp elt [⟨target,iter,ifs,0⟩] scope pos) pB) (bw i (mj k ti g tt te)):=by
 unfold bG at ok
 simp only [Bool.and_eq_true,List.all_eq_true,Bool.or_eq_true,bne_iff_ne,ne_eq,beq_iff_eq] at ok
 obtain ⟨⟨⟨⟨⟨h1,h2⟩,MG⟩,h4⟩,h5⟩,h6⟩:=ok
 have h3:∀ x,(x,NameKind.free) ∈ scope.names→(x,NameKind.cell) ∉ scope.names:=fun x hx hc=>by
  have z:=(MG _ hx).resolve_left fun z=>z rfl
  have w:(scope.names.any fun z=>z.1 == x && z.2 == .cell) = true:=List.any_eq_true.mpr ⟨_,hc,by simp⟩
  rw [w] at z; cases z
 refine Hm k hc hi hb (by cases q:scope.kind <;> rw [q] at h1 <;> first | rfl | cases h1) (fun y hy hl=>(h2 y hy).resolve_left fun z=>z hl) h3 h4 (fun i x e hi hv=>?_) (fun x hx hf=>(h5 x hx).resolve_left fun z=>z hf) hs i JF JG hx JH hf
 have h6':=h6 i (List.mem_range.mpr hi)
 rw [e] at h6'
 dsimp only at h6'
 have hv':∃ kd,scope.names.lookup x = some kd∧(kd = .local∨kd = .cell∨kd = .free):=by
  have yp:(relabel scope X.env).names.lookup x = _:=bR
  unfold rQ at hv
  rw [yp] at hv
  cases q:scope.names.lookup x with
  | none=>rw [q] at hv; simp at hv
  | some kd =>
   refine ⟨kd,rfl,?_⟩
   rw [q] at hv
   cases kd <;> simp at hv ⊢
 obtain ⟨kd,hk,MH⟩:=hv'
 rw [hk] at h6'
 rcases MH with rfl | rfl | rfl
 ·simp at h6'
 ·simp at h6'
 ·have e1:X.N[i]? = some x:=by simpa using h6'
  exact ⟨e1,hk,(h5 _ (bO hk)).resolve_left fun z=>z rfl⟩
end Dl
namespace Dl
open PySem L2
end Dl
namespace Dl
open PySem L2
end Dl
namespace Dl
open PySem L2
end Dl
namespace Dl
open PySem PySem.Spec PyProof.Rows L2
section
variable {X:Cx} {b:Expr} {tb:cx} {pos:Pos}
end
end Dl
namespace Dl
open PySem PySem.Spec PyProof.Rows L2
section
variable {X:Cx} {a b c:Expr} {pos:Pos}
end
end Dl
namespace Dl
open PySem PySem.Spec PyProof.Rows L2
noncomputable def Hn (te:cx):cx:=fun δ Q=>te δ fun x δ1=>match x with
 | .lst l=>Q (.lst l.reverse) δ1
 | _=>False
section
variable {X:Cx} {a:Expr} {ta:cx} {p pos p2 cp:Pos} {j:Nat}
theorem wc:∀ {xs:List V} {us:List Value},Vals xs us→Vals xs.reverse us.reverse
 | _,_,.nil=>.nil
 | _,_,.cons h t=>by rw [List.reverse_cons,List.reverse_cons]; exact (wc t).append (.cons h .nil)
theorem aH.Pu {K:PySem.W.Frag} {G:Hp}:∀ {vs:List V} {ds:List D},aH K G vs ds→aH K G vs.reverse ds.reverse
 | _,_,.nil=>.nil
 | _,_,.cons h t=>by rw [List.reverse_cons,List.reverse_cons]; exact (aH.Pu t).append (.cons h .nil)
theorem J2 {te:TE} (he:PE X a te):PE X (.Subscript a (.Slice none none (some (.UnaryOp .USub (.Constant (.int 1) j cp) p)) p2) pos) (fun σ H Q=>te σ H fun x H1=>∃ b xs,x = .ref b∧gG X.K H1 b xs∧∀ r,H1 r = none→Q (.ref r) (upd H1 r (.lst xs.reverse))):=by
 intro pins s σ H Q I h
 refine Subscript_ (cP (he pins s σ H _ I h) fun v s1 ⟨x,H1,I1,r1,b,xs,ex,hx,q⟩=>?_)
 subst ex
 cases r1
 refine wpAny_Slice ?_
 rw [evalPart_none,evalPart_some]
 refine wpAny_pure (wpAny_pure ?_)
 have hn:PE X (.UnaryOp .USub (.Constant (.int 1) j cp) p) (Zl (rU fun i=>.int (-i)) (tC (.int 1))):=KN Fp Fd
 refine cP (hn pins s1 σ H1 (fun v H2=>v = .int (-1)∧H2 = H1) I1 ⟨1,rfl,rfl,rfl⟩) fun st s3 ⟨v3,H3,I3,r3,e3,eH⟩=>?_
 subst e3 eH
 obtain ⟨u,rfl⟩:=r3
 have I2:=I3.kept (t':=s3.toks) (h':=s3.heap.push { cls:=.type "slice",data:=.fields #[.none,.none,.int (-1) u] }) fun b ob q=>Heap.get?_push_of_some _ q
 obtain ⟨its,r,ht,hz⟩:=I2.list hx
 have hl:=r.length
 refine tail_any (ops:=[.ref b,.ref s3.heap.objs.size]) ht.isList.typeIs slot_list_getitem.lookup (wpAny_getItem_list_slice ht.isList (Heap.IsSliceOf.new ..) .none .none (.int _ _) (by decide) ?_ (by rw [List.size_toArray,← hl]; exact hz)) (by with_unfolding_all rfl)
 rw [PySem.W.krv_pick]
 exact ⟨.ref _,_,I2.Je (t':=s3.toks) (wc r) (by rw [List.length_reverse]; exact hz),rfl,q _ I2.fresh⟩
theorem J3 (he:DE X a ta):DE X (.Subscript a (.Slice none none (some (.UnaryOp .USub (.Constant (.int 1) j cp) p)) p2) pos) (Hn ta) :=
 bx (J2 he) fun σ H Q2 hx=>hx.el fun n δ G Q R h k=>⟨n,δ,G,_,R,h,fun v G1 H1 d δ1 R1 s1 d1 h1=>by
  cases d with
  | lst l =>
   obtain ⟨b,vs,rfl,hq,hl⟩:=d1.lst_inv
   exact ⟨b,vs,rfl,R1.sub.seq hq,fun r hr=>k _ _ _ _ δ1 (R1.laid hr _) (s1.trans (aC (R1.sub.free hr) _)) (.lst (gG.of aq) ((aH.Pu hl).up (aC (R1.sub.free hr) _))) h1⟩
  | _=>exact h1.elim⟩
end
end Dl
namespace Dl
open PySem PySem.Spec PyProof.Rows L2
section
variable {prog:Program} {w:World} {A:Around} {E:Value→Shared→Prop}
end
section
variable {X:Cx} {pos:Pos}
end
end Dl
namespace Dl
open PySem PySem.Spec PyProof.Rows L2
section
variable {X:Cx} {e o:Expr} {es:List Expr} {t:lK} {ta tb:cx} {p pos:Pos}
end
end Dl
namespace Dl
open PySem PySem.Spec PyProof.Rows L2
end Dl
namespace Dl
open PySem PySem.Spec PyProof.Rows L2
section
variable {K:PySem.W.Frag} {n:En} {δ:Ev} {σ:L2.St} {G H:Hp} {j:Nat} {a C:Nat} {fs:List (Str × Fl)} {h:Option Nat}
theorem Rel.shown (R:Rel K n δ σ G H) (e:δ[j]? = some (.hb a C fs)):Rel K n (δ.set j (.ob (some a) C fs)) (σ.set j (some (.ref a))) G H:=by
 obtain ⟨ow,ok,gh⟩:=R.gh
 have hl:j < σ.length:=by rw [← R.len]; exact (List.getElem?_eq_some_iff.mp e).1
 refine ⟨R.sub,R.eg,R.eh,R.al,R.fr,⟨ow,ok,fun i s hs=>?_⟩,by rw [List.length_set,List.length_set]; exact R.len⟩
 rcases fD hs with ⟨e1,rfl,_⟩ | ⟨e1,hs⟩
 ·subst e1
  obtain ⟨dx,bo,g3,g4,g5,g6,g7⟩:=gh j _ e
  exact ⟨a,dx,bo,List.getElem?_set_self hl,fun a0 z=>by cases z; rfl,g3,g4,g5,g6,g7⟩
 ·rw [List.getElem?_set_ne e1]; exact gh i s hs
theorem Rel.hide (R:Rel K n δ (σ.set j (some (.ref a))) G H) (e:δ[j]? = some (.ob h C fs)):Rel K n (δ.set j (.hb a C fs)) σ G H:=by
 obtain ⟨ow,ok,gh⟩:=R.gh
 have hl:j < σ.length:=by have:=R.len; rw [List.length_set] at this; rw [← this]; exact (List.getElem?_eq_some_iff.mp e).1
 refine ⟨R.sub,R.eg,R.eh,R.al,R.fr,⟨ow,ok,fun i s hs=>?_⟩,by have:=R.len; rw [List.length_set] at this ⊢; exact this⟩
 rcases fD hs with ⟨e1,rfl,_⟩ | ⟨e1,hs⟩
 ·subst e1
  obtain ⟨a',dx,bo,g1,g2,g3,g4,g5,g6,g7⟩:=gh j _ e
  rw [List.getElem?_set_self hl] at g1
  cases g1
  exact ⟨dx,bo,g3,g4,g5,g6,g7⟩
 ·have:=gh i s hs
  rwa [List.getElem?_set_ne e1] at this
theorem Ho:∀ (ds:List D) (δ:Ev) (os:List Ar),t7 δ (ds.map .v) os = δ
 | [],_,_=>rfl
 | _ :: r,δ,os=>Ho r δ os.tail
theorem Le:∀ ds:List D,fZ (ds.map .v) = []
 | []=>rfl
 | _ :: r=>Le r
theorem Lf:∀ {vs:List V} {ds:List D},aH K G vs ds→xC K G σ vs (ds.map .v)
 | _,_,.nil=>.nil
 | _,_,.cons h t=>.v h (Lf t)
theorem Lg:∀ (ds:List D),(ds.map Ax.v).map (N0 δ) = ds.map .v
 | []=>rfl
 | _ :: r=>by rw [List.map_cons,List.map_cons,List.map_cons,Lg r]; rfl
end
noncomputable def MW (δ:Ev) (a:Nat):Prop:=∀ (i b C:Nat) (fs:List (Str × Fl)),δ[i]? = some (.hb b C fs)→b ≠ a
noncomputable def EA (j:Nat) (C:Nat) (S:zl) (t:lK):cx:=fun δ Q=>t δ fun ds δ1=>j < δ1.length∧S (.o C [] :: ds.map .v) fun d outs=>match d,outs with
 | .aU,.o C' fs :: _=>∀ a,MW δ1 a→Q (.pt a) (δ1.set j (.hb a C' fs))
 | _,_=>False
noncomputable def bH (C:Nat) (m:Str) (S:zl) (te:cx) (t:lK):cx:=fun δ Q=>te δ fun d δ0=>match d with
 | .pt a=>∃ j fs,δ0[j]? = some (.hb a C fs)∧fs.lookup m = none∧t δ0 fun ds δ1=>∃ AJ,δ1[j]? = some (.hb a C AJ)∧S (.o C AJ :: ds.map .v) fun d outs=>match outs with
  | .o C' fs' :: _=>Q d (δ1.set j (.hb a C' fs'))
  | _=>False
 | _=>False
section
variable {X:Cx} {o e:Expr} {es:List Expr} {te:cx} {t:lK} {p pos tK apos:Pos} {f C:Addr} {fd:FuncData} {ps:List Str} {S:zl} {k:Nat} {m cn:Str}
theorem C4 {K:PySem.W.Frag} {G H:Hp} {ow:Ow} {i:Nat} {bo:List (Str × V)} {fs:List (Str × Fl)} (g5:qZ K G H ow i bo fs) (hl:fs.lookup m = none):bo.lookup m = none:=by
 have hk:m ∉ fs.map (·.1):=fun z=>by
  obtain ⟨p,hp,e⟩:=List.mem_map.mp z
  exact absurd hl (by intro hh; have:=List.lookup_eq_none_iff.mp hh p hp; simp [e] at this)
 rw [← g5.keys] at hk
 exact List.lookup_eq_none_iff.mpr fun p hp=>by
  have:p.1 ≠ m:=fun z=>hk (List.mem_map.mpr ⟨p,hp,z⟩)
  simpa using fun z=>this z.symm
theorem ug {K:PySem.W.Frag} {n:En} {δ1:Ev} {σ:L2.St} {G1 H1:Hp} {j a:Nat} {AJ:List (Str × Fl)} {vs:List V} {ds:List D} {Q:D→Ev→Prop} {Q2:VK} (R1:Rel K n δ1 σ G1 H1) (d1:aH K G1 vs ds) (e1:δ1[j]? = some (.hb a C AJ))
  (h1:S (.o C AJ :: ds.map .v) fun d outs=>match outs with
  | .o C' fs' :: _=>Q d (δ1.set j (.hb a C' fs'))
  | _=>False) (kk:∀ (v:V) (G' H':Hp) (d:D) (δ':Ev),Rel K n δ' σ G' H'→av G1 G'→Den K G' v d→Q d δ'→Q2 v H'):pE K S (.ref a :: vs) H1 Q2 E0:=by
 have R1':=R1.shown e1
 have jl:j < δ1.length:=(List.getElem?_eq_some_iff.mp e1).1
 have sl:(σ.set j (some (.ref a)))[j]? = some (some (.ref a)):=List.getElem?_set_self (by rw [← R1.len]; exact jl)
 have dl:(δ1.set j (.ob (some a) C AJ))[j]? = some (.ob (some a) C AJ):=List.getElem?_set_self jl
 obtain ⟨K6,c1,c2,c3⟩:=R1'.enter (axs:=.at j :: ds.map .v) (by show (j :: fZ (ds.map Ax.v)).Nodup; rw [Le]; simp) (.at sl (Lf d1))
 have ei:(Ax.at j :: ds.map Ax.v).map (N0 (δ1.set j (.ob (some a) C AJ))) = .o C AJ :: ds.map .v:=by
  rw [List.map_cons,Lg]
  congr 1
  show (match (δ1.set j (.ob (some a) C AJ))[j]? with | some (.ob _ C fs)=>Ar.o C fs | some (.ow l)=>.l l | some (.mu _ l)=>.l l | some (.sh d)=>.v d | some (.rc _ fs)=>.r fs | _=>.x) = _
  rw [dl]
 rw [ei] at c1
 refine ⟨G1,_,_,K6,R1.sub,by simp [d1.length],c1,c2,h1,fun v G2 H2 d outs ow' e2 dv w2 o2 q2=>?_⟩
 have R2:=c3 G2 H2 outs ow' e2 w2 o2
 match outs,q2 with
 | .o C' fs' :: os,q2 =>
  have es:t7 (δ1.set j (.ob (some a) C AJ)) (.at j :: ds.map .v) (.o C' fs' :: os) = δ1.set j (.ob (some a) C' fs'):=by
   show t7 (match (δ1.set j (.ob (some a) C AJ))[j]? with | some s=>(δ1.set j (.ob (some a) C AJ)).set j (Ph s (some (.o C' fs'))) | none=>_) (ds.map .v) os = _
   rw [Ho,dl]
   show (δ1.set j (.ob (some a) C AJ)).set j (.ob (some a) C' fs') = _
   rw [List.set_set]
  rw [es] at R2
  have R3:=R2.hide (C:=C') (fs:=fs') (h:=some a) (List.getElem?_set_self jl)
  rw [List.set_set] at R3
  exact kk v G2 H2 d _ R3 e2.gg dv q2
 | [],q2=>exact q2.elim
 | .v _ :: _,q2=>exact q2.elim
 | .l _ :: _,q2=>exact q2.elim
 | .x :: _,q2=>exact q2.elim
 | .r _ :: _,q2=>exact q2.elim
theorem cQ {pl:Sem Bool} (ho:DE X o te) (c:wU X.K C) (hm:Meth X.K C m f) (F:aJ X.prog X.w X.K X.mg X.base bT k f fd ps (pE X.K S)) (hr:eD k X.A) (hb:Binds X.K fd ps []) (ha:DA X (e :: es) t)
  (ym:starEach (e :: es) X.env = (false,eval e X.env) :: starEach es X.env:=by rfl) (lJ:(backTo pos (starEach es X.env)).any (·.1) = false:=by rfl)
  (ht:eval (.Call (.Attribute o m apos) (e :: es) [] pos) X.env = (do
   let ov ← eval o X.env
   standAt apos.atName
   let (f,first) ← holding [ov] (getMethod ov m pl)
   callWith pos f first (backTo pos (starEach (e :: es) X.env)) (backToKw pos (keywordEach [] X.env))):=by rfl) :
  DE X (.Call (.Attribute o m apos) (e :: es) [] pos) (bH C m S te t) :=
 bx (IU (pl:=pl) ho c hm F hr hb .nil yB ha ym lJ ht) fun σ H Q2 hx=>hx.el fun n δ G Q R h kk=>⟨n,δ,G,_,R,h,fun v G0 H0 d δ0 R0 s0 d0 h0=>by
  cases d with
  | pt a =>
   obtain ⟨j,fs,ej,hl,h0⟩:=h0
   cases d0.FK
   obtain ⟨dx,bo,g3,g4,ow,i',g5⟩:=R0.sl j _ ej
   refine ⟨a,dx,bo,rfl,g3,C4 g5 hl,n,δ0,G0,_,R0,h0,fun vs G1 H1 ds δ1 R1 s1 d1 ⟨AJ,e1,h1⟩=>?_⟩
   show pE X.K S (.ref a :: (vs ++ [])) H1 Q2 E0
   rw [List.append_nil]
   exact ug R1 d1 e1 h1 fun v G' H' d δ' R' s' dv q=>kk v G' H' d δ' R' (s0.trans (s1.trans s')) dv q
  | _=>exact h0.elim⟩
theorem eZ {pl:Sem Bool} (ho:DE X o te) (c:wU X.K C) (hm:Meth X.K C m f) (F:aJ X.prog X.w X.K X.mg X.base bT k f fd ps (pE X.K S)) (hr:eD k X.A) (hb:Binds X.K fd ps [])
  (ht:eval (.Call (.Attribute o m apos) [] [] pos) X.env = (do
   let ov ← eval o X.env
   standAt apos.atName
   let (f,first) ← holding [ov] (getMethod ov m pl)
   callWith pos f first (backTo pos (starEach [] X.env)) (backToKw pos (keywordEach [] X.env))):=by rfl) :
  DE X (.Call (.Attribute o m apos) [] [] pos) (bH C m S te aw) :=
 bx (yw (pl:=pl) ho c hm F hr hb .nil yB ht) fun σ H Q2 hx=>hx.el fun n δ G Q R h kk=>⟨n,δ,G,_,R,h,fun v G0 H0 d δ0 R0 s0 d0 h0=>by
  cases d with
  | pt a =>
   obtain ⟨j,fs,ej,hl,AJ,e1,h1⟩:=h0
   cases d0.FK
   obtain ⟨dx,bo,g3,g4,ow,i',g5⟩:=R0.sl j _ ej
   refine ⟨a,dx,bo,rfl,g3,C4 g5 hl,?_⟩
   exact ug R0 .nil e1 h1 fun v G' H' d δ' R' s' dv q=>kk v G' H' d δ' R' (s0.trans s') dv q
  | _=>exact h0.elim⟩
theorem xF (j:Nat) (M:Mk X.K C f) (F:aJ X.prog X.w X.K X.mg X.base bT k f fd ps (pE X.K S)) (hr:eD (k + 1) X.A) (hm:X.mg cn = some (.ref C)) (hb:Binds X.K fd ps [])
  (ha:DA X (e :: es) t) (hg:Gl X cn:=by rfl) (A0:(cn == ("__debug__":Str)) = false:=by decide)
  (he:starEach (e :: es) X.env = (false,eval e X.env) :: starEach es X.env:=by rfl) (lJ:(backTo tK (starEach es X.env)).any (·.1) = false:=by rfl) :
  DE X (.Call (.Name cn p) (e :: es) [] tK) (EA j C S t) :=
 bx (IV M F hr hg hm hb .nil yB ha A0 he lJ) fun σ H Q2 hx=>hx.el fun n δ G Q R h k=>⟨n,δ,G,_,R,h,fun vs G1 H1 ds δ1 R1 s1 d1 ⟨jl,h1⟩ y dy hy N3 ne=>by
  show pE X.K S (.ref y :: (vs ++ [])) _ _ E0
  rw [List.append_nil]
  exact make_core j R1 d1 hy N3 ne h1 fun C' fs G2 H2 s2 R2 q=>by
   have R3:=R2.hide (C:=C') (fs:=fs) (h:=none) (List.getElem?_set_self jl)
   rw [List.set_set] at R3
   exact k _ G2 H2 _ _ R3 (s1.trans s2) (.pt y) (q y fun i b C' fs' e z=>by obtain ⟨dx,bo,g3,_⟩:=R1.sl i _ e; rw [z,hy] at g3; cases g3)⟩
end
end Dl
namespace Dl
open PySem PySem.Spec PyProof.Rows L2
noncomputable def C5 (ms:List Str):Prop:=ms.Pairwise fun a b=>¬ b.cps.toList < a.cps.toList
theorem C6:∀ (l:List Str) (p:Str),risingS p l = true→C5 (p :: l)
 | [],p,_=>List.pairwise_singleton _ _
 | x :: r,p,h=>by
  have h:(!ltCps x.cps.toList p.cps.toList && risingS x r) = true:=h
  rw [Bool.and_eq_true,ltCps_eq] at h
  have h1:¬ x.cps.toList < p.cps.toList:=by simpa using h.1
  have ih:=C6 r x h.2
  refine List.pairwise_cons.mpr ⟨fun y hy=>?_,ih⟩
  rcases List.mem_cons.mp hy with rfl | hy
  ·exact h1
  ·have h2:=(List.pairwise_cons.mp ih).1 y hy
   exact List.le_trans (l₁:=p.cps.toList) (l₂:=x.cps.toList) h1 h2
theorem Lh:∀ {l:List Str},sortedS l = true→C5 l
 | [],_=>.nil
 | x :: r,h=>C6 r x h
noncomputable def kj:RC:=fun ds Q=>match ds with
 | [.lst l]=>∃ ts:List Str,l = ts.map .str∧ts.length < 64∧∀ ms:List Str,ms.Perm ts→C5 ms→Q (.lst (ms.map .str))
 | _=>False
theorem zC:∀ {ss:List Str} {us:List Value},Vals (ss.map V.str) us→StrsAre us ss
 | [],_,.nil=>.nil
 | x :: r,_,.cons h t=>by obtain ⟨k,rfl⟩:=h; exact .cons x k (zC t)
theorem oE:∀ {us:List Value} {ss:List Str},StrsAre us ss→Vals (ss.map V.str) us
 | _,_,.nil=>.nil
 | _,_,.cons n t h=>.cons ⟨t,rfl⟩ (oE h)
theorem aH.Li {K:PySem.W.Frag} {G:Hp}:∀ {vs:List V} {ss:List Str},aH K G vs (ss.map D.str)→vs = ss.map V.str
 | _,[],.nil=>rfl
 | _,x :: r,.cons h t=>by cases h.str_inv; rw [aH.Li t]; rfl
theorem aH.Hq {K:PySem.W.Frag} {G:Hp}:∀ ss:List Str,aH K G (ss.map V.str) (ss.map D.str)
 | []=>.nil
 | x :: r=>.cons (.str x) (aH.Hq r)
section
variable {X:Cx} {e:Expr} {es:List Expr} {t:lK} {p pos:Pos}
noncomputable def C7 (K:PySem.W.Frag):List V→Hp→VK→Prop:=fun xs H Q=>∃ (p:Addr) (ts:List Str),xs = [.ref p]∧gG K H p (ts.map V.str)∧ts.length < 64 ∧
 ∀ ms:List Str,ms.Perm ts→C5 ms→∀ l,H l = none→Q (.ref l) (upd H l (.lst (ms.map V.str)))
theorem zD:dq X (.builtin "sorted") (C7 X.K):=by
 rintro pins s σ H xs us Q I r ⟨p,ts,rfl,hq,AI,q⟩
 obtain ⟨u,rfl,ru⟩:=r.one
 cases ru
 obtain ⟨its,rv,pl,hz⟩:=I.list hq
 have hi:=zC rv
 have el:=rv.length
 rw [List.length_map] at el
 refine sorted_strs pl.isList hi (by omega) fun out ms a1 a2 a3=>?_
 obtain ⟨n,he⟩:=sortedAll_at s.heap its out
 have lm:=a2.length_eq
 refine ⟨.ref _,_,I.laid (a:=s.heap.objs.size + 1) (o:=.lst (ms.map V.str)) (t':=s.toks) (fun _ _=>sortedAll_old) (Nat.le_succ _) ⟨?_,out.toList,n,oE a1,?_⟩,rfl,q ms a2 (Lh a3) _ (I.bE.fresh (Nat.le_succ _))⟩
 ·rw [List.length_map,lm]
  exact Nat.le_trans (show ts.length ≤ 64 by omega) (by decide)
 ·rw [he]
theorem EB {K:PySem.W.Frag}:kU K (C7 K) kj:=fun G H xs ds Q Q2 s hd h k=>by
 unfold kj at h
 split at h
 ·obtain ⟨ts,rfl,AI,q⟩:=h
  obtain ⟨v,rfl,d1⟩:=rh hd
  obtain ⟨a,vs,rfl,ha,la⟩:=d1.lst_inv
  rw [aH.Li la] at ha
  exact ⟨a,ts,rfl,s.seq ha,AI,fun ms p1 p2 r hr=>k _ _ _ _ (Ext.laid s hr _) (.lst (gG.of aq) ((aH.Hq ms).up (aC (s.free hr) _))) (q ms p1 p2)⟩
 ·exact h.elim
theorem ml (hm:X.mg "sorted" = none) (ha:DA X (e :: es) t) (hg:Gl X "sorted":=by rfl) (he:starEach (e :: es) X.env = (false,eval e X.env) :: starEach es X.env:=by rfl) (lJ:(backTo pos (starEach es X.env)).any (·.1) = false:=by rfl):DE X (.Call (.Name "sorted" p) (e :: es) [] pos) (ay kj t) :=
 jx zD EB hm (by rfl) ha hg (by decide) (by decide) he lJ
end
noncomputable def Lj (a:Str) (δ:Ev) (Q:QE):D→Prop
 | .str b=>∃ i rest,Builtin.Str.occurrences a b 0 a.length 1 = i :: rest∧Q (.int (i:Nat)) δ
 | _=>False
noncomputable def Hr (ta tb:cx):cx:=fun δ Q=>ta δ fun x δ1=>match x with
 | .str a=>tb δ1 fun y δ2=>Lj a δ2 Q y
 | _=>False
section
variable {X:Cx} {a b:Expr} {ta tb:cx} {ap cp:Pos}
theorem EC:Zo X "str.index" (fun x xs H Q=>∃ y z,x = .str y∧xs = [.str z]∧∃ i rest,Builtin.Str.occurrences y z 0 y.length 1 = i :: rest∧Q (.int (i:Nat)) H):=by
 rintro pins s σ H x xs v us Q I rx rs ⟨y,z,rfl,rfl,i,rest,ho,q⟩
 obtain ⟨t,rfl⟩:=rx
 obtain ⟨u,rfl,t2,rfl⟩:=rs.one
 exact SC.index ho ⟨.int _,H,I.tok _,⟨_,rfl⟩,q⟩
theorem J4 (he:DE X a ta) (hb:DE X b tb) (lU:attributeBase a "index" X.env (eval a X.env) = eval a X.env:=by rfl)
  (tL:((backTo cp (starEach [b] X.env)).all (fun x=>!x.1) && (backToKw cp (keywordEach [] X.env)).all (fun x=>x.1.isSome)
   && decide ([b].length + ([]:List Keyword).length + (if ([]:List Keyword).isEmpty then 0 else 1) < 30)) = true:=by rfl)
  (lV:(ap.endLine == cp.line) = true:=by rfl) (ym:starEach [b] X.env = (false,eval b X.env) :: starEach [] X.env:=by rfl) (oq:(backTo cp (starEach [] X.env)).any (·.1) = false:=by rfl) :
  DE X (.Call (.Attribute a "index" ap) [b] [] cp) (Hr ta tb) :=
 bx (FH PySem.F.plainAttrs_str PySem.F.slot_str_index PySem.F.type_str_index EC he (jX hb oo ym) lU tL lV ym oq) fun σ H Q2 ⟨m,δ,G,Q,R,h,k⟩ =>
  ⟨m,δ,G,_,R,h,fun v G1 H1 d δ1 R1 s1 d1 h1=>by
   cases d with
   | str y =>
    cases d1.str_inv
    refine ⟨rfl,m,δ1,G1,_,R1,h1,fun w G2 H2 f δ2 R2 s2 d2 h2=>?_⟩
    cases f with
    | str z=>cases d2.str_inv; obtain ⟨i,rest,ho,h2⟩:=h2; exact ⟨y,z,rfl,rfl,i,rest,ho,k _ G2 H2 _ δ2 R2 (s1.trans s2) (.int _) h2⟩
    | _=>exact h2.elim
   | _=>exact h1.elim⟩
end
section
variable {prog:Program} {w:World} {A:Around} {E:Value→Shared→Prop} {s:Shared} {KK:Type} [DecidableEq KK] {knd:PySem.KeyKind prog w KK}
theorem xG {d:Addr} {kvs:List (KK × Value)} {ep:Nat} {Q:List Value→Shared→Prop} (hh:A.handled = none) (lo:(d == sysModules) = false) (hm:s.heap.DictAt knd d kvs ep) (hn:kvs.length ≤ sizeLine)
  (hQ:∀ h' tk (vals:List Value),(∀ b o,s.heap.get? b = some o→h'.get? b = some o)→vals.length = kvs.length→(∀ (j:Nat) (v:Value),vals[j]? = some v→∃ (k:KK) (x:Value),kvs[j]? = some (k,x)∧knd.is k v = true)→s.heap.objs.size < h'.objs.size→Q vals { s with heap:=h',toks:=tk }) :
  wpAny (model prog w) A (collect (.ref d)) Q E s:=by
 have lt:=hm.lt_size
 unfold collect
 refine wpAny_bind (wpAny_runValue (codeAny_builtin PySem.F.entry_proto_collect ?_))
 rw [Around.under_plainId PySem.F.plain_proto_collect _]
 show wpAny _ A.in1 (newList [] >>= fun l'=>again (.builtin "list.__iadd__" ⟨[l',.ref d],[]⟩)) _ _ s
 refine wpAny_bind (wpAny_newObj_type (wpAny_pure ⟨plainId_quiet PySem.F.plain_list_iadd _,codeAny_builtin PySem.F.entry_list_iadd ?_⟩))
 rw [Around.under_plainId PySem.F.plain_list_iadd _]
 show wpAny _ A.in1 (Builtin.List.listExtendWith (.ref s.heap.objs.size) (.ref d) (.ref s.heap.objs.size)) _ _ _
 have g0:(s.heap.push { cls:=.type "list",data:=.seq ([]:List Value).toArray }).get? s.heap.objs.size = some { cls:=.type "list",data:=.seq #[] 0 }:=Heap.get?_push_size _ rfl
 have k0:∀ b o,s.heap.get? b = some o→(s.heap.push { cls:=.type "list",data:=.seq ([]:List Value).toArray }).get? b = some o:=fun b o e=>Heap.get?_push_of_some _ e
 generalize s.heap.push { cls:=.type "list",data:=.seq ([]:List Value).toArray } = H0 at g0 k0 ⊢
 refine wpAny_mono (PySem.W.kdl_extend (A:=A) (s:={ s with heap:=H0 }) (R:=fun r s'=>match r with
   | .ok (.ret v)=>wpAny (model prog w) A (match v with
    | .ref a=>do
     let z ← load a
     match z.data with
     | .seq xs _=>pure xs.toList
     | _=>unsupported "internal:collect"
    | _=>unsupported "internal:collect") Q E s'
   | .ok _=>False
   | .error e=>E e s') (PySem.W.kdl_dict (knd:=knd) (kvs:=kvs) (ep:=ep) lo) hh (hm.at' fun o e=>k0 _ _ e) s.heap.objs.size (Nat.ne_of_gt lt) (Nat.ne_of_gt lt) (.ref s.heap.objs.size) 0 g0 (fun h' tk acc' c' hk hS J5=>?_) hn) (fun fin s' h=>?_) fun e s' h=>h
 ·refine wpAny_bind (wpAny_load hS (wpAny_pure (hQ h' tk acc'.toList (fun b o e=>hk b o (Nat.ne_of_lt (Heap.lt_size e)) (k0 b o e)) (by rw [Array.length_toList]; exact J5.1) (fun j v e=>J5.2 j v (by rw [← Array.getElem?_toList]; exact e)) (Heap.lt_size hS))))
 ·cases fin <;> exact h
end
section
variable {X:Cx}
noncomputable def J6:List V→Hp→VK→Prop:=fun xs H Q=>∃ (q:Addr) (kvs:List (Key × V)) (ts:List Str),xs = [.ref q]∧H q = some (.dK kvs)∧kvs.map (·.1) = ts.map Sum.inr∧ts.length < 64 ∧
 ∀ ms:List Str,ms.Perm ts→C5 ms→∀ l,H l = none→Q (.ref l) (upd H l (.lst (ms.map V.str)))
theorem we {P:Program} {w:World}:∀ {vals:List Value} {ts:List Str},vals.length = ts.length→(∀ (j:Nat) (v:Value),vals[j]? = some v→∃ x,ts[j]? = some x∧(bz P w).is (.inr x) v = true)→StrsAre vals ts
 | [],[],_,_=>.nil
 | [],_ :: _,h,_=>by simp at h
 | _ :: _,[],h,_=>by simp at h
 | v :: r,x :: ts,hl,h=>by
  obtain ⟨y,e,hy⟩:=h 0 v rfl
  have e:x = y:=by simpa using e
  subst e
  obtain ⟨t,rfl⟩:=(show ∃ t,v = Value.str x t from zw hy)
  exact .cons x t (we (by simpa using hl) fun j v hj=>by simpa using h (j + 1) v (by simpa using hj))
theorem zE (hc:X.calm = true):dq X (.builtin "sorted") J6:=by
 rintro pins s σ H xs us Q I r ⟨q,kvs,ts,rfl,hq,hk,AI,qq⟩
 obtain ⟨u,rfl,ru⟩:=r.one
 cases ru
 obtain ⟨t1,t2,lo⟩:=G6 I (.inl ⟨kvs,.inl hq⟩)
 obtain ⟨z,y,vs,rel,ob,es,ep,eh,c⟩:=I.bE q _ hq
 have da:s.heap.DictAt (bz X.prog X.w) q vs ep:=⟨ob,es,eh,c⟩
 have lk:kvs.length = ts.length:=by have:=congrArg List.length hk; simpa using this
 have lv:vs.length = ts.length:=by rw [← rel.length]; exact lk
 have big:∀ n,n < 64→n ≤ sizeLine:=fun n hn=>Nat.le_trans (Nat.le_of_lt hn) (by decide)
 refine Calls.call_function_entry kind_sorted plain_sorted entry_sorted (args_sorted1 _) ?_
 unfold Builtin.«sorted»
 refine wpAny_bind (m:=checkCount "sorted" 1 1 _) (wpAny_pure (wpAny_bind (xG (by simp [I.ok.hd hc]) lo da (big _ (by omega)) fun h1 tk vals k1 l1 v1 z1=>?_)))
 have ik:StrsAre vals ts:=we (P:=X.prog) (w:=X.w) (by omega) fun j v hj=>by
  obtain ⟨k,x,e1,e2⟩:=v1 j v hj
  obtain ⟨kv,Pp⟩ : ∃ kv,kvs[j]? = some kv:=⟨_,List.getElem?_eq_getElem (by have:=(List.getElem?_eq_some_iff.mp e1).1; omega)⟩
  obtain ⟨p',hp',ek,_⟩:=oC rel Pp
  rw [e1] at hp'
  cases hp'
  have ek:kv.1 = k:=ek
  have:=congrArg (·[j]?) hk
  simp only [List.getElem?_map,Pp,Option.map_some] at this
  cases et:ts[j]? with
  | none=>rw [et] at this; cases this
  | some t0 =>
   rw [et] at this
   have:kv.1 = .inr t0:=by simpa using this
   exact ⟨t0,rfl,by rw [← this,ek]; exact e2⟩
 refine wpAny_bind (wpAny_newList ?_ (big _ (by omega)))
 have E3:(h1.push (seqObj "list" vals.toArray 0)).get? h1.objs.size = some (seqObj "list" vals.toArray 0):=Heap.get?_push_size _ rfl
 show wpAny _ _ _ _ _ { s with heap:=h1.push (seqObj "list" vals.toArray 0),toks:=tk }
 refine wpAny_bind (wpAny_holding (wpAny_call_entry slot_list_sort ⟨_,E3,rfl⟩ entry_list_sort (list_sort_treeK strKind_oneLt E3 ik.keysOf (fun v₁ v₂ rest e=>keyKind_strs (by rw [← e]; exact ik)) (by omega) fun st' hp hs=>⟨_,rfl,?_⟩) (args_list_sort _)))
 obtain ⟨ms,a1,a2,a3⟩:=sorted_out_str ik hp hs
 obtain ⟨n,he⟩:=sortedHeap_at (out:=(arrOf st').map (·.2)) E3
 have lm:=a2.length_eq
 have sz:s.heap.objs.size ≤ h1.objs.size:=Nat.le_of_lt z1
 have kp:∀ b o,s.heap.get? b = some o→(sortedHeap (h1.push (seqObj "list" vals.toArray 0)) h1.objs.size vals ((arrOf st').map (·.2))).get? b = some o:=fun b o z=>by
  have lb:b < h1.objs.size:=Heap.lt_size (k1 b o z)
  rw [sortedHeap_old (Nat.ne_of_lt lb) (by rw [Heap.size_push]; exact Nat.lt_succ_of_lt lb)]
  exact Heap.get?_push_of_some _ (k1 b o z)
 refine wpAny_pure ⟨_,rfl,.ref _,_,I.laid (a:=h1.objs.size) (o:=.lst (ms.map V.str)) (t':=tk) kp sz ⟨?_,_,n,oE a1,?_⟩,rfl,qq ms a2 (Lh a3) _ (I.bE.fresh sz)⟩
 ·rw [List.length_map,lm]; exact big _ AI
 ·rw [he]
noncomputable def xH (C i:Nat) (f:Str):cx:=fun δ Q=>match v9 C i f δ with
 | some l=>∃ ts:List Str,l.map (·.1) = ts.map Sum.inr∧ts.length < 64∧∀ ms:List Str,ms.Perm ts→C5 ms→Q (.lst (ms.map .str)) δ
 | none=>False
theorem ED {K:PySem.W.Frag} {G:Hp} {vs:List (Key × V)} {l:List (Key × D)} (h:eV K G vs l):vs.map (·.1) = l.map (·.1):=by
 induction h with
 | nil=>rfl
 | cons _ _ ih=>rw [List.map_cons,List.map_cons,ih]
theorem Ht {C:Addr} {f:Str} {p pos:Pos} (i:Nat) {x:Str} {np fp:Pos} (hc:X.calm = true) (hm:X.mg "sorted" = none) (c:wU X.K C) (na:eU X.K C f) (hN:X.N[i]? = some x:=by rfl) (hv:rQ X.env.scope x:=by first | exact Or.inl rfl | exact Or.inr (Or.inl rfl) | exact Or.inr (Or.inr rfl))
  (hd:(x == ("__debug__":Str)) = false:=by decide) (om:(x == ("__classdict__":Str)) = false:=by decide) (hb:attributeBase (.Name x np) f X.env (eval (.Name x np) X.env) = eval (.Name x np) X.env:=by rfl)
  (hg:Gl X "sorted":=by rfl) (he:starEach [Expr.Attribute (.Name x np) f fp] X.env = (false,eval (Expr.Attribute (.Name x np) f fp) X.env) :: starEach [] X.env:=by rfl) (lJ:(backTo pos (starEach [] X.env)).any (·.1) = false:=by rfl) :
  DE X (.Call (.Name "sorted" p) [.Attribute (.Name x np) f fp] [] pos) (xH C i f) :=
 bx (tI (zE hc) hg hm (by rfl) (jX (wV (iM hN hv hd om) hb) oo he) (by decide) (by decide) he lJ) fun σ H Q2 hx=>hx.el fun n δ G Q R h k=>by
  unfold xH at h
  split at h
  ·rename_i l el
   obtain ⟨ts,hk,AI,hq⟩:=h
   obtain ⟨h0,fs,e1,e2⟩:=qu el
   obtain ⟨a,dx,bo,q,vs,g1,g2,g3,g4,g5,_⟩:=R.CY e1 e2
   refine ⟨.ref a,g1,a,C,dx,bo,.ref q,rfl,g2,c,na,g3,q,vs,ts,rfl,g4,by rw [ED g5,hk],AI,fun ms p1 p2 r hr=>?_⟩
   exact k _ _ _ _ δ (R.laid hr _) (aC (R.sub.free hr) _) (.lst (gG.of aq) ((aH.Hq ms).up (aC (R.sub.free hr) _))) (hq ms p1 p2)
  ·exact h.elim
end
end Dl
set_option maxRecDepth 100000
namespace Tm
open PySem PyProof.Rows
section
variable (R:Keyed→Nat)
noncomputable def Kr (xs:Array Keyed) (i:Nat):Nat:=match xs[i]? with
 | some p=>R p
 | none=>0
noncomputable def Sr (xs:Array Keyed) (i j:Nat):Prop:=∀ u v,i ≤ u→u ≤ v→v < j→Kr R xs u ≤ Kr R xs v
end
variable {R:Keyed→Nat}
theorem ro {xs ys:Array Keyed} {i j:Nat} (h:xs[i]? = ys[j]?):Kr R xs i = Kr R ys j:=by unfold Kr; rw [h]
theorem nv {xs:Array Keyed} {i j:Nat} (hj:j ≤ xs.size) (k:Nat):Kr R (mirror xs i j ((j - i) / 2)) k = if i ≤ k∧k < j then Kr R xs (i + j - 1 - k) else Kr R xs k:=by
 have e:=getElem?_mirror_all (i:=i) hj k
 split
 ·rename_i h; rw [if_pos h] at e; exact ro e
 ·rename_i h; rw [if_neg h] at e; exact ro e
theorem EE {xs:Array Keyed} {src d:Nat} (hs:src < xs.size) (hd:d ≤ src) (k:Nat):Kr R (bubble xs src d) k = if k = src - d then Kr R xs src else if src - d < k∧k ≤ src then Kr R xs (k - 1) else Kr R xs k:=by
 have e:=getElem?_bubble hs d hd k
 split
 ·rename_i h; rw [if_pos h] at e; exact ro e
 ·rename_i h; rw [if_neg h] at e
  split
  ·rename_i h; rw [if_pos h] at e; exact ro e
  ·rename_i h; rw [if_neg h] at e; exact ro e
theorem oF {xs:Array Keyed} {i j:Nat} (hj:j ≤ xs.size) (he:∀ k,i ≤ k→k < j→Kr R xs k = Kr R xs (j - 1)) (k:Nat):Kr R (mirror xs i j ((j - i) / 2)) k = Kr R xs k:=by
 rw [nv hj]
 split
 ·rw [he _ (by omega) (by omega),he k (by omega) (by omega)]
 ·rfl
structure SB (κ:SortKind) (a₀:Array Keyed) (st:SortSt):Prop where
 pm:(arrOf st).Perm a₀
 kd:kindOf st = κ
 fl:failedOf st = none
noncomputable def C8 (R:Keyed→Nat) (prog:Program) (w:World) (A:Around) (κ:SortKind) (a₀:Array Keyed) (s:Shared):Prop :=
 ∀ x ∈ a₀.toList,∀ y ∈ a₀.toList,wpAny (model prog w) A (keyLt' κ x.1 y.1) (fun b s'=>s' = s∧b = decide (R x < R y)) (fun _ _=>False) s
section
variable {prog:Program} {w:World} {A:Around} {E:Value→Shared→Prop} {s:Shared} {κ:SortKind} {a₀:Array Keyed} {st:SortSt}
theorem SB.size (h:SB κ a₀ st):(arrOf st).size = a₀.size:=h.pm.size_eq
theorem SB.arr (h:SB κ a₀ st) {xs:Array Keyed} (hp:xs.Perm (arrOf st)):SB κ a₀ (setArr st xs):=⟨hp.trans h.pm,h.kd,h.fl⟩
theorem SB.at (h:SB κ a₀ st) {i:Nat} (hi:i < a₀.size):∃ x,(arrOf st)[i]? = some x∧x ∈ a₀.toList∧R x = Kr R (arrOf st) i:=by
 have hi':i < (arrOf st).size:=by rw [h.size]; exact hi
 have e:(arrOf st)[i]? = some (arrOf st)[i]:=getElem?_pos _ i hi'
 refine ⟨_,e,(Array.perm_iff_toList_perm.mp h.pm).mem_iff.mp (by simp),?_⟩
 unfold Kr; rw [e]
theorem w_lt {x y:Keyed} {Q:Option Bool→SortSt→Prop} (C:C8 R prog w A κ a₀ s) (hk:kindOf st = κ) (hx:x ∈ a₀.toList) (hy:y ∈ a₀.toList) (h:Q (some (decide (R x < R y))) st):wpS (model prog w) A E s (lt' x y) Q st:=by
 rw [lt'_eq]
 refine wpS_bind (wpS_get ?_)
 rw [hk]
 refine wpS_bind (wpS_lift (wpAny_attempt (wpAny_mono (C x hx y hy) (fun b s' hb=>?_) fun _ _ z=>z.elim)))
 obtain ⟨rfl,rfl⟩:=hb
 exact ⟨rfl,wpS_pure h⟩
theorem uh {i j:Nat} {Q:Option Bool→SortSt→Prop} (C:C8 R prog w A κ a₀ s) (hB:SB κ a₀ st) (hi:i < a₀.size) (hj:j < a₀.size) (h:Q (some (decide (Kr R (arrOf st) i < Kr R (arrOf st) j))) st):wpS (model prog w) A E s (ltAt' i j) Q st:=by
 obtain ⟨x,ex,mx,rx⟩:=hB.at (R:=R) hi
 obtain ⟨y,ey,my,ry⟩:=hB.at (R:=R) hj
 rw [ltAt'_eq]
 refine wpS_bind (wpS_get ?_)
 show wpS _ _ _ _ (do let x ← elem' (arrOf st) i; let y ← elem' (arrOf st) j; lt' x y) Q st
 rw [elem'_eq,elem'_eq,ex,ey]
 refine wpS_bind (wpS_pure (wpS_bind (wpS_pure (w_lt C hB.kd mx my ?_))))
 rw [rx,ry]; exact h
theorem w_rev {i j:Nat} {Q:Unit→SortSt→Prop} (h:Q () (setArr st (mirror (arrOf st) i j ((j - i) / 2)))):wpS (model prog w) A E s (reverseSlice' i j) Q st:=by
 rw [reverseSlice'_eq]; exact wpS_modify h
noncomputable def J7 (lo a dQ:Nat):StateT SortSt Sem (Option Nat):=do
 let mut q:=a
 for _ in [a:dQ] do
  let some MX ← ltAt' (lo + q) (lo + q - 1) | return none
  if MX then break
  q:=q + 1
 return some q
theorem wg {lo a dQ:Nat} {f:Nat→Option (Option Nat) × Nat→StateT SortSt Sem (ForInStep (Option (Option Nat) × Nat))} {Q:Option (Option Nat) × Nat→SortSt→Prop} (C:C8 R prog w A κ a₀ s) (hB:SB κ a₀ st) (hn:lo + dQ ≤ a₀.size) (h1:1 ≤ a) (ha:a ≤ dQ) (hs:Sr R (arrOf st) lo (lo + a))
  (hf:∀ x n,f x (none,n) = (ltAt' (lo + n) (lo + n - 1) >>= fun y=>match y with
   | some b=>if b = true then pure (ForInStep.done (none,n)) else pure (ForInStep.yield (none,n + 1))
   | none=>pure (ForInStep.done (some none,n))))
  (h:∀ n,a ≤ n→n ≤ dQ→Sr R (arrOf st) lo (lo + n)→(n = dQ∨Kr R (arrOf st) (lo + n) < Kr R (arrOf st) (lo + n - 1))→Q (none,n) st):wpS (model prog w) A E s (forIn [a:dQ] ((none,a):Option (Option Nat) × Nat) f) Q st:=by
 refine wpS_forRange (I:=fun x c st'=>st' = st∧c = (none,x)∧Sr R (arrOf st) lo (lo + x)) ?_ ?_ ⟨rfl,rfl,hs⟩
 ·rintro x c st' TX Rh ⟨rfl,rfl,hs⟩
  rw [hf]
  refine wpS_bind (uh C hB (by omega) (by omega) ?_)
  by_cases hl:Kr R (arrOf st') (lo + x) < Kr R (arrOf st') (lo + x - 1)
  ·simp only [hl,decide_true,if_true]
   exact wpS_pure (h x TX (by omega) hs (.inr hl))
  ·simp only [hl,decide_false,Bool.false_eq_true,if_false]
   refine wpS_pure ⟨rfl,rfl,fun u v h1 h2 h3=>?_⟩
   by_cases hv:v < lo + x
   ·exact hs u v h1 h2 hv
   ·by_cases hu:u = v
    ·subst hu; exact Nat.le_refl _
    ·have e:v = lo + x:=by omega
     subst e
     exact Nat.le_trans (hs u (lo + x - 1) h1 (by omega) (by omega)) (by omega)
 ·rintro c st' ⟨rfl,rfl,hs⟩
  rw [show max a dQ = dQ by omega] at hs ⊢
  exact h dQ ha (Nat.le_refl _) hs (.inl rfl)
theorem MY {lo a dQ:Nat} {Q:Option Nat→SortSt→Prop} (C:C8 R prog w A κ a₀ s) (hB:SB κ a₀ st) (hn:lo + dQ ≤ a₀.size) (h1:1 ≤ a) (ha:a ≤ dQ) (hs:Sr R (arrOf st) lo (lo + a))
  (h:∀ n,a ≤ n→n ≤ dQ→Sr R (arrOf st) lo (lo + n)→Q (some n) st):wpS (model prog w) A E s (J7 lo a dQ) Q st:=by
 unfold J7
 refine wpS_bind (wg C hB hn h1 ha hs (fun x n=>?_) fun n h1 h2 h3 _=>wpS_pure (h n h1 h2 h3))
 dsimp only; congr 1; funext y; cases y <;> rfl
noncomputable def Fl (xs:Array Keyed) (R:Keyed→Nat) (i j:Nat):Prop:=∀ u v,i ≤ u→u ≤ v→v < j→Kr R xs v ≤ Kr R xs u
noncomputable def Lk (lo n dQ:Nat):StateT SortSt Sem (Option Nat):=do
 let _ ← (rule "list.sort.descending-run":Sem Unit)
 let mut q:=n + 1
 let mut e:=0
 for _ in [n + 1:dQ] do
  let some MX ← ltAt' (lo + q) (lo + q - 1) | return none
  if MX then
   if e > 0 then reverseSlice' (lo + q - (e + 1)) (lo + q)
   e:=0
  else
   let some TY ← ltAt' (lo + q - 1) (lo + q) | return none
   if TY then break
   e:=e + 1
  q:=q + 1
 if e > 0 then reverseSlice' (lo + q - (e + 1)) (lo + q)
 reverseSlice' lo (lo + q)
 J7 lo q dQ
theorem C9 {lo n dQ:Nat} {Q:Option Nat→SortSt→Prop} (C:C8 R prog w A κ a₀ s) (hB:SB κ a₀ st) (hn:lo + dQ ≤ a₀.size) (h1:n + 1 ≤ dQ) (hs:Fl (arrOf st) R lo (lo + (n + 1)))
  (h:∀ m xs,SB κ a₀ (setArr st xs)→(∀ k,k < lo→Kr R xs k = Kr R (arrOf st) k)→1 ≤ m→m ≤ dQ→Sr R xs lo (lo + m)→Q (some m) (setArr st xs)):wpS (model prog w) A E s (Lk lo n dQ) Q st:=by
 unfold Lk
 refine wpS_bind (wpS_lift (wpAny_rule ⟨rfl,?_⟩))
 refine wpS_bind (wpS_mono (wpS_forRange (I:=fun x c st'=>∃ e xs,st' = setArr st xs∧c = (none,x,e)∧SB κ a₀ st'∧(∀ k,k < lo→Kr R xs k = Kr R (arrOf st) k)∧Fl xs R lo (lo + x)∧e + 1 ≤ x∧∀ i,lo + x - (e + 1) ≤ i→i < lo + x→Kr R xs i = Kr R xs (lo + x - 1))
  (Q:=fun c st'=>∃ x e xs,st' = setArr st xs∧c = (none,x,e)∧n + 1 ≤ x∧x ≤ dQ∧SB κ a₀ st'∧(∀ k,k < lo→Kr R xs k = Kr R (arrOf st) k)∧Fl xs R lo (lo + x)∧e + 1 ≤ x∧∀ i,lo + x - (e + 1) ≤ i→i < lo + x→Kr R xs i = Kr R xs (lo + x - 1)) ?_ ?_ ?_) ?_)
 ·rintro x c st' TX Rh ⟨e,xs,rfl,rfl,hB',hk,hf,he,heq⟩
  dsimp only
  have hsz:lo + x ≤ xs.size:=by have z:xs.size = a₀.size:=hB'.size; omega
  refine wpS_bind (uh C hB' (by omega) (by omega) ?_)
  by_cases hl:Kr R xs (lo + x) < Kr R xs (lo + x - 1)
  ·have TZ:∀ ys:Array Keyed,(∀ k,Kr R ys k = Kr R xs k)→Fl ys R lo (lo + (x + 1)):=fun ys hy u v u1 u2 u3=>by
    rw [hy,hy]
    by_cases hv:v < lo + x
    ·exact hf u v u1 u2 hv
    ·by_cases hu:u = v
     ·subst hu; exact Nat.le_refl _
     ·have e:v = lo + x:=by omega
      subst e
      exact Nat.le_trans (Nat.le_of_lt hl) (hf u (lo + x - 1) u1 (by omega) (by omega))
   simp only [hl,decide_true,if_true]
   by_cases hq:e > 0
   ·rw [if_pos hq]
    have hm:=oF (i:=lo + x - (e + 1)) hsz heq
    refine wpS_bind (w_rev (wpS_pure ⟨0,_,rfl,rfl,hB'.arr (mirror_perm _ _ _ _),fun k hk'=>(hm k).trans (hk k hk'),TZ _ hm,by omega,fun i i1 i2=>by congr 1; omega⟩))
   ·rw [if_neg hq]
    exact wpS_pure ⟨0,xs,rfl,rfl,hB',hk,TZ _ fun _=>rfl,by omega,fun i i1 i2=>by congr 1; omega⟩
  ·simp only [hl,decide_false,Bool.false_eq_true,if_false]
   refine wpS_bind (uh C hB' (by omega) (by omega) ?_)
   by_cases hg:Kr R xs (lo + x - 1) < Kr R xs (lo + x)
   ·simp only [hg,decide_true,if_true]
    exact wpS_pure ⟨x,e,xs,rfl,rfl,TX,by omega,hB',hk,hf,he,heq⟩
   ·simp only [hg,decide_false,Bool.false_eq_true,if_false]
    have ex:Kr R xs (lo + x) = Kr R xs (lo + x - 1):=by omega
    refine wpS_pure ⟨e + 1,xs,rfl,rfl,hB',hk,fun u v u1 u2 u3=>?_,by omega,fun i i1 i2=>?_⟩
    ·by_cases hv:v < lo + x
     ·exact hf u v u1 u2 hv
     ·by_cases hu:u = v
      ·subst hu; exact Nat.le_refl _
      ·have e:v = lo + x:=by omega
       subst e
       rw [ex]; exact hf u (lo + x - 1) u1 (by omega) (by omega)
    ·rw [show lo + (x + 1) - 1 = lo + x by omega]
     by_cases hi:i = lo + x
     ·subst hi; rfl
     ·rw [ex]; exact heq i (by omega) (by omega)
 ·rintro c st' ⟨e,xs,rfl,rfl,hB',hk,hf,he,heq⟩
  rw [show max (n + 1) dQ = dQ by omega] at *
  exact ⟨dQ,e,xs,rfl,rfl,h1,Nat.le_refl _,hB',hk,hf,he,heq⟩
 ·exact ⟨0,arrOf st,rfl,rfl,hB,fun _ _=>rfl,hs,by omega,fun i i1 i2=>by congr 1; omega⟩
 ·rintro c st' ⟨x,e,xs,rfl,rfl,x1,x2,hB',hk,hf,he,heq⟩
  dsimp only
  have hsz:lo + x ≤ xs.size:=by have z:xs.size = a₀.size:=hB'.size; omega
  have fin:∀ ys:Array Keyed,SB κ a₀ (setArr st ys)→(∀ k,Kr R ys k = Kr R xs k)→wpS (model prog w) A E s (do reverseSlice' lo (lo + x); J7 lo x dQ) Q (setArr st ys):=fun ys Ri hy=>by
   have hz:lo + x ≤ ys.size:=by have z:ys.size = a₀.size:=Ri.size; omega
   refine wpS_bind (w_rev ?_)
   have ZD:=Ri.arr (mirror_perm (arrOf (setArr st ys)) lo (lo + x) ((lo + x - lo) / 2))
   have sr:Sr R (mirror ys lo (lo + x) ((lo + x - lo) / 2)) lo (lo + x):=fun u v u1 u2 u3=>by
    rw [nv hz,nv hz,if_pos (by omega),if_pos (by omega),hy,hy]
    exact hf _ _ (by omega) (by omega) (by omega)
   refine MY C ZD hn (by omega) x2 sr fun m m1 m2 m3=>h m _ ZD (fun k hk'=>?_) (by omega) m2 m3
   show Kr R (mirror ys lo (lo + x) ((lo + x - lo) / 2)) k = _
   rw [nv hz,if_neg (by omega),hy]; exact hk k hk'
  by_cases hq:e > 0
  ·rw [if_pos hq]
   exact wpS_bind (w_rev (fin _ (hB'.arr (mirror_perm _ _ _ _)) (oF hsz heq)))
  ·rw [if_neg hq]
   exact fin xs hB' fun _=>rfl
theorem w_count {lo dQ:Nat} {Q:Option Nat→SortSt→Prop} (C:C8 R prog w A κ a₀ s) (hB:SB κ a₀ st) (hn:lo + dQ ≤ a₀.size) (h1:1 ≤ dQ)
  (h:∀ m xs,SB κ a₀ (setArr st xs)→(∀ k,k < lo→Kr R xs k = Kr R (arrOf st) k)→1 ≤ m→m ≤ dQ→Sr R xs lo (lo + m)→Q (some m) (setArr st xs)):wpS (model prog w) A E s (countRun' lo dQ) Q st:=by
 rw [countRun'_eq]
 refine wpS_bind (wg C hB hn (Nat.le_refl 1) h1 (fun u v u1 u2 u3 => by have : u = v := (by omega); subst this; exact Nat.le_refl _) (fun x n=>?_) fun n n1 n2 hs hor=>?_)
 ·dsimp only; congr 1; funext y; cases y <;> rfl
 dsimp only
 by_cases T1:n = dQ
 ·rw [if_pos (by simpa using T1)]
  exact wpS_pure (h n _ hB (fun _ _=>rfl) n1 n2 hs)
 ·rw [if_neg (by simpa using T1)]
  have xw:=hor.resolve_left T1
  by_cases ZE:n > 1
  ·rw [if_pos ZE]
   refine wpS_bind (uh C hB (by omega) (by omega) ?_)
   by_cases hr:Kr R (arrOf st) lo < Kr R (arrOf st) (lo + n - 1)
   ·simp only [hr,decide_true,if_true]
    exact wpS_pure (h n _ hB (fun _ _=>rfl) n1 n2 hs)
   ·simp only [hr,decide_false,Bool.false_eq_true,if_false]
    have hsz:lo + n ≤ (arrOf st).size:=by rw [hB.size]; omega
    have D4:∀ k,lo ≤ k→k < lo + n→Kr R (arrOf st) k = Kr R (arrOf st) (lo + n - 1):=fun k k1 k2=>by
     have a1:=hs lo k (Nat.le_refl _) k1 k2
     have a2:=hs k (lo + n - 1) k1 (by omega) (by omega)
     omega
    have hm:=oF hsz D4
    refine wpS_bind (w_rev ?_)
    refine C9 C (hB.arr (mirror_perm _ _ _ _)) hn (by omega) (fun u v u1 u2 u3=>?_) fun m xs b1 b2 b3 b4 b5=>h m xs b1 (fun k hk=>(b2 k hk).trans (hm k)) b3 b4 b5
    show Kr R (mirror (arrOf st) lo (lo + n) ((lo + n - lo) / 2)) v ≤ Kr R (mirror (arrOf st) lo (lo + n) ((lo + n - lo) / 2)) u
    rw [hm,hm]
    by_cases hv:v < lo + n
    ·rw [D4 u u1 (by omega),D4 v (by omega) hv]; exact Nat.le_refl _
    ·by_cases hu:u = v
     ·subst hu; exact Nat.le_refl _
     ·have e:v = lo + n:=by omega
      subst e
      rw [D4 u u1 (by omega)]; exact Nat.le_of_lt xw
  ·rw [if_neg ZE]
   have e:n = 1:=by omega
   subst e
   refine C9 C hB hn (by omega) (fun u v u1 u2 u3=>?_) h
   by_cases hu:u = v
   ·subst hu; exact Nat.le_refl _
   ·have e1:u = lo:=by omega
    have e2:v = lo + 1:=by omega
    subst e1 e2
    exact Nat.le_of_lt xw
end
end Tm
namespace Tm
open PySem PyProof.Rows
section
variable {R:Keyed→Nat} {prog:Program} {w:World} {A:Around} {E:Value→Shared→Prop} {s:Shared} {κ:SortKind} {a₀:Array Keyed} {st:SortSt}
theorem Pw {lo n ok:Nat} {Q:Bool→SortSt→Prop} (C:C8 R prog w A κ a₀ s) (hB:SB κ a₀ st) (hn:lo + n ≤ a₀.size) (bE:ok ≤ n) (h1:1 ≤ n) (hs:Sr R (arrOf st) lo (lo + ok))
  (h:∀ xs,SB κ a₀ (setArr st xs)→(∀ k,k < lo→Kr R xs k = Kr R (arrOf st) k)→Sr R xs lo (lo + n)→Q true (setArr st xs)):wpS (model prog w) A E s (binarySort' lo n ok) Q st:=by
 rw [binarySort'_eq]
 refine wpS_bind (wpS_mono (wpS_forRange (I:=fun k c st'=>c = (none,())∧∃ xs,st' = setArr st xs∧SB κ a₀ st'∧(∀ k,k < lo→Kr R xs k = Kr R (arrOf st) k)∧Sr R xs lo (lo + min k n))
  (Q:=fun c st'=>c = (none,())∧∃ xs,st' = setArr st xs∧SB κ a₀ st'∧(∀ k,k < lo→Kr R xs k = Kr R (arrOf st) k)∧Sr R xs lo (lo + n)) ?_ ?_ ?_) ?_)
 ·rintro k c st' hak hkn ⟨rfl,xs,rfl,hB',hk,hs'⟩
  rw [show min k n = k by omega] at hs'
  have zs:xs.size = a₀.size:=hB'.size
  refine wpS_bind (wpS_mono (wpS_forRange (I:=fun x c st''=>st'' = setArr st xs∧∃ l r,c = (none,l,r)∧l ≤ r∧r ≤ k∧r - l ≤ k - x∧(∀ i,i < l→Kr R xs (lo + i) ≤ Kr R xs (lo + k))∧(∀ i,r ≤ i→i < k→Kr R xs (lo + k) < Kr R xs (lo + i)))
   (Q:=fun c st''=>st'' = setArr st xs∧∃ l r,c = (none,l,r)∧l ≤ k∧(∀ i,i < l→Kr R xs (lo + i) ≤ Kr R xs (lo + k))∧(∀ i,l ≤ i→i < k→Kr R xs (lo + k) < Kr R xs (lo + i))) ?_ ?_ ?_) ?_)
  ·rintro x c st'' _ hxk ⟨rfl,l,r,rfl,hlr,T2,hm,Iw,N9⟩
   dsimp only
   by_cases Dc:l ≥ r
   ·rw [if_pos Dc]
    obtain rfl : l = r:=by omega
    exact wpS_pure ⟨rfl,l,l,rfl,T2,Iw,N9⟩
   ·rw [if_neg Dc]
    refine wpS_bind (uh C hB' (by omega) (by omega) ?_)
    by_cases hl:Kr R xs (lo + k) < Kr R xs (lo + (l + r) / 2)
    ·simp only [hl,decide_true,if_true]
     refine wpS_pure ⟨rfl,l,(l + r) / 2,rfl,by omega,by omega,by omega,Iw,fun i i1 i2=>?_⟩
     exact Nat.lt_of_lt_of_le hl (hs' _ _ (by omega) (by omega) (by omega))
    ·simp only [hl,decide_false,Bool.false_eq_true,if_false]
     refine wpS_pure ⟨rfl,(l + r) / 2 + 1,r,rfl,by omega,by omega,by omega,fun i i1=>?_,N9⟩
     exact Nat.le_trans (hs' (lo + i) (lo + (l + r) / 2) (by omega) (by omega) (by omega)) (by omega)
  ·rintro c st'' ⟨rfl,l,r,rfl,hlr,T2,hm,Iw,N9⟩
   obtain rfl : l = r:=by omega
   exact ⟨rfl,l,l,rfl,T2,Iw,N9⟩
  ·exact ⟨rfl,0,k,rfl,by omega,by omega,by omega,fun i hi=>by omega,fun i i1 i2=>by omega⟩
  ·rintro c st'' ⟨rfl,l,r,rfl,hlk,Iw,N9⟩
   dsimp only
   rw [moveDown'_eq]
   have kb:=fun k'=>EE (R:=R) (xs:=xs) (src:=lo + k) (d:=lo + k - (lo + l)) (by omega) (by omega) k'
   refine wpS_bind (wpS_modify (wpS_pure ⟨rfl,_,rfl,hB'.arr (bubble_perm _ _ _),fun k' hk'=>?_,?_⟩))
   ·refine (kb k').trans ?_
    rw [if_neg (by omega),if_neg (by omega)]; exact hk k' hk'
   ·rw [show min (k + 1) n = k + 1 by omega]
    intro u v u1 u2 u3
    show Kr R (bubble xs (lo + k) (lo + k - (lo + l))) u ≤ Kr R (bubble xs (lo + k) (lo + k - (lo + l))) v
    rw [kb,kb,show lo + k - (lo + k - (lo + l)) = lo + l by omega]
    have lo':∀ i,lo ≤ i→i < lo + l→Kr R xs i ≤ Kr R xs (lo + k):=fun i i1 i2=>by have:=Iw (i - lo) (by omega); rwa [show lo + (i - lo) = i by omega] at this
    have hi':∀ i,lo + l ≤ i→i < lo + k→Kr R xs (lo + k) ≤ Kr R xs i:=fun i i1 i2=>by have:=N9 (i - lo) (by omega) (by omega); rw [show lo + (i - lo) = i by omega] at this; exact Nat.le_of_lt this
    repeat' split
    all_goals first
     | (exfalso; omega)
     | exact Nat.le_refl _
     | exact lo' _ (by omega) (by omega)
     | exact hi' _ (by omega) (by omega)
     | exact hs' _ _ (by omega) (by omega) (by omega)
 ·rintro c st' ⟨rfl,xs,rfl,hB',hk,hs'⟩
  rw [show min (max (max ok 1) n) n = n by omega] at hs'
  exact ⟨rfl,xs,rfl,hB',hk,hs'⟩
 ·refine ⟨rfl,_,rfl,hB,fun _ _=>rfl,fun u v u1 u2 u3=>?_⟩
  by_cases e:ok = 0
  ·have:u = v:=by omega
   subst this; exact Nat.le_refl _
  ·exact hs u v u1 u2 (by omega)
 ·rintro c st' ⟨rfl,xs,rfl,hB',hk,hs'⟩
  exact wpS_pure (h xs hB' hk hs')
noncomputable def gal':Bool→Keyed→Array Keyed→Nat→Nat→Nat→StateT SortSt Sem (Option Nat):=sortPriv% PySem.Builtin.gallop
theorem MZ (left:Bool) (key:Keyed) (arr:Array Keyed) (base n hint:Nat):gal' left key arr base n hint = (do
 let nE (i:Nat):StateT SortSt Sem (Option Bool):=do
  let x ← elem' arr (base + i)
  if left then lt' x key else return (← lt' key x).map (!·)
 let mut last:=0
 let mut E7:=1
 let mut lo:=0
 let mut hi:=0
 let some right ← nE hint | return none
 if right then
  let mx:=n - hint
  for _ in [0:n] do
   if E7 ≥ mx then break
   let some more ← nE (hint + E7) | return none
   if !more then break
   last:=E7
   E7:=2 * E7 + 1
  lo:=hint + last + 1
  hi:=hint + min E7 mx
 else
  let mx:=hint + 1
  for _ in [0:n] do
   if E7 ≥ mx then break
   let some found ← nE (hint - E7) | return none
   if found then break
   last:=E7
   E7:=2 * E7 + 1
  lo:=hint + 1 - min E7 mx
  hi:=hint - last
 for _ in [0:n] do
  if lo ≥ hi then break
  let m:=lo + (hi - lo) / 2
  let some more ← nE m | return none
  if more then lo:=m + 1 else hi:=m
 return some hi):=rfl
noncomputable def nE (R:Keyed→Nat) (left:Bool) (key:Keyed) (x:Nat):Bool:=if left then decide (x < R key) else !decide (R key < x)
theorem wj {left:Bool} {key:Keyed} {arr:Array Keyed} {b n hint:Nat} {Q:Option Nat→SortSt→Prop} (C:C8 R prog w A κ a₀ s) (hk:kindOf st = κ) (hx:key ∈ a₀.toList) (ha:∀ x ∈ arr.toList,x ∈ a₀.toList) (hn:b + n ≤ arr.size) (hh:hint < n) (hs:Sr R arr b (b + n))
  (h:∀ k,k ≤ n→(∀ i,i < k→nE R left key (Kr R arr (b + i)) = true)→(∀ i,k ≤ i→i < n→nE R left key (Kr R arr (b + i)) = false)→Q (some k) st):wpS (model prog w) A E s (gal' left key arr b n hint) Q st:=by
 rw [MZ]
 have ask:∀ {Q:Option Bool→SortSt→Prop} (i:Nat),i < n→Q (some (nE R left key (Kr R arr (b + i)))) st→wpS (model prog w) A E s (do
   let x ← elem' arr (b + i)
   if left = true then lt' x key else return (← lt' key x).map (!·)) Q st:=by
  intro Q i hi q
  have hl:b + i < arr.size:=by omega
  have e:arr[b + i]? = some (arr[b + i]'hl):=getElem?_pos arr (b + i) hl
  have er:Kr R arr (b + i) = R (arr[b + i]'hl):=by unfold Kr; rw [e]
  have me:arr[b + i]'hl ∈ a₀.toList:=ha _ (by simp)
  rw [elem'_eq,e]
  refine wpS_bind (wpS_pure ?_)
  rw [er] at q
  cases left with
  | true=>exact w_lt C hk me hx q
  | false=>exact wpS_bind (w_lt C hk hx me (wpS_pure q))
 have mono:∀ i j,i ≤ j→j < n→nE R left key (Kr R arr (b + j)) = true→nE R left key (Kr R arr (b + i)) = true:=fun i j ij jn q=>by
  have:=hs (b + i) (b + j) (by omega) (by omega) (by omega)
  unfold nE at *
  cases left <;> simp at * <;> omega
 generalize hP:(fun i=>nE R left key (Kr R arr (b + i))) = P at *
 have hP':∀ i,nE R left key (Kr R arr (b + i)) = P i:=fun i=>by rw [← hP]
 simp only [hP'] at *
 have last:∀ (lo hi:Nat) (f:Nat→Option (Option Nat) × Nat × Nat→StateT SortSt Sem (ForInStep (Option (Option Nat) × Nat × Nat))) (g:Option (Option Nat) × Nat × Nat→StateT SortSt Sem (Option Nat)),lo ≤ hi→hi ≤ n→(∀ i,i < lo→P i = true)→(∀ i,hi ≤ i→i < n→P i = false) →
   (∀ x lo hi,f x (none,lo,hi) = if lo ≥ hi then pure (ForInStep.done (none,lo,hi)) else ((do
      let x ← elem' arr (b + (lo + (hi - lo) / 2))
      if left = true then lt' x key else return (← lt' key x).map (!·)) >>= fun y=>match y with
     | some m=>if m = true then pure (ForInStep.yield (none,lo + (hi - lo) / 2 + 1,hi)) else pure (ForInStep.yield (none,lo,lo + (hi - lo) / 2))
     | none=>pure (ForInStep.done (some none,lo,hi))))→(∀ lo hi,g (none,lo,hi) = pure (some hi))→wpS (model prog w) A E s (forIn [0:n] ((none,lo,hi):Option (Option Nat) × Nat × Nat) f >>= g) Q st:=by
  intro lo hi f g l1 l2 l3 l4 hf hg
  refine wpS_bind (wpS_mono (wpS_forRange (I:=fun x c st'=>st' = st∧∃ lo hi,c = (none,lo,hi)∧lo ≤ hi∧hi ≤ n∧hi - lo ≤ n - x∧(∀ i,i < lo→P i = true)∧(∀ i,hi ≤ i→i < n→P i = false)) (Q:=fun c st'=>st' = st∧∃ lo hi,c = (none,lo,hi)∧hi ≤ n∧(∀ i,i < hi→P i = true)∧(∀ i,hi ≤ i→i < n→P i = false)) ?_ ?_ ?_) ?_)
  ·rintro x c st' _ Rh ⟨rfl,lo,hi,rfl,m1,m2,m3,m4,m5⟩
   rw [hf]
   by_cases Dc:lo ≥ hi
   ·rw [if_pos Dc]
    obtain rfl : lo = hi:=by omega
    exact wpS_pure ⟨rfl,lo,lo,rfl,m2,m4,m5⟩
   ·rw [if_neg Dc]
    refine wpS_bind (ask _ (by omega) ?_)
    cases q:P (lo + (hi - lo) / 2) with
    | true=>exact wpS_pure ⟨rfl,_,hi,rfl,by omega,m2,by omega,fun i hi'=>mono i _ (by omega) (by omega) q,m5⟩
    | false =>
     refine wpS_pure ⟨rfl,lo,_,rfl,by omega,by omega,by omega,m4,fun i i1 i2=>?_⟩
     cases z:P i with
     | false=>rfl
     | true=>have:=mono _ i i1 i2 z; rw [q] at this; cases this
  ·rintro c st' ⟨rfl,lo,hi,rfl,m1,m2,m3,m4,m5⟩
   obtain rfl : lo = hi:=by omega
   exact ⟨rfl,lo,lo,rfl,m2,m4,m5⟩
  ·exact ⟨rfl,lo,hi,rfl,l1,l2,by omega,l3,l4⟩
  ·rintro c st' ⟨rfl,lo,hi,rfl,m2,m4,m5⟩
   rw [hg]
   exact wpS_pure (h hi m2 m4 m5)
 refine wpS_bind (ask hint hh ?_)
 cases q0:P hint with
 | true =>
  dsimp only
  rw [if_pos rfl]
  refine wpS_bind (wpS_mono (wpS_forRange (I:=fun x c st'=>st' = st∧∃ l o,c = (none,l,o)∧l < o∧x + 1 ≤ o∧hint + l < n∧P (hint + l) = true) (Q:=fun c st'=>st' = st∧∃ l o,c = (none,l,o)∧l < o∧hint + l < n∧P (hint + l) = true∧(∀ i,hint + min o (n - hint) ≤ i→i < n→P i = false)) ?_ ?_ ?_) ?_)
  ·rintro x c st' _ Rh ⟨rfl,l,o,rfl,m1,m2,m3,m4⟩
   dsimp only
   by_cases Dc:o ≥ n - hint
   ·rw [if_pos Dc]
    exact wpS_pure ⟨rfl,l,o,rfl,m1,m3,m4,fun i i1 i2=>by omega⟩
   ·rw [if_neg Dc]
    refine wpS_bind (ask _ (by omega) ?_)
    cases q:P (hint + o) with
    | true=>exact wpS_pure ⟨rfl,o,_,rfl,by omega,by omega,by omega,q⟩
    | false =>
     refine wpS_pure ⟨rfl,l,o,rfl,m1,m3,m4,fun i i1 i2=>?_⟩
     cases z:P i with
     | false=>rfl
     | true=>have:=mono (hint + o) i (by omega) i2 z; rw [q] at this; cases this
  ·rintro c st' ⟨rfl,l,o,rfl,m1,m2,m3,m4⟩
   exact ⟨rfl,l,o,rfl,m1,m3,m4,fun i i1 i2=>by omega⟩
  ·exact ⟨rfl,0,1,rfl,by omega,by omega,by omega,q0⟩
  ·rintro c st' ⟨rfl,l,o,rfl,m1,m3,m4,m5⟩
   refine last (hint + l + 1) (hint + min o (n - hint)) _ _ (by omega) (by omega) (fun i hi=>mono i (hint + l) (by omega) m3 m4) m5 (fun x lo hi=>?_) fun lo hi=>rfl
   dsimp only; first | rfl | (split; rfl; congr 1; funext y; cases y <;> rfl)
 | false =>
  dsimp only
  rw [if_neg (by simp)]
  refine wpS_bind (wpS_mono (wpS_forRange (I:=fun x c st'=>st' = st∧∃ l o,c = (none,l,o)∧l < o∧x + 1 ≤ o∧l ≤ hint∧P (hint - l) = false) (Q:=fun c st'=>st' = st∧∃ l o,c = (none,l,o)∧l < o∧l ≤ hint∧P (hint - l) = false∧(∀ i,i < hint + 1 - min o (hint + 1)→P i = true)) ?_ ?_ ?_) ?_)
  ·rintro x c st' _ Rh ⟨rfl,l,o,rfl,m1,m2,m3,m4⟩
   dsimp only
   by_cases Dc:o ≥ hint + 1
   ·rw [if_pos Dc]
    exact wpS_pure ⟨rfl,l,o,rfl,m1,m3,m4,fun i i1=>by omega⟩
   ·rw [if_neg Dc]
    refine wpS_bind (ask _ (by omega) ?_)
    cases q:P (hint - o) with
    | false=>exact wpS_pure ⟨rfl,o,_,rfl,by omega,by omega,by omega,q⟩
    | true=>exact wpS_pure ⟨rfl,l,o,rfl,m1,m3,m4,fun i i1=>mono i _ (by omega) (by omega) q⟩
  ·rintro c st' ⟨rfl,l,o,rfl,m1,m2,m3,m4⟩
   exact ⟨rfl,l,o,rfl,m1,m3,m4,fun i i1=>by omega⟩
  ·exact ⟨rfl,0,1,rfl,by omega,by omega,by omega,q0⟩
  ·rintro c st' ⟨rfl,l,o,rfl,m1,m3,m4,m5⟩
   refine last (hint + 1 - min o (hint + 1)) (hint - l) _ _ (by omega) (by omega) m5 (fun i i1 i2=>?_) (fun x lo hi=>by dsimp only; first | rfl | (split; rfl; congr 1; funext y; cases y <;> rfl)) fun lo hi=>rfl
   cases z:P i with
   | false=>rfl
   | true=>have:=mono (hint - l) i i1 i2 z; rw [m4] at this; cases this
end
end Tm
namespace Tm
open PySem PyProof.Rows
section
variable {R:Keyed→Nat}
noncomputable abbrev PW (R:Keyed→Nat) (l:List Keyed):Prop:=l.Pairwise fun x y=>R x ≤ R y
theorem dA {x:Array Keyed} {i:Nat} (h:i < x.size):Kr R x i = R x[i]:=by unfold Kr; rw [getElem?_pos x i h]
theorem PW.le {x:Array Keyed} (h:PW R x.toList) {i j:Nat} (Ll:i ≤ j) (hj:j < x.size):Kr R x i ≤ Kr R x j:=by
 by_cases e:i = j
 ·subst e; exact Nat.le_refl _
 ·rw [dA (by omega),dA hj]
  exact (List.pairwise_iff_getElem.mp h) i j (by simpa using (by omega:i < x.size)) (by simpa using hj) (by omega)
theorem PW.sr {x:Array Keyed} (h:PW R x.toList) (i j:Nat) (hj:j ≤ x.size):Sr R x i j:=fun u v h1 h2 h3=>h.le h2 (by omega)
theorem Lm {x:Array Keyed} (h:Sr R x 0 x.size):PW R x.toList:=by
 rw [PW,List.pairwise_iff_getElem]
 intro i j hi hj Ll
 have hi':i < x.size:=by simpa using hi
 have hj':j < x.size:=by simpa using hj
 have:=h i j (Nat.zero_le _) (by omega) hj'
 rw [dA hi',dA hj'] at this
 exact this
theorem dD (x:Array Keyed) (i j:Nat):(x.extract i j).toList = (x.toList.drop i).take (j - i):=by
 rw [Array.toList_extract,List.extract_eq_drop_take]
theorem pK {x:Array Keyed} {i j:Nat} {v:Keyed} (h:v ∈ (x.extract i j).toList):∃ k,i ≤ k∧k < j∧k < x.size∧R v = Kr R x k:=by
 obtain ⟨k,hk,e⟩:=List.getElem_of_mem h
 have hk':k < (x.extract i j).size:=by rw [← Array.length_toList]; exact hk
 rw [Array.size_extract] at hk'
 refine ⟨i + k,by omega,by omega,by omega,?_⟩
 rw [dA (by omega),← e]
 congr 1
 simp
structure Mg (R:Keyed→Nat) (x y o:Array Keyed) (p q:Nat):Prop where
 hp:p ≤ x.size
 hq:q ≤ y.size
 so:PW R o.toList
 ox:∀ v ∈ o.toList,∀ i,p ≤ i→i < x.size→R v ≤ Kr R x i
 oy:∀ v ∈ o.toList,∀ j,q ≤ j→j < y.size→R v ≤ Kr R y j
 pm:o.toList.Perm (x.toList.take p ++ y.toList.take q)
theorem Mg.symm {x y o:Array Keyed} {p q:Nat} (h:Mg R x y o p q):Mg R y x o q p:=⟨h.hq,h.hp,h.so,h.oy,h.ox,h.pm.trans List.perm_append_comm⟩
theorem Mg.take {x y o:Array Keyed} {p q k:Nat} (h:Mg R x y o p q) (px:PW R x.toList) (hk:p + k ≤ x.size) (hc:∀ i j,p ≤ i→i < p + k→q ≤ j→j < y.size→Kr R x i ≤ Kr R y j):Mg R x y (o ++ x.extract p (p + k)) (p + k) q:=by
 refine ⟨hk,h.hq,?_,fun v hv i i1 i2=>?_,fun v hv j j1 j2=>?_,?_⟩
 ·rw [Array.toList_append]
  refine List.pairwise_append.mpr ⟨h.so,?_,fun a ha b hb=>?_⟩
  ·rw [dD]; exact (px.drop).take
  ·obtain ⟨i,i1,i2,i3,e⟩:=pK (R:=R) hb
   rw [e]; exact h.ox a ha i i1 i3
 ·rw [Array.toList_append] at hv
  rcases List.mem_append.mp hv with hv | hv
  ·exact h.ox v hv i (by omega) i2
  ·obtain ⟨k',k1,k2,k3,e⟩:=pK (R:=R) hv
   rw [e]; exact px.le (by omega) i2
 ·rw [Array.toList_append] at hv
  rcases List.mem_append.mp hv with hv | hv
  ·exact h.oy v hv j j1 j2
  ·obtain ⟨k',k1,k2,k3,e⟩:=pK (R:=R) hv
   rw [e]; exact hc k' j k1 k2 j1 j2
 ·rw [Array.toList_append,dD,show p + k - p = k by omega,List.take_add]
  refine (h.pm.append_right _).trans ?_
  rw [List.append_assoc,List.append_assoc]
  exact List.Perm.append_left _ List.perm_append_comm
theorem zF {x o:Array Keyed} {p:Nat} (h:p < x.size):o.push x[p] = o ++ x.extract p (p + 1):=by
 apply Array.toList_inj.mp
 rw [Array.toList_push,Array.toList_append,dD]
 congr 1
 rw [show p + 1 - p = 1 by omega]
 have hl:p < x.toList.length:=by simpa using h
 rw [List.drop_eq_getElem_cons hl]
 simp
theorem Mg.push {x y o:Array Keyed} {p q:Nat} (h:Mg R x y o p q) (px:PW R x.toList) (hp:p < x.size) (hc:∀ j,q ≤ j→j < y.size→Kr R x p ≤ Kr R y j):Mg R x y (o.push x[p]) (p + 1) q:=by
 rw [zF hp]
 exact h.take px (by omega) fun i j i1 i2 j1 j2=>by rw [show i = p by omega]; exact hc j j1 j2
noncomputable def Mz (R:Keyed→Nat) (x y r:Array Keyed):Prop:=r.toList.Perm (x.toList ++ y.toList)∧PW R r.toList
theorem Mg.Oa {x y o:Array Keyed} {p:Nat} {q:Nat} (h:Mg R x y o p q) (px:PW R x.toList) (hq:y.size ≤ q):Mz R x y (o ++ x.extract p x.size ++ y.extract q y.size):=by
 have e:y.extract q y.size = #[]:=by simp; omega
 rw [e,Array.append_empty]
 have g:=h.take (k:=x.size - p) px (by have:=h.hp; omega) fun i j i1 i2 j1 j2=>by omega
 have e2:p + (x.size - p) = x.size:=by have:=h.hp; omega
 rw [e2] at g
 refine ⟨g.pm.trans ?_,g.so⟩
 rw [List.take_of_length_le (by simp),List.take_of_length_le (by simpa using hq)]
theorem Mg.T3 {x y o:Array Keyed} {p:Nat} {q:Nat} (h:Mg R x y o p q) (py:PW R y.toList) (hp:x.size ≤ p):Mz R x y (o ++ x.extract p x.size ++ y.extract q y.size):=by
 have e:x.extract p x.size = #[]:=by simp; omega
 rw [e,Array.append_empty]
 have g:=h.symm.take (k:=y.size - q) py (by have:=h.hq; omega) fun i j i1 i2 j1 j2=>by omega
 have e2:q + (y.size - q) = y.size:=by have:=h.hq; omega
 rw [e2] at g
 refine ⟨g.pm.trans ?_,g.so⟩
 rw [List.take_of_length_le (by simp),List.take_of_length_le (by simpa using hp)]
 exact List.perm_append_comm
theorem Mg.la {x y o:Array Keyed} {p:Nat} {q:Nat} (h:Mg R x y o p q) (px:PW R x.toList) (py:PW R y.toList) (hp:p + 1 = x.size) (hl:∀ j,j < y.size→Kr R y j ≤ Kr R x p):Mz R x y (o ++ y.extract q y.size ++ x.extract p x.size):=by
 have g:=h.symm.take (k:=y.size - q) py (by have:=h.hq; omega) fun i j i1 i2 j1 j2=>by rw [show j = p by omega]; exact hl i (by have:=h.hq; omega)
 have e2:q + (y.size - q) = y.size:=by have:=h.hq; omega
 rw [e2] at g
 have g2:=g.symm.take (k:=1) px (by omega) fun i j i1 i2 j1 j2=>by omega
 rw [hp] at g2
 refine ⟨g2.pm.trans ?_,g2.so⟩
 rw [List.take_of_length_le (by simp),List.take_of_length_le (by simp)]
noncomputable abbrev PD (R:Keyed→Nat) (l:List Keyed):Prop:=l.Pairwise fun x y=>R y ≤ R x
structure Mh (R:Keyed→Nat) (x y o:Array Keyed) (p q:Nat):Prop where
 hp:p ≤ x.size
 hq:q ≤ y.size
 so:PD R o.toList
 ox:∀ v ∈ o.toList,∀ i,i < p→Kr R x i ≤ R v
 oy:∀ v ∈ o.toList,∀ j,j < q→Kr R y j ≤ R v
 pm:o.toList.Perm (x.toList.drop p ++ y.toList.drop q)
theorem Mh.symm {x y o:Array Keyed} {p q:Nat} (h:Mh R x y o p q):Mh R y x o q p:=⟨h.hq,h.hp,h.so,h.oy,h.ox,h.pm.trans List.perm_append_comm⟩
theorem Mh.take {x y o:Array Keyed} {p q k:Nat} (h:Mh R x y o p q) (px:PW R x.toList) (hk:k ≤ p) (hc:∀ i j,k ≤ i→i < p→j < q→Kr R y j ≤ Kr R x i):Mh R x y (o ++ (x.extract k p).reverse) k q:=by
 have mem:∀ v,v ∈ (x.extract k p).reverse.toList→∃ i,k ≤ i∧i < p∧i < x.size∧R v = Kr R x i:=fun v hv=>pK (R:=R) (by rw [Array.toList_reverse] at hv; exact List.mem_reverse.mp hv)
 refine ⟨Nat.le_trans hk h.hp,h.hq,?_,fun v hv i i1=>?_,fun v hv j j1=>?_,?_⟩
 ·rw [Array.toList_append]
  refine List.pairwise_append.mpr ⟨h.so,?_,fun a ha b hb=>?_⟩
  ·rw [Array.toList_reverse,List.pairwise_reverse,dD]; exact (px.drop).take
  ·obtain ⟨i,i1,i2,i3,e⟩:=mem b hb
   rw [e]; exact h.ox a ha i i2
 ·rw [Array.toList_append] at hv
  rcases List.mem_append.mp hv with hv | hv
  ·exact h.ox v hv i (by omega)
  ·obtain ⟨k',k1,k2,k3,e⟩:=mem v hv
   rw [e]; exact px.le (by omega) k3
 ·rw [Array.toList_append] at hv
  rcases List.mem_append.mp hv with hv | hv
  ·exact h.oy v hv j j1
  ·obtain ⟨k',k1,k2,k3,e⟩:=mem v hv
   rw [e]; exact hc k' j k1 k2 j1
 ·rw [Array.toList_append,Array.toList_reverse,dD]
  have e:x.toList.drop k = (x.toList.drop k).take (p - k) ++ x.toList.drop p:=by
   have:=(List.take_append_drop (p - k) (x.toList.drop k)).symm
   rwa [List.drop_drop,show k + (p - k) = p by omega] at this
  refine (h.pm.append (List.reverse_perm _)).trans (List.perm_append_comm.trans ?_)
  rw [← List.append_assoc,← e]
theorem Hu {x o:Array Keyed} {p:Nat} (h:p < x.size):o.push x[p] = o ++ (x.extract p (p + 1)).reverse:=by
 rw [zF h]
 congr 1
 apply Array.toList_inj.mp
 rw [Array.toList_reverse,dD,show p + 1 - p = 1 by omega]
 rw [List.drop_eq_getElem_cons (by simpa using h)]
 simp
theorem Mh.push {x y o:Array Keyed} {p q:Nat} (h:Mh R x y o (p + 1) q) (px:PW R x.toList) (hp:p < x.size) (hc:∀ j,j < q→Kr R y j ≤ Kr R x p):Mh R x y (o.push x[p]) p q:=by
 rw [Hu hp]
 exact h.take px (by omega) fun i j i1 i2 j1=>by rw [show i = p by omega]; exact hc j j1
theorem Mh.fin {x y o:Array Keyed} (h:Mh R x y o 0 0):Mz R x y o.reverse:=by
 refine ⟨?_,?_⟩
 ·rw [Array.toList_reverse]
  have:=h.pm
  rw [List.drop_zero,List.drop_zero] at this
  exact (List.reverse_perm _).trans this
 ·rw [Array.toList_reverse,PW,List.pairwise_reverse]; exact h.so
theorem ext_nil (x:Array Keyed):x.extract 0 0 = #[]:=by simp
theorem pL (a b:Array Keyed):(a ++ b.reverse).reverse = b ++ a.reverse:=by rw [Array.reverse_append,Array.reverse_reverse]
theorem Mh.T3 {x y o:Array Keyed} {q:Nat} (h:Mh R x y o 0 q) (py:PW R y.toList):Mz R x y (x.extract 0 0 ++ y.extract 0 q ++ o.reverse):=by
 rw [ext_nil,Array.empty_append,← pL]
 exact (h.symm.take (k:=0) py (Nat.zero_le _) fun i j _ _ j1=>by omega).symm.fin
theorem Mh.Oa {x y o:Array Keyed} {p:Nat} (h:Mh R x y o p 0) (px:PW R x.toList):Mz R x y (x.extract 0 p ++ y.extract 0 0 ++ o.reverse):=by
 rw [ext_nil,Array.append_empty,← pL]
 exact (h.take (k:=0) px (Nat.zero_le _) fun i j _ _ j1=>by omega).fin
theorem Mh.fb {x y o:Array Keyed} {p:Nat} (h:Mh R x y o p 1) (px:PW R x.toList) (py:PW R y.toList) (hf:∀ i,i < x.size→Kr R y 0 ≤ Kr R x i):Mz R x y (y.extract 0 1 ++ x.extract 0 p ++ o.reverse):=by
 have g:=h.take (k:=0) px (Nat.zero_le _) fun i j _ i2 j1=>by rw [show j = 0 by omega]; exact hf i (by have:=h.hp; omega)
 have g2:=(g.symm.take (k:=0) py (Nat.zero_le _) fun i j _ _ j1=>by omega).symm.fin
 rw [pL,pL,← Array.append_assoc] at g2
 exact g2
end
end Tm
namespace Tm
open PySem PyProof.Rows
noncomputable def setG':Nat→StateT SortSt Sem Unit:=sortPriv% PySem.Builtin.setMinGallop
noncomputable def T4:Array Keyed→Array Keyed→StateT SortSt Sem (Array Keyed):=sortPriv% PySem.Builtin.mergeLo
noncomputable def T5:Array Keyed→Array Keyed→StateT SortSt Sem (Array Keyed):=sortPriv% PySem.Builtin.mergeHi
theorem J8 (g:Nat):setG' g = modify fun z=>SortSt.mk' (kindOf z) (arrOf z) (pendingOf z) g (failedOf z):=rfl
theorem M0 (x y:Array Keyed):T4 x y = (do
 let _ ← (rule "list.sort.merge-lo":Sem Unit)
 let M1:=x.size + y.size
 let dn (o:Array Keyed) (p q:Nat):=o ++ x.extract p x.size ++ y.extract q y.size
 let la (o:Array Keyed) (p q:Nat):=o ++ y.extract q y.size ++ x.extract p x.size
 let mut o:Array Keyed:=#[← elem' y 0]
 let mut p:=0
 let mut q:=1
 if q == y.size then return dn o p q
 if p + 1 == x.size then return la o p q
 let mut g:=gallopOf (← get)
 for _ in [0:M1] do
  let mut c:=0
  let mut d:=0
  for _ in [0:M1] do
   let some M3 ← lt' (← elem' y q) (← elem' x p) | return dn o p q
   if M3 then
    o:=o.push (← elem' y q); q:=q + 1; d:=d + 1; c:=0
    if q == y.size then return dn o p q
    if d ≥ g then break
   else
    o:=o.push (← elem' x p); p:=p + 1; c:=c + 1; d:=0
    if p + 1 == x.size then return la o p q
    if c ≥ g then break
  let _ ← (rule "list.sort.gallop":Sem Unit)
  g:=g + 1
  for _ in [0:M1] do
   if g > 1 then g:=g - 1
   setG' g
   let some k ← gal' false (← elem' y q) x p (x.size - p) 0 | return dn o p q
   c:=k
   if k > 0 then
    o:=o ++ x.extract p (p + k); p:=p + k
    if p + 1 == x.size then return la o p q
    if p == x.size then return dn o p q
   o:=o.push (← elem' y q); q:=q + 1
   if q == y.size then return dn o p q
   let some k ← gal' true (← elem' x p) y q (y.size - q) 0 | return dn o p q
   d:=k
   if k > 0 then
    o:=o ++ y.extract q (q + k); q:=q + k
    if q == y.size then return dn o p q
   o:=o.push (← elem' x p); p:=p + 1
   if p + 1 == x.size then return la o p q
   if c < 7 && d < 7 then break
  g:=g + 1
  setG' g
 unsupported "internal:list.sort.merge-bound"):=rfl
section
variable {R:Keyed→Nat} {prog:Program} {w:World} {A:Around} {E:Value→Shared→Prop} {s:Shared} {κ:SortKind} {a₀:Array Keyed} {st:SortSt}
noncomputable def Gs (st z:SortSt):Prop:=∃ g,z = SortSt.mk' (kindOf st) (arrOf st) (pendingOf st) g (failedOf st)
theorem Gs.refl (st:SortSt):Gs st st:=⟨gallopOf st,rfl⟩
theorem Gs.set {st z:SortSt} (h:Gs st z) (g:Nat):Gs st (SortSt.mk' (kindOf z) (arrOf z) (pendingOf z) g (failedOf z)):=by
 obtain ⟨g',rfl⟩:=h; exact ⟨g,rfl⟩
theorem Gs.kind {st z : SortSt} (h : Gs st z) : kindOf z = kindOf st:=by obtain ⟨g',rfl⟩:=h; rfl
theorem jD {x:Array Keyed} {i:Nat} {Q:Keyed→SortSt→Prop} (hi:i < x.size) (h:Q x[i] st):wpS (model prog w) A E s (elem' x i) Q st:=by
 rw [elem'_eq,getElem?_pos x i hi]; exact wpS_pure h
theorem qv {g:Nat} {Q:Unit→SortSt→Prop} (h:Q () (SortSt.mk' (kindOf st) (arrOf st) (pendingOf st) g (failedOf st))):wpS (model prog w) A E s (setG' g) Q st:=by
 rw [J8]; exact wpS_modify h
noncomputable abbrev S7:=Option (Array Keyed) × Array Keyed × Nat × Nat × Nat × Nat × Nat
structure M4 (R:Keyed→Nat) (a₀ x y:Array Keyed):Prop where
 mx:∀ v ∈ x.toList,v ∈ a₀.toList
 my:∀ v ∈ y.toList,v ∈ a₀.toList
 px:PW R x.toList
 py:PW R y.toList
 x1:1 ≤ x.size
 y1:1 ≤ y.size
 hl:∀ j,j < y.size→Kr R y j ≤ Kr R x (x.size - 1)
 hf:∀ i,i < x.size→Kr R y 0 ≤ Kr R x i
theorem M4.Rj {x y:Array Keyed} (N:M4 R a₀ x y) {i:Nat} (h:i < x.size):x[i] ∈ a₀.toList:=N.mx _ (by simp)
theorem M4.Rk {x y:Array Keyed} (N:M4 R a₀ x y) {i:Nat} (h:i < y.size):y[i] ∈ a₀.toList:=N.my _ (by simp)
theorem T6 {α:Type} {P:Nat→SortSt→Prop} {T:Nat→StateT SortSt Sem α} {Q:α→SortSt→Prop} {M:Prop} (main:(∀ g z,P g z→wpS (model prog w) A E s (T g) Q z)→M) (key:∀ g z,P g z→wpS (model prog w) A E s (T g) Q z):M:=main key
theorem Px {α:Type} {P:SortSt→Prop} {T:Nat→StateT SortSt Sem α} {Q:α→SortSt→Prop} {M:Prop} (main:(∀ g z,P z→wpS (model prog w) A E s (T g) Q z)→M) (key:∀ g z,P z→wpS (model prog w) A E s (T g) Q z):M:=main key
theorem dup2 {α:Type} {P:Array Keyed→Nat→Prop} {T:Array Keyed→Nat→StateT SortSt Sem α} {Q:α→SortSt→Prop} {z:SortSt} {M:Prop} (main:(∀ o p,P o p→wpS (model prog w) A E s (T o p) Q z)→M) (key:∀ o p,P o p→wpS (model prog w) A E s (T o p) Q z):M:=main key
theorem Py {x y:Array Keyed} {p q k:Nat} (py:PW R y.toList) (hq:q < y.size) (kt:∀ i,i < k→nE R false y[q] (Kr R x (p + i)) = true) (kf:∀ i,k ≤ i→i < x.size - p→nE R false y[q] (Kr R x (p + i)) = false) :
  (∀ i j,p ≤ i→i < p + k→q ≤ j→j < y.size→Kr R x i ≤ Kr R y j)∧∀ j,p + k ≤ j→j < x.size→Kr R y q ≤ Kr R x j:=by
 refine ⟨fun i j i1 i2 j1 j2=>?_,fun j j1 j2=>?_⟩
 ·have z:=kt (i - p) (by omega)
  rw [show p + (i - p) = i by omega] at z
  have z2:=py.le (R:=R) j1 j2
  rw [dA hq] at z2
  unfold nE at z; simp at z; omega
 ·have z:=kf (j - p) (by omega) (by omega)
  rw [show p + (j - p) = j by omega] at z
  rw [dA hq]
  unfold nE at z; simp at z; omega
theorem Pz {x y:Array Keyed} {p q k:Nat} (px:PW R x.toList) (hp:p < x.size) (kt:∀ i,i < k→nE R true x[p] (Kr R y (q + i)) = true) (kf:∀ i,k ≤ i→i < y.size - q→nE R true x[p] (Kr R y (q + i)) = false) :
  (∀ i j,q ≤ i→i < q + k→p ≤ j→j < x.size→Kr R y i ≤ Kr R x j)∧∀ j,q + k ≤ j→j < y.size→Kr R x p ≤ Kr R y j:=by
 refine ⟨fun i j i1 i2 j1 j2=>?_,fun j j1 j2=>?_⟩
 ·have z:=kt (i - q) (by omega)
  rw [show q + (i - q) = i by omega] at z
  have z2:=px.le (R:=R) j1 j2
  rw [dA hp] at z2
  unfold nE at z; simp at z; omega
 ·have z:=kf (j - q) (by omega) (by omega)
  rw [show q + (j - q) = j by omega] at z
  rw [dA hp]
  unfold nE at z; simp at z; omega
theorem PB {x y:Array Keyed} {Q:Array Keyed→SortSt→Prop} (C:C8 R prog w A κ a₀ s) (hk:kindOf st = κ) (N:M4 R a₀ x y) (h:∀ r z,Gs st z→Mz R x y r→Q r z):wpS (model prog w) A E s (T4 x y) Q st:=by
 have N1:=N.x1
 have N2:=N.y1
 have la:∀ {o p q},Mg R x y o p q→p + 1 = x.size→Mz R x y (o ++ y.extract q y.size ++ x.extract p x.size):=fun {o p q} m e=>m.la N.px N.py e fun j hj=>by have:=N.hl j hj; rwa [show x.size - 1 = p by omega] at this
 rw [M0]
 refine wpS_bind (wpS_lift (wpAny_rule ⟨rfl,?_⟩))
 dsimp only
 refine wpS_bind (jD (by omega) ?_)
 have m0:Mg R x y #[y[0]] 0 1:=by
  have z:Mg R y x #[] 0 0:=⟨Nat.zero_le _,Nat.zero_le _,.nil,(fun v hv=>by simp at hv),(fun v hv=>by simp at hv),by simp⟩
  exact (z.push N.py (by omega) fun j _ hj=>N.hf j hj).symm
 by_cases e1:(1 == y.size) = true
 ·rw [if_pos e1]
  have e1:1 = y.size:=by simpa using e1
  exact wpS_pure (h _ _ (Gs.refl _) (m0.Oa N.px (by omega)))
 rw [if_neg e1]
 have e1:1 ≠ y.size:=by simpa using e1
 by_cases e2:(0 + 1 == x.size) = true
 ·rw [if_pos e2]
  have e2:1 = x.size:=by simpa using e2
  exact wpS_pure (h _ _ (Gs.refl _) (la m0 (by omega)))
 rw [if_neg e2]
 have e2:1 ≠ x.size:=by simpa using e2
 refine wpS_bind (wpS_get ?_)
 refine wpS_bind (wpS_mono (wpS_forRange (I:=fun i c z=>Gs st z∧∃ o p q g,c = (none,o,p,q,g)∧Mg R x y o p q∧p + 1 < x.size∧q < y.size∧i + 1 ≤ p + q) (Q:=fun c z=>Gs st z∧∃ r o p q g,c = (some r,o,p,q,g)∧Mz R x y r) ?_ ?_ ?_) ?_)
 ·rintro i c z _ hi ⟨hz,o,p,q,g,rfl,m,hp,hq,hn⟩
  dsimp only
  refine wpS_bind (wpS_mono (wpS_forRange (I:=fun k c z'=>z' = z∧∃ o p' q' a b,c = (none,o,p',q',a,b)∧Mg R x y o p' q'∧p' + 1 < x.size∧q' < y.size∧p + q + k ≤ p' + q') (Q:=fun c z'=>z' = z∧((∃ r o p q a b,c = (some r,o,p,q,a,b)∧Mz R x y r)∨∃ o p' q' a b,c = (none,o,p',q',a,b)∧Mg R x y o p' q'∧p' + 1 < x.size∧q' < y.size∧p + q + 1 ≤ p' + q')) ?_ ?_ ?_) ?_)
  ·rintro k c z' _ hkk ⟨rfl,o,p',q',a,b,rfl,m,hp',hq',hn'⟩
   dsimp only
   refine wpS_bind (jD hq' (wpS_bind (jD (by omega) (wpS_bind (w_lt C (hz.kind.trans hk) (N.Rk hq') (N.Rj (by omega)) ?_)))))
   by_cases hl:R y[q'] < R (x[p']'(by omega))
   ·simp only [hl,decide_true,if_true]
    refine wpS_bind (jD hq' ?_)
    have m':Mg R x y (o.push y[q']) p' (q' + 1):=(m.symm.push N.py hq' fun j j1 j2=>by
     rw [dA hq']
     exact Nat.le_trans (Nat.le_of_lt hl) (by rw [← dA (R:=R) (x:=x) (i:=p') (by omega)]; exact N.px.le j1 j2)).symm
    split
    ·rename_i e; have e:q' + 1 = y.size:=by simpa using e
     exact wpS_pure ⟨rfl,.inl ⟨_,_,_,_,_,_,rfl,m'.Oa N.px (by omega)⟩⟩
    ·rename_i e; have e:q' + 1 ≠ y.size:=by simpa using e
     split
     ·exact wpS_pure ⟨rfl,.inr ⟨_,_,_,_,_,rfl,m',hp',by omega,by omega⟩⟩
     ·exact wpS_pure ⟨rfl,_,_,_,_,_,rfl,m',hp',by omega,by omega⟩
   ·simp only [hl,decide_false,Bool.false_eq_true,if_false]
    refine wpS_bind (jD (by omega) ?_)
    have m':Mg R x y (o.push (x[p']'(by omega))) (p' + 1) q':=m.push N.px (by omega) fun j j1 j2=>by
     rw [dA (x:=x) (by omega)]
     exact Nat.le_trans (Nat.le_of_not_lt hl) (by rw [← dA (R:=R) (x:=y) (i:=q') hq']; exact N.py.le j1 j2)
    split
    ·rename_i e; have e:p' + 1 + 1 = x.size:=by simpa using e
     exact wpS_pure ⟨rfl,.inl ⟨_,_,_,_,_,_,rfl,la m' e⟩⟩
    ·rename_i e; have e:p' + 1 + 1 ≠ x.size:=by simpa using e
     split
     ·exact wpS_pure ⟨rfl,.inr ⟨_,_,_,_,_,rfl,m',by omega,hq',by omega⟩⟩
     ·exact wpS_pure ⟨rfl,_,_,_,_,_,rfl,m',by omega,hq',by omega⟩
  ·rintro c z' ⟨rfl,o,p',q',a,b,rfl,m,hp',hq',hn'⟩
   omega
  ·exact ⟨rfl,o,p,q,0,0,rfl,m,hp,hq,by omega⟩
  ·rintro c z' ⟨rfl,⟨r,o,p,q,a,b,rfl,f⟩ | ⟨o,p',q',a,b,rfl,m,hp',hq',hn'⟩⟩
   ·exact wpS_pure ⟨hz,_,_,_,_,_,rfl,f⟩
   ·dsimp only
    refine wpS_bind (wpS_lift (wpAny_rule ⟨rfl,?_⟩))
    have vL:i + 2 ≤ p' + q':=by omega
    clear hn' hn
    refine wpS_bind (wpS_mono (wpS_forRange (I:=fun _ c z=>Gs st z∧∃ o p q g a b,c = ((none,o,p,q,g,a,b):S7)∧Mg R x y o p q∧p + 1 < x.size∧q < y.size∧i + 2 ≤ p + q) (Q:=fun c z=>Gs st z∧((∃ r o p q g a b,c = ((some r,o,p,q,g,a,b):S7)∧Mz R x y r)∨∃ o p q g a b,c = ((none,o,p,q,g,a,b):S7)∧Mg R x y o p q∧p + 1 < x.size∧q < y.size∧i + 2 ≤ p + q)) ?_ ?_ ?_) ?_)
    ·rintro _ c z2 _ _ ⟨ig,o,p,q,g,a,b,rfl,m,hp,hq,hn⟩
     dsimp only
     apply Px (prog:=prog) (w:=w) (A:=A) (E:=E) (s:=s) (P:=Gs st)
     case main =>
      intro wk
      by_cases gg:g > 1
      ·rw [if_pos gg]
       refine wpS_bind (qv ?_)
       replace ig:=ig.set (g - 1)
       generalize g - 1 = g' at ig ⊢
       exact wk g' _ ig
      ·rw [if_neg gg]
       refine wpS_bind (qv ?_)
       exact wk g _ (ig.set g)
     case key =>
      intro g z2 ig
      refine wpS_bind (jD hq (wpS_bind (wj C (ig.kind.trans hk) (N.Rk hq) N.mx (by omega) (by omega) (N.px.sr _ _ (by omega)) fun k k1 kt kf=>?_)))
      obtain ⟨PC,Dd⟩:=Py N.py hq kt kf
      dsimp only
      clear kt kf
      apply dup2 (prog:=prog) (w:=w) (A:=A) (E:=E) (s:=s) (P:=fun o p=>Mg R x y o p q∧(p + 1 < x.size∧i + 2 ≤ p + q)∧∀ j,p ≤ j→j < x.size→Kr R y q ≤ Kr R x j)
      case main =>
       intro wk
       by_cases k0:k > 0
       ·rw [if_pos k0]
        have m:=m.take N.px (by omega) PC
        split
        ·rename_i e; simp only [beq_iff_eq] at e
         exact wpS_pure ⟨ig,.inl ⟨_,_,_,_,_,_,_,rfl,la m (by omega)⟩⟩
        ·rename_i e1; simp only [beq_iff_eq] at e1
         split
         ·rename_i e; simp only [beq_iff_eq] at e
          exact wpS_pure ⟨ig,.inl ⟨_,_,_,_,_,_,_,rfl,m.T3 N.py (by omega)⟩⟩
         ·rename_i e3; simp only [beq_iff_eq] at e3
          have vL:p + k + 1 < x.size∧i + 2 ≤ p + k + q:=⟨by omega,by omega⟩
          generalize o ++ x.extract p (p + k) = o2 at m ⊢
          have hd2:=Dd
          generalize p + k = p2 at m hd2 vL ⊢
          exact wk o2 p2 ⟨m,vL,hd2⟩
       ·rw [if_neg k0]
        rw [show k = 0 by omega,Nat.add_zero] at Dd
        exact wk o p ⟨m,⟨hp,hn⟩,Dd⟩
      case key =>
       clear m hp hn PC Dd k1
       intro o p ⟨m,⟨hp,hn⟩,Dd⟩
       refine wpS_bind (jD hq ?_)
       have m:=(m.symm.push N.py hq Dd).symm
       split
       ·rename_i e; simp only [beq_iff_eq] at e
        exact wpS_pure ⟨ig,.inl ⟨_,_,_,_,_,_,_,rfl,m.Oa N.px (by omega)⟩⟩
       ·rename_i e; simp only [beq_iff_eq] at e
        refine wpS_bind (jD (by omega) (wpS_bind (wj C (ig.kind.trans hk) (N.Rj (by omega)) N.my (by omega) (by omega) (N.py.sr _ _ (by omega)) fun k2 M5 kt kf=>?_)))
        obtain ⟨PF,E8⟩:=Pz N.px (by omega) kt kf
        dsimp only
        clear kt kf
        have hq:q + 1 < y.size:=by omega
        have hn:i + 2 ≤ p + (q + 1):=by omega
        clear e Dd
        generalize q + 1 = q at *
        apply dup2 (prog:=prog) (w:=w) (A:=A) (E:=E) (s:=s) (P:=fun o q=>Mg R x y o p q∧(q < y.size∧i + 2 ≤ p + q)∧∀ j,q ≤ j→j < y.size→Kr R x p ≤ Kr R y j)
        case main =>
         intro wk
         by_cases J9:k2 > 0
         ·rw [if_pos J9]
          have m:=(m.symm.take N.py (by omega) PF).symm
          split
          ·rename_i e; simp only [beq_iff_eq] at e
           exact wpS_pure ⟨ig,.inl ⟨_,_,_,_,_,_,_,rfl,m.Oa N.px (by omega)⟩⟩
          ·rename_i e; simp only [beq_iff_eq] at e
           have vL:q + k2 < y.size∧i + 2 ≤ p + (q + k2):=⟨by omega,by omega⟩
           generalize _ ++ y.extract q (q + k2) = o2 at m ⊢
           have hd2:=E8
           generalize q + k2 = q2 at m hd2 vL ⊢
           exact wk o2 q2 ⟨m,vL,hd2⟩
         ·rw [if_neg J9]
          rw [show k2 = 0 by omega,Nat.add_zero] at E8
          exact wk _ q ⟨m,⟨hq,hn⟩,E8⟩
        case key =>
         clear m hq hn PF E8 M5
         intro o q ⟨m,⟨hq,hn⟩,E8⟩
         refine wpS_bind (jD (by omega) ?_)
         have m3:=m.push N.px (by omega) E8
         split
         ·rename_i e; simp only [beq_iff_eq] at e
          exact wpS_pure ⟨ig,.inl ⟨_,_,_,_,_,_,_,rfl,la m3 (by omega)⟩⟩
         ·rename_i e; simp only [beq_iff_eq] at e
          split
          ·exact wpS_pure ⟨ig,.inr ⟨_,_,_,_,_,_,rfl,m3,by omega,by omega,by omega⟩⟩
          ·exact wpS_pure ⟨ig,_,_,_,_,_,_,rfl,m3,by omega,by omega,by omega⟩
    ·rintro c z2 ⟨ig,o,p,q,g,a,b,rfl,m,hp,hq,hn⟩
     exact ⟨ig,.inr ⟨_,_,_,_,_,_,rfl,m,hp,hq,hn⟩⟩
    ·exact ⟨hz,_,_,_,_,_,_,rfl,m,hp',hq',vL⟩
    ·rintro c z2 ⟨ig,⟨r,o,p,q,g,a,b,rfl,f⟩ | ⟨o,p,q,g,a,b,rfl,m,hp,hq,hn⟩⟩
     ·exact wpS_pure ⟨ig,_,_,_,_,_,rfl,f⟩
     ·dsimp only
      exact wpS_bind (qv (wpS_pure ⟨ig.set _,_,_,_,_,rfl,m,hp,hq,by omega⟩))
 ·rintro c z ⟨hz,o,p,q,g,rfl,m,hp,hq,hn⟩
  omega
 ·exact ⟨Gs.refl _,_,0,1,_,rfl,m0,by omega,by omega,by omega⟩
 ·rintro c z ⟨hz,r,o,p,q,g,rfl,f⟩
  exact wpS_pure (h r z hz f)
end
end Tm
namespace Tm
open PySem PyProof.Rows
theorem M6 (x y:Array Keyed):T5 x y = (do
 let _ ← (rule "list.sort.merge-hi":Sem Unit)
 let M1:=x.size + y.size
 let dn (o:Array Keyed) (p q:Nat):=x.extract 0 p ++ y.extract 0 q ++ o.reverse
 let fb (o:Array Keyed) (p q:Nat):=y.extract 0 q ++ x.extract 0 p ++ o.reverse
 let mut p:=x.size - 1
 let mut q:=y.size
 let mut o:Array Keyed:=#[← elem' x p]
 if p == 0 then return dn o p q
 if q == 1 then return fb o p q
 let mut g:=gallopOf (← get)
 for _ in [0:M1] do
  let mut c:=0
  let mut d:=0
  for _ in [0:M1] do
   let some M3 ← lt' (← elem' y (q - 1)) (← elem' x (p - 1)) | return dn o p q
   if M3 then
    p:=p - 1; o:=o.push (← elem' x p); c:=c + 1; d:=0
    if p == 0 then return dn o p q
    if c ≥ g then break
   else
    q:=q - 1; o:=o.push (← elem' y q); d:=d + 1; c:=0
    if q == 1 then return fb o p q
    if d ≥ g then break
  let _ ← (rule "list.sort.gallop":Sem Unit)
  g:=g + 1
  for _ in [0:M1] do
   if g > 1 then g:=g - 1
   setG' g
   let some t ← gal' false (← elem' y (q - 1)) x 0 p (p - 1) | return dn o p q
   let k:=p - t
   c:=k
   if k > 0 then
    o:=o ++ (x.extract t p).reverse; p:=t
    if p == 0 then return dn o p q
   q:=q - 1; o:=o.push (← elem' y q)
   if q == 1 then return fb o p q
   let some t ← gal' true (← elem' x (p - 1)) y 0 q (q - 1) | return dn o p q
   let k:=q - t
   d:=k
   if k > 0 then
    o:=o ++ (y.extract t q).reverse; q:=t
    if q == 1 then return fb o p q
    if q == 0 then return dn o p q
   p:=p - 1; o:=o.push (← elem' x p)
   if p == 0 then return dn o p q
   if c < 7 && d < 7 then break
  g:=g + 1
  setG' g
 unsupported "internal:list.sort.merge-bound"):=rfl
section
variable {R:Keyed→Nat} {prog:Program} {w:World} {A:Around} {E:Value→Shared→Prop} {s:Shared} {κ:SortKind} {a₀:Array Keyed} {st:SortSt}
theorem Mh.PH {x y o:Array Keyed} {p q:Nat} (h:Mh R x y o p q) (px:PW R x.toList) (hp:p - 1 < x.size) (h0:0 < p) (hc:∀ j,j < q→Kr R y j ≤ Kr R x (p - 1)):Mh R x y (o.push x[p - 1]) (p - 1) q:=by
 obtain ⟨r,rfl⟩ : ∃ r,p = r + 1:=⟨p - 1,by omega⟩
 exact h.push px hp hc
theorem PJ {x y:Array Keyed} {p q k:Nat} (py:PW R y.toList) (hq:q - 1 < y.size) (kt:∀ i,i < k→nE R false y[q - 1] (Kr R x (0 + i)) = true) (kf:∀ i,k ≤ i→i < p→nE R false y[q - 1] (Kr R x (0 + i)) = false) :
  (∀ i j,k ≤ i→i < p→j < q→Kr R y j ≤ Kr R x i)∧∀ j,j < k→Kr R x j ≤ Kr R y (q - 1):=by
 refine ⟨fun i j i1 i2 j1=>?_,fun j j1=>?_⟩
 ·have z:=kf i i1 i2
  rw [Nat.zero_add] at z
  have z2:=py.le (R:=R) (i:=j) (j:=q - 1) (by omega) hq
  rw [dA hq] at z2
  unfold nE at z; simp at z; omega
 ·have z:=kt j j1
  rw [Nat.zero_add] at z
  rw [dA hq]
  unfold nE at z; simp at z; omega
theorem PK {x y:Array Keyed} {p q k:Nat} (px:PW R x.toList) (hp:p - 1 < x.size) (kt:∀ i,i < k→nE R true x[p - 1] (Kr R y (0 + i)) = true) (kf:∀ i,k ≤ i→i < q→nE R true x[p - 1] (Kr R y (0 + i)) = false) :
  (∀ i j,k ≤ i→i < q→j < p→Kr R x j ≤ Kr R y i)∧∀ j,j < k→Kr R y j ≤ Kr R x (p - 1):=by
 refine ⟨fun i j i1 i2 j1=>?_,fun j j1=>?_⟩
 ·have z:=kf i i1 i2
  rw [Nat.zero_add] at z
  have z2:=px.le (R:=R) (i:=j) (j:=p - 1) (by omega) hp
  rw [dA hp] at z2
  unfold nE at z; simp at z; omega
 ·have z:=kt j j1
  rw [Nat.zero_add] at z
  rw [dA hp]
  unfold nE at z; simp at z; omega
theorem Rl {x y o:Array Keyed} {p q:Nat} (h:Mh R x y o p q) (py:PW R y.toList) (e:p = 0):Mz R x y (x.extract 0 p ++ y.extract 0 q ++ o.reverse):=by subst e; exact h.T3 py
theorem dn1 {x y o:Array Keyed} {p q:Nat} (h:Mh R x y o p q) (px:PW R x.toList) (e:q = 0):Mz R x y (x.extract 0 p ++ y.extract 0 q ++ o.reverse):=by subst e; exact h.Oa px
noncomputable abbrev T7:=Option (Array Keyed) × Nat × Nat × Array Keyed × Nat × Nat × Nat
theorem PL {x y:Array Keyed} {Q:Array Keyed→SortSt→Prop} (C:C8 R prog w A κ a₀ s) (hk:kindOf st = κ) (N:M4 R a₀ x y) (h:∀ r z,Gs st z→Mz R x y r→Q r z):wpS (model prog w) A E s (T5 x y) Q st:=by
 have N1:=N.x1
 have N2:=N.y1
 have fb:∀ {o p q},Mh R x y o p q→q = 1→Mz R x y (y.extract 0 q ++ x.extract 0 p ++ o.reverse):=fun {o p q} m e=>by subst e; exact m.fb N.px N.py N.hf
 rw [M6]
 refine wpS_bind (wpS_lift (wpAny_rule ⟨rfl,?_⟩))
 dsimp only
 refine wpS_bind (jD (by omega) ?_)
 have m0:Mh R x y #[x[x.size - 1]] (x.size - 1) y.size:=by
  have z:Mh R x y #[] x.size y.size:=⟨Nat.le_refl _,Nat.le_refl _,.nil,(fun v hv=>by simp at hv),(fun v hv=>by simp at hv),by rw [List.drop_of_length_le (by simp),List.drop_of_length_le (by simp)]; exact .nil⟩
  exact z.PH N.px (by omega) (by omega) fun j hj=>N.hl j hj
 by_cases e1:(x.size - 1 == 0) = true
 ·rw [if_pos e1]
  simp only [beq_iff_eq] at e1
  exact wpS_pure (h _ _ (Gs.refl _) (Rl m0 N.py e1))
 rw [if_neg e1]
 simp only [beq_iff_eq] at e1
 by_cases e2:(y.size == 1) = true
 ·rw [if_pos e2]
  simp only [beq_iff_eq] at e2
  exact wpS_pure (h _ _ (Gs.refl _) (fb m0 e2))
 rw [if_neg e2]
 simp only [beq_iff_eq] at e2
 refine wpS_bind (wpS_get ?_)
 refine wpS_bind (wpS_mono (wpS_forRange (I:=fun i c z=>Gs st z∧∃ p q o g,c = (none,p,q,o,g)∧Mh R x y o p q∧0 < p∧1 < q∧p + q + i + 1 ≤ x.size + y.size) (Q:=fun c z=>Gs st z∧∃ r p q o g,c = (some r,p,q,o,g)∧Mz R x y r) ?_ ?_ ?_) ?_)
 ·rintro i c z _ hi ⟨hz,p,q,o,g,rfl,m,hp,hq,hn⟩
  dsimp only
  refine wpS_bind (wpS_mono (wpS_forRange (I:=fun k c z'=>z' = z∧∃ p' q' o a b,c = (none,p',q',o,a,b)∧Mh R x y o p' q'∧0 < p'∧1 < q'∧p' + q' + k ≤ p + q) (Q:=fun c z'=>z' = z∧((∃ r p q o a b,c = (some r,p,q,o,a,b)∧Mz R x y r)∨∃ p' q' o a b,c = (none,p',q',o,a,b)∧Mh R x y o p' q'∧0 < p'∧1 < q'∧p' + q' + 1 ≤ p + q)) ?_ ?_ ?_) ?_)
  ·rintro k c z' _ hkk ⟨rfl,p',q',o,a,b,rfl,m,hp',hq',hn'⟩
   dsimp only
   have T8:=m.hp
   have T9:=m.hq
   refine wpS_bind (jD (by omega) (wpS_bind (jD (by omega) (wpS_bind (w_lt C (hz.kind.trans hk) (N.Rk (by omega)) (N.Rj (by omega)) ?_)))))
   by_cases hl:R (y[q' - 1]'(by omega)) < R (x[p' - 1]'(by omega))
   ·simp only [hl,decide_true,if_true]
    refine wpS_bind (jD (by omega) ?_)
    have m':=m.PH N.px (by omega) hp' fun j hj=>by
     have z:=N.py.le (R:=R) (i:=j) (j:=q' - 1) (by omega) (by omega)
     rw [dA (x:=y) (i:=q' - 1) (by omega)] at z
     rw [dA (x:=x) (i:=p' - 1) (by omega)]
     omega
    split
    ·rename_i e; simp only [beq_iff_eq] at e
     exact wpS_pure ⟨rfl,.inl ⟨_,_,_,_,_,_,rfl,Rl m' N.py e⟩⟩
    ·rename_i e; simp only [beq_iff_eq] at e
     split
     ·exact wpS_pure ⟨rfl,.inr ⟨_,_,_,_,_,rfl,m',by omega,by omega,by omega⟩⟩
     ·exact wpS_pure ⟨rfl,_,_,_,_,_,rfl,m',by omega,by omega,by omega⟩
   ·simp only [hl,decide_false,Bool.false_eq_true,if_false]
    refine wpS_bind (jD (by omega) ?_)
    have m':=(m.symm.PH N.py (by omega) (by omega) fun j hj=>by
     have z:=N.px.le (R:=R) (i:=j) (j:=p' - 1) (by omega) (by omega)
     rw [dA (x:=x) (i:=p' - 1) (by omega)] at z
     rw [dA (x:=y) (i:=q' - 1) (by omega)]
     omega).symm
    split
    ·rename_i e; simp only [beq_iff_eq] at e
     exact wpS_pure ⟨rfl,.inl ⟨_,_,_,_,_,_,rfl,fb m' e⟩⟩
    ·rename_i e; simp only [beq_iff_eq] at e
     split
     ·exact wpS_pure ⟨rfl,.inr ⟨_,_,_,_,_,rfl,m',by omega,by omega,by omega⟩⟩
     ·exact wpS_pure ⟨rfl,_,_,_,_,_,rfl,m',by omega,by omega,by omega⟩
  ·rintro c z' ⟨rfl,p',q',o,a,b,rfl,m,hp',hq',hn'⟩
   have T8:=m.hp
   have T9:=m.hq
   omega
  ·exact ⟨rfl,p,q,o,0,0,rfl,m,hp,hq,by omega⟩
  ·rintro c z' ⟨rfl,⟨r,p,q,o,a,b,rfl,f⟩ | ⟨p',q',o,a,b,rfl,m,hp',hq',hn'⟩⟩
   ·exact wpS_pure ⟨hz,_,_,_,_,_,rfl,f⟩
   ·dsimp only
    refine wpS_bind (wpS_lift (wpAny_rule ⟨rfl,?_⟩))
    have vL:p' + q' + i + 2 ≤ x.size + y.size:=by omega
    clear hn' hn
    refine wpS_bind (wpS_mono (wpS_forRange (I:=fun _ c z=>Gs st z∧∃ p q o g a b,c = ((none,p,q,o,g,a,b):T7)∧Mh R x y o p q∧0 < p∧1 < q∧p + q + i + 2 ≤ x.size + y.size) (Q:=fun c z=>Gs st z∧((∃ r p q o g a b,c = ((some r,p,q,o,g,a,b):T7)∧Mz R x y r)∨∃ p q o g a b,c = ((none,p,q,o,g,a,b):T7)∧Mh R x y o p q∧0 < p∧1 < q∧p + q + i + 2 ≤ x.size + y.size)) ?_ ?_ ?_) ?_)
    ·rintro _ c z2 _ _ ⟨ig,p,q,o,g,a,b,rfl,m,hp,hq,hn⟩
     dsimp only
     have T8:=m.hp
     have T9:=m.hq
     apply Px (prog:=prog) (w:=w) (A:=A) (E:=E) (s:=s) (P:=Gs st)
     case main =>
      intro wk
      by_cases gg:g > 1
      ·rw [if_pos gg]
       refine wpS_bind (qv ?_)
       replace ig:=ig.set (g - 1)
       generalize g - 1 = g' at ig ⊢
       exact wk g' _ ig
      ·rw [if_neg gg]
       refine wpS_bind (qv ?_)
       exact wk g _ (ig.set g)
     case key =>
      intro g z2 ig
      refine wpS_bind (jD (by omega) (wpS_bind (wj C (ig.kind.trans hk) (N.Rk (by omega)) N.mx (by omega) (by omega) (N.px.sr _ _ (by omega)) fun k k1 kt kf=>?_)))
      obtain ⟨PC,Dd⟩:=PJ N.py (by omega) kt kf
      dsimp only
      clear kt kf
      apply dup2 (prog:=prog) (w:=w) (A:=A) (E:=E) (s:=s) (P:=fun o p=>Mh R x y o p q∧(0 < p∧p + q + i + 2 ≤ x.size + y.size)∧∀ j,j < p→Kr R x j ≤ Kr R y (q - 1))
      case main =>
       intro wk
       by_cases k0:p - k > 0
       ·rw [if_pos k0]
        have m:=m.take N.px (by omega) PC
        split
        ·rename_i e; simp only [beq_iff_eq] at e
         exact wpS_pure ⟨ig,.inl ⟨_,_,_,_,_,_,_,rfl,Rl m N.py e⟩⟩
        ·rename_i e1; simp only [beq_iff_eq] at e1
         have vL:0 < k∧k + q + i + 2 ≤ x.size + y.size:=⟨by omega,by omega⟩
         generalize o ++ (x.extract k p).reverse = o2 at m ⊢
         have hd2:=Dd
         generalize k = k3 at m vL hd2 ⊢
         exact wk o2 k3 ⟨m,vL,hd2⟩
       ·rw [if_neg k0]
        have ke:k = p:=by omega
        subst ke
        exact wk o _ ⟨m,⟨hp,hn⟩,Dd⟩
      case key =>
       clear m hp hn PC Dd k1 T8
       intro o p ⟨m,⟨hp,hn⟩,Dd⟩
       have hxx:=m.hp
       refine wpS_bind (jD (by omega) ?_)
       have m:=(m.symm.PH N.py (by omega) (by omega) Dd).symm
       split
       ·rename_i e; simp only [beq_iff_eq] at e
        exact wpS_pure ⟨ig,.inl ⟨_,_,_,_,_,_,_,rfl,fb m e⟩⟩
       ·rename_i e; simp only [beq_iff_eq] at e
        refine wpS_bind (jD (by omega) (wpS_bind (wj C (ig.kind.trans hk) (N.Rj (by omega)) N.my (by omega) (by omega) (N.py.sr _ _ (by omega)) fun k2 M5 kt kf=>?_)))
        obtain ⟨PF,E8⟩:=PK N.px (by omega) kt kf
        dsimp only
        clear kt kf
        apply dup2 (prog:=prog) (w:=w) (A:=A) (E:=E) (s:=s) (P:=fun o q=>Mh R x y o p q∧(1 < q∧p + q + i + 2 ≤ x.size + y.size)∧∀ j,j < q→Kr R y j ≤ Kr R x (p - 1))
        case main =>
         intro wk
         by_cases J9:q - 1 - k2 > 0
         ·rw [if_pos J9]
          have m:=(m.symm.take N.py (by omega) PF).symm
          split
          ·rename_i e; simp only [beq_iff_eq] at e
           exact wpS_pure ⟨ig,.inl ⟨_,_,_,_,_,_,_,rfl,fb m e⟩⟩
          ·rename_i e1; simp only [beq_iff_eq] at e1
           split
           ·rename_i e; simp only [beq_iff_eq] at e
            exact wpS_pure ⟨ig,.inl ⟨_,_,_,_,_,_,_,rfl,dn1 m N.px e⟩⟩
           ·rename_i e2; simp only [beq_iff_eq] at e2
            have vL:1 < k2∧p + k2 + i + 2 ≤ x.size + y.size:=⟨by omega,by omega⟩
            generalize _ ++ (y.extract k2 (q - 1)).reverse = o2 at m ⊢
            have hd2:=E8
            generalize k2 = k3 at m vL hd2 ⊢
            exact wk o2 k3 ⟨m,vL,hd2⟩
         ·rw [if_neg J9]
          have k2e:k2 = q - 1:=by omega
          subst k2e
          exact wk _ (q - 1) ⟨m,⟨by omega,by omega⟩,E8⟩
        case key =>
         clear m hq hn PF E8 M5 T9 Dd
         intro o q ⟨m,⟨hq,hn⟩,E8⟩
         have hxx:=m.hp
         refine wpS_bind (jD (by omega) ?_)
         have m3:=m.PH N.px (by omega) (by omega) E8
         split
         ·rename_i e; simp only [beq_iff_eq] at e
          exact wpS_pure ⟨ig,.inl ⟨_,_,_,_,_,_,_,rfl,Rl m3 N.py e⟩⟩
         ·rename_i e; simp only [beq_iff_eq] at e
          split
          ·exact wpS_pure ⟨ig,.inr ⟨_,_,_,_,_,_,rfl,m3,by omega,by omega,by omega⟩⟩
          ·exact wpS_pure ⟨ig,_,_,_,_,_,_,rfl,m3,by omega,by omega,by omega⟩
    ·rintro c z2 ⟨ig,p,q,o,g,a,b,rfl,m,hp,hq,hn⟩
     exact ⟨ig,.inr ⟨_,_,_,_,_,_,rfl,m,hp,hq,hn⟩⟩
    ·exact ⟨hz,_,_,_,_,_,_,rfl,m,hp',hq',vL⟩
    ·rintro c z2 ⟨ig,⟨r,p,q,o,g,a,b,rfl,f⟩ | ⟨p,q,o,g,a,b,rfl,m,hp,hq,hn⟩⟩
     ·exact wpS_pure ⟨ig,_,_,_,_,_,rfl,f⟩
     ·dsimp only
      exact wpS_bind (qv (wpS_pure ⟨ig.set _,_,_,_,_,rfl,m,hp,hq,by omega⟩))
 ·rintro c z ⟨hz,p,q,o,g,rfl,m,hp,hq,hn⟩
  omega
 ·exact ⟨Gs.refl _,_,_,_,_,rfl,m0,by omega,by omega,by omega⟩
 ·rintro c z ⟨hz,r,p,q,o,g,rfl,f⟩
  exact wpS_pure (h r z hz f)
end
end Tm
namespace Tm
open PySem PyProof.Rows
noncomputable def wr (xs:Array Keyed) (lo:Nat):List (Keyed × Nat)→Array Keyed:=fun l=>l.foldl (fun a (p:Keyed × Nat)=>a.setIfInBounds (lo + p.2) p.1) xs
theorem BM:∀ (m:List Keyed) (xs:Array Keyed) (lo o:Nat),lo + o + m.length ≤ xs.size→∀ k,(wr xs lo (m.zipIdx o))[k]? = if lo + o ≤ k∧k < lo + o + m.length then m[k - (lo + o)]? else xs[k]?
 | [],xs,lo,o,h,k=>by
  rw [if_neg (by simp only [List.length_nil]; omega)]; rfl
 | v :: m,xs,lo,o,h,k=>by
  have ih:=BM m (xs.setIfInBounds (lo + o) v) lo (o + 1) (by simp at h ⊢; omega) k
  rw [List.zipIdx_cons]
  refine Eq.trans ih ?_
  simp only [List.length_cons] at h ⊢
  by_cases h1:lo + (o + 1) ≤ k∧k < lo + (o + 1) + m.length
  ·rw [if_pos h1,if_pos (by omega),show k - (lo + o) = (k - (lo + (o + 1))) + 1 by omega]; rfl
  ·rw [if_neg h1,Array.getElem?_setIfInBounds]
   by_cases h2:lo + o = k
   ·subst h2; rw [if_pos rfl,if_pos (by omega),if_pos (by omega)]; simp
   ·rw [if_neg h2,if_neg (by omega)]
theorem Ka (m:List Keyed) (xs:Array Keyed) (lo:Nat) (h:lo + m.length ≤ xs.size):(wr xs lo m.zipIdx).toList = xs.toList.take lo ++ (m ++ xs.toList.drop (lo + m.length)):=by
 apply List.ext_getElem?
 intro k
 rw [Array.getElem?_toList,BM m xs lo 0 (by omega) k]
 simp only [Nat.add_zero]
 have hl:xs.toList.length = xs.size:=Array.length_toList
 by_cases h1:k < lo
 ·rw [if_neg (by omega),List.getElem?_append_left (by rw [List.length_take]; omega),List.getElem?_take,if_pos h1,Array.getElem?_toList]
 ·have e:(xs.toList.take lo).length = lo:=by rw [List.length_take]; omega
  rw [List.getElem?_append_right (by omega),e]
  by_cases h2:k < lo + m.length
  ·rw [if_pos (by omega),List.getElem?_append_left (by omega)]
  ·rw [if_neg (by omega),List.getElem?_append_right (by omega),List.getElem?_drop,← Array.getElem?_toList]
   congr 1; omega
section
variable {R:Keyed→Nat}
theorem PM (m:Array Keyed) (xs:Array Keyed) (lo:Nat) (h:lo + m.size ≤ xs.size) (k:Nat):Kr R (wr xs lo m.toList.zipIdx) k = if lo ≤ k∧k < lo + m.size then Kr R m (k - lo) else Kr R xs k:=by
 have e:=BM m.toList xs lo 0 (by simpa using h) k
 simp only [Nat.add_zero,Array.length_toList] at e
 by_cases h1:lo ≤ k∧k < lo + m.size
 ·rw [if_pos h1] at e ⊢; rw [Array.getElem?_toList] at e; exact ro e
 ·rw [if_neg h1] at e ⊢; exact ro e
theorem Kb {m xs:Array Keyed} {lo hi:Nat} (h1:lo ≤ hi) (h2:hi ≤ xs.size) (hp:m.toList.Perm ((xs.extract lo hi).toList)):lo + m.size = hi∧(wr xs lo m.toList.zipIdx).Perm xs:=by
 have hl:xs.toList.length = xs.size:=Array.length_toList
 have sz:lo + m.size = hi:=by
  have:=hp.length_eq
  rw [Array.length_toList,Array.length_toList,Array.size_extract] at this
  omega
 refine ⟨sz,Array.perm_iff_toList_perm.mpr ?_⟩
 rw [Ka _ _ _ (by simp; omega)]
 have e:xs.toList = xs.toList.take lo ++ ((xs.extract lo hi).toList ++ xs.toList.drop hi):=by
  rw [dD]
  have:=(List.take_append_drop lo xs.toList).symm
  have t2:=(List.take_append_drop (hi - lo) (xs.toList.drop lo)).symm
  rw [List.drop_drop,show lo + (hi - lo) = hi by omega] at t2
  rw [← t2,← this]
 have e2:lo + m.toList.length = hi:=by rw [Array.length_toList]; exact sz
 rw [e2]
 exact (List.Perm.append_left _ (hp.append_right _)).trans (List.Perm.of_eq e.symm)
theorem Hv {xs:Array Keyed} {i j k:Nat} (h:k < j - i) (hj:j ≤ xs.size):Kr R (xs.extract i j) k = Kr R xs (i + k):=by
 apply ro
 rw [Array.getElem?_extract,if_pos (by omega)]
noncomputable def Runs (R:Keyed→Nat) (xs:Array Keyed):List (Nat × Nat × Nat)→Nat→Nat→Prop
 | [],i,j=>i = j
 | (a,n,_) :: r,i,j=>a = i∧1 ≤ n∧Sr R xs i (i + n)∧Runs R xs r (i + n) j
theorem Runs.le {xs:Array Keyed}:∀ {l:List (Nat × Nat × Nat)} {i j:Nat},Runs R xs l i j→i + l.length ≤ j
 | [],i,j,h=>by cases h; simp
 | (a,n,_) :: r,i,j,h=>by obtain ⟨_,h1,_,h2⟩:=h; have:=Runs.le h2; simp; omega
theorem Runs.frame {xs ys:Array Keyed}:∀ {l:List (Nat × Nat × Nat)} {i j:Nat},Runs R xs l i j→(∀ k,i ≤ k→k < j→Kr R ys k = Kr R xs k)→Runs R ys l i j
 | [],i,j,h,_=>h
 | (a,n,_) :: r,i,j,h,f=>by
  obtain ⟨e,h1,h3,h2⟩:=h
  have hl:=Runs.le h2
  refine ⟨e,h1,fun u v u1 u2 u3=>?_,Runs.frame h2 fun k k1 k2=>f k (by omega) k2⟩
  rw [f u (by omega) (by omega),f v (by omega) (by omega)]
  exact h3 u v u1 u2 u3
theorem Runs.append {xs:Array Keyed}:∀ {l r:List (Nat × Nat × Nat)} {i j:Nat},Runs R xs (l ++ r) i j ↔ ∃ m,Runs R xs l i m∧Runs R xs r m j
 | [],r,i,j=>⟨fun h=>⟨i,rfl,h⟩,fun ⟨m,e,h⟩=>by cases e; exact h⟩
 | (a,n,p) :: l,r,i,j=>by
  constructor
  ·rintro ⟨e,h1,h3,h2⟩
   obtain ⟨m,h4,h5⟩:=Runs.append.mp h2
   exact ⟨m,⟨e,h1,h3,h4⟩,h5⟩
  ·rintro ⟨m,⟨e,h1,h3,h4⟩,h5⟩
   exact ⟨e,h1,h3,Runs.append.mpr ⟨m,h4,h5⟩⟩
theorem Hw {α:Type} {l:List α} {i:Nat} (h:i + 1 < l.length):l = l.take i ++ l[i] :: l[i + 1] :: l.drop (i + 2):=by
 have:=(List.take_append_drop i l).symm
 rw [List.drop_eq_getElem_cons (by omega),List.drop_eq_getElem_cons h] at this
 exact this
theorem ui {pd:Array (Nat × Nat × Nat)} {i:Nat} {v:Nat × Nat × Nat} (h:i + 1 < pd.size):((pd.setIfInBounds i v).eraseIdxIfInBounds (i + 1)).toList = pd.toList.take i ++ v :: pd.toList.drop (i + 2):=by
 rw [Array.toList_eraseIdxIfInBounds,Array.toList_setIfInBounds]
 have e:=Hw (l:=pd.toList) (i:=i) (by simpa using h)
 have hl:(pd.toList.take i).length = i:=by rw [List.length_take]; simp; omega
 generalize pd.toList.take i = l1 at *
 generalize pd.toList.drop (i + 2) = l2 at *
 rw [e]
 rw [List.set_append_right _ _ (by omega),hl,Nat.sub_self,List.set_cons_zero,List.eraseIdx_append_of_length_le (by omega),hl,show i + 1 - i = 1 by omega]
 rfl
end
end Tm
namespace Tm
open PySem PyProof.Rows
theorem BN (i:Nat):mergeAt' i = (do
 let z ← get
 let (some (sa,na,pw),some (sb,nb,_)):=((pendingOf z)[i]?,(pendingOf z)[i + 1]?) | unsupported "internal:list.sort.pending"
 set (SortSt.mk' (kindOf z) (arrOf z) (((pendingOf z).setIfInBounds i (sa,na + nb,pw)).eraseIdxIfInBounds (i + 1)) (gallopOf z) (failedOf z))
 let some k ← gal' false (← elem' (arrOf z) sb) (arrOf z) sa na 0 | return false
 let (sa,na):=(sa + k,na - k)
 if na == 0 then return true
 let some nb ← gal' true (← elem' (arrOf z) (sa + na - 1)) (arrOf z) sb nb (nb - 1) | return false
 if nb == 0 then return true
 let x:=(arrOf z).extract sa sb
 let y:=(arrOf z).extract sb (sb + nb)
 let m ← if na ≤ nb then T4 x y else T5 x y
 modify fun z=>SortSt.mk' (kindOf z) (m.toList.zipIdx.foldl (fun a (p,j)=>a.setIfInBounds (sa + j) p) (arrOf z)) (pendingOf z) (gallopOf z) (failedOf z)
 return (failedOf (← get)).isNone):=rfl
section
variable {R:Keyed→Nat} {prog:Program} {w:World} {A:Around} {E:Value→Shared→Prop} {s:Shared} {κ:SortKind} {a₀:Array Keyed} {st:SortSt}
theorem Kc {σ:Type} {M:Model} {st st':σ} {Q:PUnit→σ→Prop} (h:Q ⟨⟩ st'):wpS M A E s (set st':StateT σ Sem PUnit) Q st:=by
 unfold wpS; rw [StateT.run_set]; exact wpAny_pure ⟨rfl,h⟩
theorem Kd {i sa na pa sb nb pb:Nat} {Q:Bool→SortSt→Prop} (C:C8 R prog w A κ a₀ s) (hB:SB κ a₀ st) (e1:(pendingOf st)[i]? = some (sa,na,pa)) (e2:(pendingOf st)[i + 1]? = some (sb,nb,pb)) (eb:sb = sa + na) (n1:1 ≤ na) (n2:1 ≤ nb) (hn:sb + nb ≤ a₀.size)
  (sA:Sr R (arrOf st) sa (sa + na)) (sB:Sr R (arrOf st) sb (sb + nb))
  (h:∀ z,SB κ a₀ z→pendingOf z = ((pendingOf st).setIfInBounds i (sa,na + nb,pa)).eraseIdxIfInBounds (i + 1)→Sr R (arrOf z) sa (sb + nb)→(∀ k,k < sa∨sb + nb ≤ k→Kr R (arrOf z) k = Kr R (arrOf st) k)→Q true z):wpS (model prog w) A E s (mergeAt' i) Q st:=by
 rw [BN]
 refine wpS_bind (wpS_get ?_)
 have hsz:=hB.size
 rw [e1,e2]
 dsimp only
 refine wpS_bind (Kc ?_)
 have BO:SB κ a₀ (SortSt.mk' (kindOf st) (arrOf st) (((pendingOf st).setIfInBounds i (sa,na + nb,pa)).eraseIdxIfInBounds (i + 1)) (gallopOf st) (failedOf st)):=⟨hB.pm,hB.kd,hB.fl⟩
 have ea:arrOf (SortSt.mk' (kindOf st) (arrOf st) (((pendingOf st).setIfInBounds i (sa,na + nb,pa)).eraseIdxIfInBounds (i + 1)) (gallopOf st) (failedOf st)) = arrOf st:=rfl
 have ep:pendingOf (SortSt.mk' (kindOf st) (arrOf st) (((pendingOf st).setIfInBounds i (sa,na + nb,pa)).eraseIdxIfInBounds (i + 1)) (gallopOf st) (failedOf st)) = ((pendingOf st).setIfInBounds i (sa,na + nb,pa)).eraseIdxIfInBounds (i + 1):=rfl
 generalize SortSt.mk' (kindOf st) (arrOf st) (((pendingOf st).setIfInBounds i (sa,na + nb,pa)).eraseIdxIfInBounds (i + 1)) (gallopOf st) (failedOf st) = z1 at BO ea ep ⊢
 generalize arrOf st = xs at *
 have mem:∀ v ∈ xs.toList,v ∈ a₀.toList:=fun v hv=>(Array.perm_iff_toList_perm.mp BO.pm).mem_iff.mp (by rw [ea]; exact hv)
 have ZF:∀ {i:Nat} (h:i < xs.size),xs[i] ∈ a₀.toList:=fun h=>mem _ (by simp)
 have Rm:∀ {i:Nat} (h:i < xs.size),Kr R xs i = R xs[i]:=fun h=>dA h
 refine wpS_bind (jD (by omega) (wpS_bind (wj C BO.kd (ZF (by omega)) mem (by omega) (by omega) sA fun k k1 kt kf=>?_)))
 have Ua:∀ u,sa ≤ u→u < sa + k→Kr R xs u ≤ Kr R xs sb:=fun u u1 u2=>by
  have z:=kt (u - sa) (by omega)
  rw [show sa + (u - sa) = u by omega] at z
  rw [Rm (i:=sb) (by omega)]
  unfold nE at z; simp at z; omega
 have k1f:∀ u,sa + k ≤ u→u < sb→Kr R xs sb < Kr R xs u:=fun u u1 u2=>by
  have z:=kf (u - sa) (by omega) (by omega)
  rw [show sa + (u - sa) = u by omega] at z
  rw [Rm (i:=sb) (by omega)]
  unfold nE at z; simp at z; omega
 clear kt kf
 dsimp only
 by_cases c1:(na - k == 0) = true
 ·rw [if_pos c1]
  simp only [beq_iff_eq] at c1
  refine wpS_pure (h z1 BO ep (fun u v u1 u2 u3=>?_) fun _ _=>by rw [ea])
  rw [ea]
  by_cases v1:v < sb
  ·exact sA u v u1 u2 (by omega)
  ·by_cases v2:sb ≤ u
   ·exact sB u v v2 u2 u3
   ·exact Nat.le_trans (Ua u u1 (by omega)) (sB sb v (Nat.le_refl _) (by omega) u3)
 rw [if_neg c1]
 simp only [beq_iff_eq] at c1
 refine wpS_bind (jD (by omega) (wpS_bind (wj C BO.kd (ZF (by omega)) mem (by omega) (by omega) sB fun k' k2 kt kf=>?_)))
 have PN:sa + k + (na - k) - 1 = sb - 1:=by omega
 have k2t:∀ u,sb ≤ u→u < sb + k'→Kr R xs u < Kr R xs (sb - 1):=fun u u1 u2=>by
  have z:=kt (u - sb) (by omega)
  rw [show sb + (u - sb) = u by omega] at z
  rw [← PN,Rm (i:=sa + k + (na - k) - 1) (by omega)]
  unfold nE at z; simp at z; omega
 have ZG:∀ u,sb + k' ≤ u→u < sb + nb→Kr R xs (sb - 1) ≤ Kr R xs u:=fun u u1 u2=>by
  have z:=kf (u - sb) (by omega) (by omega)
  rw [show sb + (u - sb) = u by omega] at z
  rw [← PN,Rm (i:=sa + k + (na - k) - 1) (by omega)]
  unfold nE at z; simp at z; omega
 clear kt kf
 dsimp only
 by_cases c2:(k' == 0) = true
 ·rw [if_pos c2]
  simp only [beq_iff_eq] at c2
  refine wpS_pure (h z1 BO ep (fun u v u1 u2 u3=>?_) fun _ _=>by rw [ea])
  rw [ea]
  by_cases v1:v < sb
  ·exact sA u v u1 u2 (by omega)
  ·by_cases v2:sb ≤ u
   ·exact sB u v v2 u2 u3
   ·exact Nat.le_trans (sA u (sb - 1) u1 (by omega) (by omega)) (ZG v (by omega) u3)
 rw [if_neg c2]
 simp only [beq_iff_eq] at c2
 have hx:∀ j,j < sb - (sa + k)→Kr R (xs.extract (sa + k) sb) j = Kr R xs (sa + k + j):=fun j hj=>Hv hj (by omega)
 have hy:∀ j,j < k'→Kr R (xs.extract sb (sb + k')) j = Kr R xs (sb + j):=fun j hj=>Hv (by omega) (by omega)
 have zx:(xs.extract (sa + k) sb).size = sb - (sa + k):=by rw [Array.size_extract]; omega
 have zy:(xs.extract sb (sb + k')).size = k':=by rw [Array.size_extract]; omega
 have ZH:∀ a b,∀ v ∈ (xs.extract a b).toList,v ∈ a₀.toList:=fun a b v hv=>by
  rw [dD] at hv
  exact mem v (List.mem_of_mem_drop (List.mem_of_mem_take hv))
 have N:M4 R a₀ (xs.extract (sa + k) sb) (xs.extract sb (sb + k')):=by
  refine ⟨ZH _ _,ZH _ _,Lm fun u v u1 u2 u3=>?_,Lm fun u v u1 u2 u3=>?_,by omega,by omega,fun j hj=>?_,fun j hj=>?_⟩
  ·rw [zx] at u3; rw [hx u (by omega),hx v u3]; exact sA _ _ (by omega) (by omega) (by omega)
  ·rw [zy] at u3; rw [hy u (by omega),hy v u3]; exact sB _ _ (by omega) (by omega) (by omega)
  ·rw [zy] at hj; rw [zx,hy j hj,hx _ (by omega),show sa + k + (sb - (sa + k) - 1) = sb - 1 by omega]
   exact Nat.le_of_lt (k2t _ (by omega) (by omega))
  ·rw [zx] at hj; rw [hy 0 (by omega),hx j hj]
   exact Nat.le_of_lt (k1f _ (by omega) (by omega))
 have fin:∀ (m:Array Keyed) (z:SortSt),Gs z1 z→Mz R (xs.extract (sa + k) sb) (xs.extract sb (sb + k')) m→wpS (model prog w) A E s (do
   modify fun z=>SortSt.mk' (kindOf z) (m.toList.zipIdx.foldl (fun a (p,j)=>a.setIfInBounds (sa + k + j) p) (arrOf z)) (pendingOf z) (gallopOf z) (failedOf z)
   return (failedOf (← get)).isNone) Q z:=by
  rintro m _ ⟨g,rfl⟩ ⟨pm,so⟩
  have Rn:m.toList.Perm (xs.extract (sa + k) (sb + k')).toList:=by
   refine pm.trans (List.Perm.of_eq ?_)
   rw [dD,dD,dD]
   have t:=List.take_append_drop (sb - (sa + k)) ((xs.toList.drop (sa + k)).take (sb + k' - (sa + k)))
   rw [← t,List.take_take,show min (sb - (sa + k)) (sb + k' - (sa + k)) = sb - (sa + k) by omega,List.drop_take,List.drop_drop,show sa + k + (sb - (sa + k)) = sb by omega,show sb + k' - (sa + k) - (sb - (sa + k)) = sb + k' - sb by omega]
  obtain ⟨zm,wp⟩:=Kb (m:=m) (xs:=xs) (lo:=sa + k) (hi:=sb + k') (by omega) (by omega) Rn
  have kw:=fun u=>PM (R:=R) m xs (sa + k) (by omega) u
  have inm:∀ v ∈ m.toList,∃ u,sa + k ≤ u∧u < sb + k'∧R v = Kr R xs u:=fun v hv=>by
   obtain ⟨u,u1,u2,u3,u4⟩:=pK (R:=R) (Rn.mem_iff.mp hv)
   exact ⟨u,u1,u2,u4⟩
  have ZI:∀ j,j < m.size→∃ u,sa + k ≤ u∧u < sb + k'∧Kr R m j = Kr R xs u:=fun j hj=>by
   obtain ⟨u,u1,u2,u3⟩:=inm m[j] (by simp)
   exact ⟨u,u1,u2,by rw [dA hj]; exact u3⟩
  refine wpS_bind (wpS_modify (wpS_bind (wpS_get ?_)))
  have fl:failedOf z1 = none:=BO.fl
  show wpS _ _ _ _ (pure (failedOf z1).isNone) Q _
  rw [fl]
  refine wpS_pure (h _ ⟨?_,BO.kd,rfl⟩ ep (fun u v u1 u2 u3=>?_) fun u hu=>?_)
  ·show (wr (arrOf z1) (sa + k) m.toList.zipIdx).Perm a₀
   rw [ea]
   have:=BO.pm
   rw [ea] at this
   exact wp.trans this
  ·show Kr R (wr (arrOf z1) (sa + k) m.toList.zipIdx) u ≤ Kr R (wr (arrOf z1) (sa + k) m.toList.zipIdx) v
   rw [ea,kw,kw,zm]
   by_cases iu:sa + k ≤ u∧u < sb + k'
   ·rw [if_pos iu]
    by_cases iv:sa + k ≤ v∧v < sb + k'
    ·rw [if_pos iv]
     exact PW.le so (by omega) (by omega)
    ·rw [if_neg iv]
     obtain ⟨t,t1,t2,t3⟩:=ZI (u - (sa + k)) (by omega)
     rw [t3]
     by_cases tb:t < sb
     ·exact Nat.le_trans (sA t (sb - 1) (by omega) (by omega) (by omega)) (ZG v (by omega) u3)
     ·exact sB t v (by omega) (by omega) u3
   ·rw [if_neg iu]
    by_cases iv:sa + k ≤ v∧v < sb + k'
    ·rw [if_pos iv]
     obtain ⟨t,t1,t2,t3⟩:=ZI (v - (sa + k)) (by omega)
     rw [t3]
     by_cases tb:t < sb
     ·exact sA u t u1 (by omega) (by omega)
     ·exact Nat.le_trans (Ua u u1 (by omega)) (sB sb t (Nat.le_refl _) (by omega) (by omega))
    ·rw [if_neg iv]
     by_cases v1:v < sb
     ·exact sA u v u1 u2 (by omega)
     ·by_cases v2:sb ≤ u
      ·exact sB u v v2 u2 u3
      ·exact Nat.le_trans (Ua u u1 (by omega)) (sB sb v (Nat.le_refl _) (by omega) u3)
  ·show Kr R (wr (arrOf z1) (sa + k) m.toList.zipIdx) u = _
   rw [ea,kw,zm,if_neg (by omega)]
 by_cases c3:na - k ≤ k'
 ·rw [if_pos c3]
  exact wpS_bind (PB C BO.kd N fun m z gz mz=>fin m z gz mz)
 ·rw [if_neg c3]
  exact wpS_bind (PL C BO.kd N fun m z gz mz=>fin m z gz mz)
end
end Tm
namespace Tm
open PySem PyProof.Rows
section
variable {R:Keyed→Nat} {prog:Program} {w:World} {A:Around} {E:Value→Shared→Prop} {s:Shared} {κ:SortKind} {a₀:Array Keyed} {st:SortSt}
theorem zG {i lo:Nat} {Q:Bool→SortSt→Prop} (C:C8 R prog w A κ a₀ s) (hB:SB κ a₀ st) (hr:Runs R (arrOf st) (pendingOf st).toList 0 lo) (hi:i + 1 < (pendingOf st).size) (hn:lo ≤ a₀.size)
  (h:∀ z,SB κ a₀ z→Runs R (arrOf z) (pendingOf z).toList 0 lo→(pendingOf z).size + 1 = (pendingOf st).size→(∀ k,lo ≤ k→Kr R (arrOf z) k = Kr R (arrOf st) k)→Q true z):wpS (model prog w) A E s (mergeAt' i) Q st:=by
 have hl:(pendingOf st).toList.length = (pendingOf st).size:=Array.length_toList
 have e:=Hw (l:=(pendingOf st).toList) (i:=i) (by omega)
 have g1:(pendingOf st)[i]? = some ((pendingOf st).toList[i]'(by omega)):=by rw [← Array.getElem?_toList,List.getElem?_eq_getElem]
 have g2:(pendingOf st)[i + 1]? = some ((pendingOf st).toList[i + 1]'(by omega)):=by rw [← Array.getElem?_toList,List.getElem?_eq_getElem]
 generalize (pendingOf st).toList[i]'(by omega) = v1 at e g1
 generalize (pendingOf st).toList[i + 1]'(by omega) = v2 at e g2
 obtain ⟨sa,na,pa⟩:=v1
 obtain ⟨sb,nb,pb⟩:=v2
 rw [e] at hr
 obtain ⟨m,r1,r2⟩:=Runs.append.mp hr
 obtain ⟨ea,n1,s1,eb,n2,s2,r3⟩:=r2
 have b3:=r3.le
 have b1:=r1.le
 refine Kd C hB g1 g2 (by omega) n1 n2 (by omega) (by rw [ea]; exact s1) (by rw [eb]; exact s2) fun z hz pz sz fz=>h z hz ?_ ?_ fun k hk=>fz k (.inr (by omega))
 ·rw [pz,ui hi]
  refine Runs.append.mpr ⟨m,r1.frame fun k _ k2=>fz k (.inl (by omega)),ea,by omega,?_,?_⟩
  ·rw [ea,eb] at sz; rw [show m + (na + nb) = m + na + nb by omega]; exact sz
  ·rw [show m + (na + nb) = m + na + nb by omega]
   exact r3.frame fun k k1 _=>fz k (.inr (by omega))
 ·rw [pz]
  have:=congrArg List.length (ui (pd:=pendingOf st) (v:=(sa,na + nb,pa)) hi)
  rw [Array.length_toList] at this
  rw [this,List.length_append,List.length_cons,List.length_take,List.length_drop]
  omega
theorem zH {xs:Array Keyed} {f:Nat × Nat × Nat→Nat × Nat × Nat} (hf:∀ a n p,(f (a,n,p)).1 = a∧(f (a,n,p)).2.1 = n):∀ {l:List (Nat × Nat × Nat)} {k i j:Nat},Runs R xs l i j→Runs R xs (l.modify k f) i j
 | [],k,i,j,h=>by cases k <;> exact h
 | (a,n,p) :: r,0,i,j,h=>by
  rw [List.modify_zero_cons]
  obtain ⟨f1,f2⟩:=hf a n p
  generalize f (a,n,p) = v at f1 f2
  obtain ⟨a',n',p'⟩:=v
  cases f1; cases f2
  exact h
 | (a,n,p) :: r,k + 1,i,j,h=>by
  rw [List.modify_succ_cons]
  obtain ⟨e,h1,h3,h2⟩:=h
  exact ⟨e,h1,h3,zH hf h2⟩
theorem wm {xs:Array Keyed} {l:List (Nat × Nat × Nat)} {lo n:Nat} (h:Runs R xs l 0 lo) (h1:1 ≤ n) (hs:Sr R xs lo (lo + n)):Runs R xs (l ++ [(lo,n,0)]) 0 (lo + n):=Runs.append.mpr ⟨lo,h,rfl,h1,hs,rfl⟩
theorem M7 {Q:Unit→SortSt→Prop} (C:C8 R prog w A κ a₀ s) (hB:SB κ a₀ st) (hp:pendingOf st = #[]) (h2:2 ≤ a₀.size) (h:∀ z,SB κ a₀ z→Sr R (arrOf z) 0 a₀.size→Q () z):wpS (model prog w) A E s sortRuns' Q st:=by
 rw [sortRuns'_eq]
 refine wpS_bind (wpS_get ?_)
 dsimp only
 rw [hB.size]
 refine wpS_bind (wpS_mono (wpS_forRange (I:=fun x c z=>∃ lo,c = (none,lo)∧SB κ a₀ z∧x ≤ lo∧lo ≤ a₀.size∧Runs R (arrOf z) (pendingOf z).toList 0 lo)
  (Q:=fun c z=>c = (none,a₀.size)∧SB κ a₀ z∧Runs R (arrOf z) (pendingOf z).toList 0 a₀.size) ?_ ?_ ?_) ?_)
 ·rintro x c z _ hx ⟨lo,rfl,hz,hxl,Iw,hr⟩
  dsimp only
  by_cases Dc:lo ≥ a₀.size
  ·rw [if_pos Dc]
   obtain rfl : lo = a₀.size:=by omega
   exact wpS_pure ⟨rfl,hz,hr⟩
  rw [if_neg Dc]
  refine wpS_bind (w_count C hz (by omega) (by omega) fun m xs BO Pq m1 m2 s1=>?_)
  dsimp only
  apply T6 (prog:=prog) (w:=w) (A:=A) (E:=E) (s:=s) (P:=fun g z1=>SB κ a₀ z1∧pendingOf z1 = pendingOf z∧(∀ k,k < lo→Kr R (arrOf z1) k = Kr R (arrOf z) k)∧Sr R (arrOf z1) lo (lo + g)∧1 ≤ g∧lo + g ≤ a₀.size)
  case main =>
   intro wk
   by_cases hm:m < minRun' a₀.size a₀.size 0
   ·rw [if_pos hm]
    refine wpS_bind (wpS_lift (wpAny_rule ⟨rfl,?_⟩))
    refine wpS_bind (Pw C BO (by omega) (by omega) (by omega) s1 fun ys Ri fr2 s2=>?_)
    simp only [Bool.not_true,Bool.false_eq_true,if_false]
    have hn:1 ≤ min (a₀.size - lo) (minRun' a₀.size a₀.size 0)∧lo + min (a₀.size - lo) (minRun' a₀.size a₀.size 0) ≤ a₀.size:=⟨by omega,by omega⟩
    generalize min (a₀.size - lo) (minRun' a₀.size a₀.size 0) = g at s2 hn ⊢
    exact wk g _ ⟨Ri,rfl,fun k hk=>(fr2 k hk).trans (Pq k hk),s2,hn⟩
   ·rw [if_neg hm]
    exact wk m _ ⟨BO,rfl,Pq,s1,m1,by omega⟩
  case key =>
   clear BO Pq s1
   intro g z1 ⟨Ro,pz1,fz1,E6,ZJ,gle⟩
   refine wpS_bind (wpS_get ?_)
   have Rp:Runs R (arrOf z1) (pendingOf z1).toList 0 lo:=by rw [pz1]; exact hr.frame fun k _ k2=>fz1 k k2
   split
   ·rename_i b1 b2 b3 eb
    refine wpS_bind (wpS_mono (wpS_forRange (I:=fun _ c z2=>c = (none,())∧SB κ a₀ z2∧Runs R (arrOf z2) (pendingOf z2).toList 0 lo∧∀ k,lo ≤ k→Kr R (arrOf z2) k = Kr R (arrOf z1) k) (Q:=fun c z2=>c = (none,())∧SB κ a₀ z2∧Runs R (arrOf z2) (pendingOf z2).toList 0 lo∧∀ k,lo ≤ k→Kr R (arrOf z2) k = Kr R (arrOf z1) k) ?_ (fun _ _ z=>z) ⟨rfl,Ro,Rp,fun _ _=>rfl⟩) ?_)
    ·rintro x c z2 _ _ ⟨rfl,ig,Ob,M8⟩
     refine wpS_bind (wpS_get ?_)
     by_cases c1:(pendingOf z2).size > 1
     ·rw [if_pos c1]
      split
      ·split
       ·exact wpS_pure ⟨rfl,ig,Ob,M8⟩
       ·refine wpS_bind (zG C ig Ob (by omega) Iw fun z3 d1 d2 d3 d4=>?_)
        exact wpS_pure ⟨rfl,d1,d2,fun k hk=>(d4 k hk).trans (M8 k hk)⟩
      ·exact wpS_pure ⟨rfl,ig,Ob,M8⟩
     ·rw [if_neg c1]
      exact wpS_pure ⟨rfl,ig,Ob,M8⟩
    ·rintro c z2 ⟨rfl,ig,Ob,M8⟩
     dsimp only
     refine wpS_bind (wpS_modify (wpS_bind (wpS_modify (wpS_pure ⟨_,rfl,⟨ig.pm,ig.kd,ig.fl⟩,by omega,by omega,?_⟩))))
     rw [Array.toList_push,Array.toList_modify]
     refine wm (zH (fun _ _ _=>⟨rfl,rfl⟩) Ob) ZJ fun u v u1 u2 u3=>?_
     show Kr R (arrOf z2) u ≤ Kr R (arrOf z2) v
     rw [M8 u u1,M8 v (by omega)]
     exact E6 u v u1 u2 u3
   ·refine wpS_bind (wpS_modify (wpS_pure ⟨_,rfl,⟨Ro.pm,Ro.kd,Ro.fl⟩,by omega,by omega,?_⟩))
    rw [Array.toList_push]
    exact wm Rp ZJ E6
 ·rintro c z ⟨lo,rfl,hz,hxl,Iw,hr⟩
  obtain rfl : lo = a₀.size:=by omega
  exact ⟨rfl,hz,hr⟩
 ·exact ⟨0,rfl,hB,Nat.zero_le _,Nat.zero_le _,by rw [hp]; rfl⟩
 ·rintro c z ⟨rfl,hz,hr⟩
  dsimp only
  have fin:∀ z,SB κ a₀ z→Runs R (arrOf z) (pendingOf z).toList 0 a₀.size→(pendingOf z).size ≤ 1→Sr R (arrOf z) 0 a₀.size:=fun z hz hr h1=>by
   have hl:(pendingOf z).toList.length ≤ 1:=by rw [Array.length_toList]; exact h1
   generalize (pendingOf z).toList = l at hr hl
   match l,hr,hl with
   | [],hr,_=>exact absurd hr (show ¬ (0 = a₀.size) by omega)
   | [(a,n,p)],⟨_,_,s1,e⟩,_ =>
    have e:0 + n = a₀.size:=e
    rw [e] at s1; exact s1
   | _ :: _ :: _,_,hl=>simp at hl
  have ps:(pendingOf z).size ≤ a₀.size:=by have:=hr.le; rw [Array.length_toList] at this; omega
  refine wpS_bind (wpS_mono (wpS_forRange (I:=fun x c z=>c = (none,())∧SB κ a₀ z∧Runs R (arrOf z) (pendingOf z).toList 0 a₀.size∧(pendingOf z).size + x ≤ a₀.size) (Q:=fun c z=>c = (none,())∧SB κ a₀ z∧Sr R (arrOf z) 0 a₀.size) ?_ ?_ ?_) ?_)
  ·rintro x c z _ hx ⟨rfl,hz,hr,hs⟩
   refine wpS_bind (wpS_get ?_)
   by_cases h1:(pendingOf z).size ≤ 1
   ·rw [if_pos h1]
    exact wpS_pure ⟨rfl,hz,fin z hz hr h1⟩
   rw [if_neg h1]
   refine wpS_bind (wpS_mono (zG (Q:=fun b z2=>b = true∧SB κ a₀ z2∧Runs R (arrOf z2) (pendingOf z2).toList 0 a₀.size∧(pendingOf z2).size + 1 = (pendingOf z).size) C hz hr ?_ (Nat.le_refl _) fun z2 b1 b2 b3 b4=>⟨rfl,b1,b2,b3⟩) ?_)
   ·by_cases c2:(pendingOf z).size - 2 > 0
    ·rw [if_pos c2]
     split <;> omega
    ·rw [if_neg c2,Option.any_none,if_neg Bool.false_ne_true]
     omega
   ·rintro b z2 ⟨rfl,b1,b2,b3⟩
    exact wpS_pure ⟨rfl,b1,b2,by omega⟩
  ·rintro c z ⟨rfl,hz,hr,hs⟩
   exact ⟨rfl,hz,fin z hz hr (by omega)⟩
  ·exact ⟨rfl,hz,hr,by omega⟩
  ·rintro c z ⟨rfl,hz,hs⟩
   exact wpS_pure (h z hz hs)
end
end Tm
namespace Tm
open PySem PySem.Calls PySem.W PyProof.Rows
section
variable {prog:Program} {w:World} {A:Around} {E:Value→Shared→Prop} {s:Shared} {h₀:Heap} {L a:Addr} {m:Str→Option Value} {news:List (Addr × Obj)} {vs:List Value}
noncomputable def Ask (prog:Program) (w:World) (A:Around) (h₀:Heap) (L:Addr) (m:Str→Option Value) (vs:List Value) (a:Addr) (e:Nat) (C:Shared→Prop) (s:Shared):Prop :=
 wpAny (model prog w) A (keyKind' vs.toArray) (fun κ z=>z = s∧∃ R,C8 R prog w A κ (pairsOf vs) z∧∀ o:Array Keyed,o.Perm (pairsOf vs)→Sr R o 0 o.size→KasFin h₀ L m a e (o.toList.map (·.2)) C z) (fun _ _=>False) s
noncomputable abbrev emp (h:Heap) (a:Addr):Heap:=h.update a (Obj.mapSeq fun _=>(#[]:Array Value))
noncomputable abbrev M9 (h:Heap) (a:Addr) (vs:List Value):Heap:=((emp h a).push (seqObj "tuple" vs.toArray 0)).push (seqObj "list" #[] 0)
theorem Ke {n:Nat} {P:PySem.Fin→Shared→Prop} (F:Fr h₀ L s.heap m) (N:News h₀ L s.heap news) (ho:s.heap.get? a = some (seqObj "list" vs.toArray n)) (ZK:a ≠ L) (ZL:h₀.get? a = none) (na3:∀ q ∈ news,q.1 ≠ a)
  (h2:2 ≤ vs.length) (hz:vs.length ≤ sizeLine)
  (h:∀ e g,Fr h₀ L g m→News h₀ L g ((a,seqObj "list" #[] e) :: news)→Ask prog w A h₀ L m vs a e (fun z=>P (.done (.ret .none)) z) { s with heap:=g }) :
  wpAny (model prog w) A (Builtin.«list.sort» ⟨[.ref a],[]⟩) P E s:=by
 have u1:Heap.SameBut a s.heap (emp s.heap a):=Heap.SameBut.update ..
 obtain ⟨e,he⟩ : ∃ e,(emp s.heap a).get? a = some (seqObj "list" #[] e):=⟨_,get?_update_seq ho fun _=>#[]⟩
 have up:∀ b x,(emp s.heap a).get? b = some x→(M9 s.heap a vs).get? b = some x:=fun b x z=>Heap.get?_push_of_some _ (Heap.get?_push_of_some _ z)
 have F1:Fr h₀ L (M9 s.heap a vs) m:=((kas_fr F u1 ZK ZL).push _).push _
 have N1:News h₀ L (M9 s.heap a vs) ((a,seqObj "list" #[] e) :: news):=fun q hq=>by
  rcases List.mem_cons.mp hq with rfl | hq
  ·exact ⟨up _ _ he,ZK,ZL⟩
  ·exact ((kas_news N u1 na3).grown up) q hq
 have ask:=h e _ F1 N1
 have hl:vs.toArray.size = vs.length:=by simp
 rw [list_sort_plain]
 refine wpAny_bind (listItems_at ho rfl (wpAny_bind (listUpdate_at ho rfl ?_ (by rw [hl]; first | exact hz | (have z:=hz; rw [sizeLine_eq] at z; omega) | (have z:=hz; rw [sizeLine_eq] at z ⊢; omega)) (Nat.zero_le _))))
 refine wpAny_bind (seqEpoch_at he rfl (wpAny_bind (wpAny_newTuple ?_ hz)))
 refine wpAny_bind (wpAny_newList (wpAny_holding ?_) (Nat.zero_le _))
 show wpAny (model prog w) A _ P E { s with heap:=M9 s.heap a vs }
 dsimp only
 have c2:¬ vs.toArray.size < 2:=by omega
 rw [if_neg c2,if_neg c2]
 refine wpAny_bind (wpAny_mono ask (fun κ z hk=>?_) fun _ _ x=>x.elim)
 obtain ⟨rfl,R,C,hk⟩:=hk
 have sz:(pairsOf vs).size = vs.length:=pairsOf_size vs
 have run:=M7 (E:=E) (R:=R) (st:=SortSt.mk' κ (pairsOf vs) #[] 7 none) (Q:=fun _ z=>failedOf z = none∧(arrOf z).Perm (pairsOf vs)∧Sr R (arrOf z) 0 (arrOf z).size) C ⟨Array.Perm.refl _,rfl,rfl⟩ rfl (by omega) fun z hz so=>⟨hz.fl,hz.pm,by rw [hz.size]; exact so⟩
 refine wpAny_bind (wpAny_mono run ?_ fun _ _ x=>x)
 rintro ⟨⟨⟩,z⟩ _ ⟨rfl,hf,pm,so⟩
 obtain ⟨nw,g,F',N',U,k⟩:=hk _ pm so
 dsimp only at hf ⊢
 obtain ⟨pre,post,e0,hg,x1,x2⟩:=U.split
 rw [e0] at N'
 have na:=N' (a,seqObj "list" #[] e) (List.mem_append_right _ (.head _))
 have oe:(arrOf z).map (·.2) = List.toArray ((arrOf z).toList.map (·.2)):=by apply Array.toList_inj.mp; simp
 have Rc:(List.toArray ((arrOf z).toList.map (·.2))).size = vs.length:=by rw [← oe,Array.size_map,pm.size_eq,sz]
 rw [oe]
 generalize List.toArray ((arrOf z).toList.map (·.2)) = ov at *
 have u2:Heap.SameBut a (M9 s.heap a vs) ((M9 s.heap a vs).update a (Obj.mapSeq fun _=>ov)):=Heap.SameBut.update ..
 obtain ⟨c,hc⟩ : ∃ c,((M9 s.heap a vs).update a (Obj.mapSeq fun _=>ov)).get? a = some (seqObj "list" ov c):=⟨_,get?_update_seq na.1 fun _=>ov⟩
 refine wpAny_bind (seqEpoch_at na.1 rfl (wpAny_bind (listUpdate_at na.1 rfl ?_ (Nat.zero_le _) (by rw [Rc]; first | exact hz | (have z:=hz; rw [sizeLine_eq] at z; omega) | (have z:=hz; rw [sizeLine_eq] at z ⊢; omega)))))
 rw [hf]
 simp only [bne_self_eq_false,Bool.false_eq_true,if_false]
 refine wpAny_pure (k _ c (kas_fr F' u2 na.2.1 na.2.2) ?_)
 rw [hg]
 exact news_set N' x1 x2 u2 hc
noncomputable abbrev Na (h:Heap) (vs:List Value):Heap:=((h.push (seqObj "list" #[] 0)).update h.objs.size (Obj.mapSeq (· ++ vs.toArray))).push (seqObj "list" vs.toArray 0)
theorem EF {l:Addr} {Q:Value→Shared→Prop} (F:Fr h₀ L s.heap m) (N:News h₀ L s.heap news) (hl:s.heap.IsList l vs.toArray) (h2:2 ≤ vs.length) (hz:vs.length ≤ sizeLine)
  (h:∀ D e g,Fr h₀ L g m→News h₀ L g ((D,seqObj "list" #[] e) :: news)→(∀ q ∈ news,q.1 < D)→Ask prog w A.in1.in1 h₀ L m vs D e (fun z=>Q (.ref D) z) { s with heap:=g }) :
  wpAny (model prog w) A (call (.builtin "sorted") [.ref l]) Q E s:=by
 refine Calls.call_function_entry kind_sorted plain_sorted entry_sorted (args_sorted1 _) ?_
 unfold Builtin.«sorted»
 refine wpAny_bind (m:=checkCount "sorted" 1 1 _) (wpAny_pure (wpAny_bind (collect_list hl ?_ (by simpa using hz))))
 refine wpAny_bind (wpAny_newList ?_ hz)
 have z1:((s.heap.push (seqObj "list" #[] 0)).update s.heap.objs.size (Obj.mapSeq (· ++ vs.toArray))).objs.size = s.heap.objs.size + 1:=(Heap.size_update ..).trans (size_push' ..)
 have oL:(Na s.heap vs).get? (s.heap.objs.size + 1) = some (seqObj "list" vs.toArray 0):=by
  rw [← z1]; exact Heap.get?_push_size _ rfl
 have kp:∀ b o,s.heap.get? b = some o→(Na s.heap vs).get? b = some o:=fun b o q=>by
  have lt:b < s.heap.objs.size:=Heap.lt_size q
  rw [Heap.get?_push_ne _ _ _ (by rw [z1]; exact Nat.ne_of_lt (Nat.lt_succ_of_lt lt)),Heap.get?_update_ne _ _ _ _ (Nat.ne_of_lt lt),Heap.get?_push_ne _ _ _ (Nat.ne_of_lt lt)]
  exact q
 have lL:L < s.heap.objs.size:=F.ns.lt
 show wpAny _ _ _ _ _ { s with heap:=Na s.heap vs }
 rw [z1]
 refine wpAny_bind (wpAny_holding (wpAny_call_entry slot_list_sort ⟨_,oL,rfl⟩ entry_list_sort ?_ (args_list_sort _)))
 refine Ke (s:={ s with heap:=Na s.heap vs }) (F.kept kp) (N.grown kp) oL (Nat.ne_of_gt (Nat.lt_succ_of_lt lL)) (Heap.get?_none_of_le (Nat.le_trans F.above (Nat.le_succ_of_le (Nat.le_of_lt lL))))
  (fun q hq=>Nat.ne_of_lt (Nat.lt_succ_of_lt (Heap.lt_size (N q hq).1))) h2 hz fun e g F' N'=>?_
 refine wpAny_mono (h _ e g F' N' fun q hq=>Nat.lt_succ_of_lt (Heap.lt_size (N q hq).1)) (fun κ z hk=>?_) fun _ _ x=>x
 obtain ⟨e1,R,C,hk⟩:=hk
 exact ⟨e1,R,C,fun o op os=>(hk o op os).mono fun s3 hq=>⟨_,rfl,wpAny_pure ⟨_,rfl,hq⟩⟩⟩
end
end Tm
namespace Dl
open PySem PySem.Spec PyProof.Rows L2 PySem.W
noncomputable def km:RC:=fun ds Q=>match ds with
 | [.lst l]=>∃ ks sh,l = ks.map tD∧(∀ k ∈ ks,u5 k = sh)∧sh ≠ []∧∀ ms:List (List Key),ms.Perm ks→ms.Pairwise (fun a b=>klt b a = false)→Q (.lst (ms.map tD))
 | _=>False
theorem Hx {α β:Type} {f:α→β} {l m:List β} (h:l.Perm m):∀ r:List α,m = r.map f→∃ ps:List α,ps.Perm r∧l = ps.map f:=by
 induction h with
 | nil=>intro r e; cases r with
  | nil=>exact ⟨[],.nil,rfl⟩
  | cons _ _=>cases e
 | cons x _ ih=>intro r e; cases r with
  | nil=>cases e
  | cons a r =>
   rw [List.map_cons] at e
   injection e with e1 e2
   obtain ⟨ps,p1,p2⟩:=ih r e2
   exact ⟨a :: ps,p1.cons _,by rw [List.map_cons,← p2,e1]⟩
 | swap x y l=>intro r e; match r,e with
  | [],e=>cases e
  | [_],e=>simp at e
  | a :: b :: r,e =>
   simp only [List.map_cons,List.cons.injEq] at e
   obtain ⟨rfl,rfl,rfl⟩:=e
   exact ⟨b :: a :: r,.swap ..,rfl⟩
 | trans _ _ ih1 ih2=>intro r e; obtain ⟨ps,p1,p2⟩:=ih2 r e; obtain ⟨qs,q1,q2⟩:=ih1 ps p2; exact ⟨qs,q1.trans p1,q2⟩
noncomputable def BP (n:Nat) (lt:Nat→Nat→Bool) (i:Nat):Nat:=(List.range n).countP fun j=>lt j i
theorem wo {α:Type} {p q:α→Bool} {a:α}:∀ {l:List α},(∀ x ∈ l,p x = true→q x = true)→a ∈ l→q a = true→p a = false→l.countP p < l.countP q
 | [],_,h,_,_=>by cases h
 | x :: r,hi,hm,h1,h2=>by
  have le:r.countP p ≤ r.countP q:=List.countP_mono_left fun y hy=>hi y (List.mem_cons_of_mem _ hy)
  rw [List.countP_cons,List.countP_cons]
  rcases List.mem_cons.mp hm with rfl | hm
  ·rw [h1,h2]; simp; omega
  ·have:=wo (l:=r) (fun y hy=>hi y (List.mem_cons_of_mem _ hy)) hm h1 h2
   have:=hi x (List.mem_cons_self ..)
   cases hp:p x <;> cases hq:q x <;> simp_all <;> omega
theorem Nb {n:Nat} {lt:Nat→Nat→Bool} (W:Pr lt) {i j:Nat} (hi:i < n):decide (BP n lt i < BP n lt j) = lt i j:=by
 cases h:lt i j with
 | true =>
  refine decide_eq_true (wo (a:=i) (fun k _ hk=>?_) (List.mem_range.mpr hi) h (W.irr i))
  cases z:lt k j with
  | true=>rfl
  | false=>have:=W.tr i j k (W.asy _ _ h) z; rw [hk] at this; cases this
 | false =>
  refine decide_eq_false (Nat.not_lt.mpr (List.countP_mono_left fun k _ hk=>?_))
  cases z:lt k i with
  | true=>rfl
  | false=>have:=W.tr j i k h z; rw [hk] at this; cases this
open Classical in
noncomputable def IA (its:List Value) (v:Value):Nat:=if h:∃ i,i < its.length∧its.getD i .none = v then choose h else 0
theorem Nc {its:List Value} {v:Value} (h:∃ i,i < its.length∧its.getD i .none = v):IA its v < its.length∧its.getD (IA its v) .none = v:=by
 unfold IA; rw [dif_pos h]; exact Classical.choose_spec h
theorem zI:∀ {k l:List Key} {xs:List Value},Vals (k.map kV) xs→Vals (l.map kV) xs→k = l
 | [],[],_,_,_=>rfl
 | [],_ :: _,_,.nil,h=>by cases h
 | _ :: _,[],_,h,.nil=>by cases h
 | a :: k,b :: l,_,.cons r1 h1,.cons r2 h2=>by
  rw [zI h1 h2]
  congr 1
  cases a with
  | inl i=>obtain ⟨t,rfl⟩:=(show ∃ t,_ = Value.int i t from r1); cases b with
   | inl j=>obtain ⟨t',e⟩:=(show ∃ t',Value.int i t = Value.int j t' from r2); injection e with e; rw [e]
   | inr j=>obtain ⟨t',e⟩:=(show ∃ t',Value.int i t = Value.str j t' from r2); cases e
  | inr i=>obtain ⟨t,rfl⟩:=(show ∃ t,_ = Value.str i t from r1); cases b with
   | inl j=>obtain ⟨t',e⟩:=(show ∃ t',Value.str i t = Value.int j t' from r2); cases e
   | inr j=>obtain ⟨t',e⟩:=(show ∃ t',Value.str i t = Value.str j t' from r2); injection e with e; rw [e]
section
variable {X:Cx} {e:Expr} {es:List Expr} {t:lK} {p pos:Pos}
noncomputable def BQ (K:PySem.W.Frag):List V→Hp→VK→Prop:=fun xs H Q=>∃ (p:Addr) (vs:List V) (ks:List (List Key)) (sh:List Bool),xs = [.ref p]∧gG K H p vs∧vs.length = ks.length∧(∀ k ∈ ks,u5 k = sh)∧sh ≠ [] ∧
 (∀ i v,vs[i]? = some v→∃ a,v = .ref a∧kT K H a ((ks.getD i []).map kV))∧2 ≤ vs.length ∧
 ∀ ps:List Nat,ps.Perm (List.range vs.length)→(∀ i j,i ≤ j→j < vs.length→klt (ks.getD (ps.getD j 0) []) (ks.getD (ps.getD i 0) []) = false) →
  ∀ l,H l = none→Q (.ref l) (upd H l (.lst (ps.map fun i=>vs.getD i .aU)))
theorem BR:dq X (.builtin "sorted") (BQ X.K):=by
 rintro pins s σ H xs us Q I r ⟨p,vs,ks,sh,rfl,hq,lk,Jh,Ub,ht,h2,q⟩
 obtain ⟨u,rfl,ru⟩:=r.one
 cases ru
 obtain ⟨its,rv,pl,hz⟩:=I.list hq
 have el:=rv.length
 obtain ⟨m,F⟩:=I.fr
 have BS:∀ i,i < its.length→u5 (ks.getD i []) = sh:=fun i hi=>by
  rw [List.getD_eq_getElem?_getD,List.getElem?_eq_getElem (by omega)]
  exact Jh _ (List.getElem_mem _)
 have tup:∀ i,i < its.length→∃ a o n xs,its.getD i .none = .ref a∧a ≠ X.env.locals∧s.heap.get? a = some o∧o.cls = .type "tuple"∧o.data = .seq (List.toArray xs) n∧Vals ((ks.getD i []).map kV) xs:=fun i hi=>by
  obtain ⟨a,ea,hs⟩:=ht i (vs[i]'(by omega)) (List.getElem?_eq_getElem _)
  obtain ⟨u,hu,ru⟩:=rv.get (List.getElem?_eq_getElem (show i < vs.length by omega))
  rw [ea] at ru
  have ru:u = .ref a:=ru
  subst ru
  have hL:a ≠ X.env.locals:=fun z=>by
   rcases hs with (h | ⟨o,h⟩) | ⟨o,_,_,hk,_⟩
   ·rw [z,I.free] at h; cases h
   ·rw [z,I.free] at h; cases h
   ·have h0:=I.ok.mod.yp a o hk
    have h5:=Heap.lt_size h0
    rw [z] at h5
    exact absurd (Nat.lt_of_lt_of_le h5 (Nat.le_trans I.ok.Io I.ok.above)) (Nat.lt_irrefl _)
  obtain ⟨ts,rt,⟨o,ho,hc,n,hd⟩,_⟩:=I.tuple hs
  exact ⟨a,o,n,ts,by rw [List.getD_eq_getElem?_getD,hu]; rfl,hL,ho,hc,hd,rt⟩
 refine Tm.EF (h₀:=X.base) F Fb pl.isList (by omega) (by rw [← el]; exact hz) fun D e1 h' F' N' low=>?_
 have Ln:∀ (g:Heap) (nw:List (Addr × Obj)),Fr X.base X.env.locals g m→News X.base X.env.locals g nw→(∀ q ∈ sL X.base s.heap X.env.locals,q ∈ nw)→∀ b o,b ≠ X.env.locals→s.heap.get? b = some o→g.get? b = some o:=fun g nw Fg Ng sub b o hb eb=>by
  cases z:X.base.get? b with
  | some u =>
   have:=I.bk b u z
   rw [eb] at this; cases this
   exact Fg.keep b _ z
  | none=>exact (Ng (b,o) (sub _ (qW hb z eb))).1
 have keep:=Ln h' _ F' N' (fun q hq=>List.mem_cons_of_mem _ hq)
 have nD:=N' (D,seqObj "list" #[] e1) (List.mem_cons_self ..)
 have sD:s.heap.get? D = none:=by
  cases z:s.heap.get? D with
  | none=>rfl
  | some o=>exact absurd (low (D,o) (qW nD.2.1 nD.2.2 z)) (Nat.lt_irrefl _)
 cases sh with
 | nil=>exact absurd rfl Ub
 | cons T sr =>
 obtain ⟨fs,kt,lf,hi⟩:=rn (T:=T) (h:=h') (its:=its) fun v hv=>by
  obtain ⟨i,hi,ei⟩:=List.getElem_of_mem hv
  obtain ⟨a,o,n,xs,b1,b2,b3,b4,b5,b6⟩:=tup i hi
  have hk:=BS i hi
  generalize ks.getD i [] = kl at hk b6
  cases kl with
  | nil=>cases hk
  | cons k0 kr =>
   simp only [u5,List.map_cons,List.cons.injEq] at hk
   cases b6 with
   | @cons _ y _ yr ry vy =>
    refine ⟨a,o,_,n,y,?_,keep a o b2 b3,b4,b5,rfl,?_⟩
    ·rw [← b1,List.getD_eq_getElem?_getD,List.getElem?_eq_getElem hi,ei]; rfl
    ·rw [← hk.1]
     cases k0 with
     | inl m=>obtain ⟨t1,rfl⟩:=(show ∃ t,y = Value.int m t from ry); exact ⟨m,t1,rfl⟩
     | inr m=>obtain ⟨t1,rfl⟩:=(show ∃ t,y = Value.str m t from ry); exact ⟨m,t1,rfl⟩
 refine kat_kind (T:=if T then .type "str" else .type "int") kt (by omega) (fun v hv=>?_) (by cases T <;> decide) ?_
 ·have z:=hi v hv
  cases T with
  | true=>obtain ⟨i,t,rfl⟩:=z; exact .of_pure rfl
  | false=>obtain ⟨i,t,rfl⟩:=z; exact .of_pure rfl
 have lts:∀ i j,i < its.length→j < its.length→True:=fun _ _ _ _=>trivial
 have W:Pr fun i j=>klt (if i < its.length then ks.getD i [] else ks.getD 0 []) (if j < its.length then ks.getD j [] else ks.getD 0 []):=by
  have sh':∀ i,u5 (if i < its.length then ks.getD i [] else ks.getD 0 []) = T :: sr:=fun i=>by
   split
   ·exact BS i (by assumption)
   ·exact BS 0 (by omega)
  exact ⟨fun a=>C1 _,fun a b h=>C2 _ _ h,fun a b c h1 h2=>Hg _ _ _ ((sh' a).trans (sh' b).symm) ((sh' b).trans (sh' c).symm) h1 h2⟩
 generalize xw:(fun i j=>klt (if i < its.length then ks.getD i [] else ks.getD 0 []) (if j < its.length then ks.getD j [] else ks.getD 0 [])) = lt at W
 have ltE:∀ i j,i < its.length→j < its.length→lt i j = klt (ks.getD i []) (ks.getD j []):=fun i j hi hj=>by rw [← xw]; show klt (if i < its.length then _ else _) (if j < its.length then _ else _) = _; rw [if_pos hi,if_pos hj]
 have same:∀ i j,i < its.length→j < its.length→its.getD i .none = its.getD j .none→ks.getD i [] = ks.getD j []:=fun i j hi hj e=>by
  obtain ⟨a,o,n,xs,b1,b2,b3,b4,b5,b6⟩:=tup i hi
  obtain ⟨a',o',n',xs',c1,c2,c3,c4,c5,c6⟩:=tup j hj
  rw [b1,c1] at e
  cases e
  rw [b3] at c3; cases c3
  rw [b5] at c5
  injection c5 with e1 e2
  have e1:xs = xs':=by injection e1
  subst e1
  exact zI b6 c6
 have ZM:∀ i,i < its.length→IA its (its.getD i .none) < its.length∧ks.getD (IA its (its.getD i .none)) [] = ks.getD i []:=fun i hi=>by
  obtain ⟨h1,h2⟩:=Nc (its:=its) ⟨i,hi,rfl⟩
  exact ⟨h1,same _ _ h1 hi h2⟩
 have ZN:∀ i j,i < its.length→j < its.length→decide (BP its.length lt (IA its (its.getD i .none)) < BP its.length lt (IA its (its.getD j .none))) = klt (ks.getD i []) (ks.getD j []):=fun i j hi hj=>by
  obtain ⟨i1,i2⟩:=ZM i hi
  obtain ⟨j1,j2⟩:=ZM j hj
  rw [Nb W i1,ltE _ _ i1 j1,i2,j2]
 have pf:(pairsOf its).toList = (List.range its.length).map fun i=>(its.getD i .none,its.getD i .none):=by
  rw [pairsOf_toList]
  apply List.ext_getElem?
  intro k
  rw [List.getElem?_map]
  by_cases hk:k < its.length
  ·rw [List.getElem?_range hk]
   simp only [Option.map_some,List.getD_eq_getElem?_getD,List.getElem?_eq_getElem hk,Option.getD_some,List.getElem?_zip_eq_some,List.zip,List.getElem?_zipWith]
  ·rw [List.getElem?_eq_none (by simp; omega),List.getElem?_eq_none (by simp; omega)]; rfl
 refine ⟨rfl,fun x=>BP its.length lt (IA its x.1),fun x hx y hy=>?_,fun o op os=>?_⟩
 ·rw [pf] at hx hy
  obtain ⟨i,hi,rfl⟩:=List.mem_map.mp hx
  obtain ⟨j,hj,rfl⟩:=List.mem_map.mp hy
  have hi:i < its.length:=List.mem_range.mp hi
  have hj:j < its.length:=List.mem_range.mp hj
  dsimp only
  rw [ZN i j hi hj]
  obtain ⟨a,o,n,xs,b1,b2,b3,b4,b5,b6⟩:=tup i hi
  obtain ⟨a',o',n',xs',c1,c2,c3,c4,c5,c6⟩:=tup j hj
  rw [b1,c1]
  refine kat_lt (keep a o b2 b3) b5 (keep a' o' c2 c3) c5 ?_
  have e1:=b6.length
  have e2:=c6.length
  have e3:(ks.getD i []).length = (ks.getD j []).length:=by
   have:=congrArg List.length ((BS i hi).trans (BS j hj).symm)
   simpa [u5] using this
  have ef:decide ((List.toArray xs).size < (List.toArray xs').size) = false:=by
   rw [List.length_map] at e1 e2
   simp only [List.size_toArray,decide_eq_false_iff_not]; omega
  rw [ef]
  exact ue _ _ _ _ 0 b6 c6 ((BS i hi).trans (BS j hj).symm) ⟨rfl,rfl⟩
 ·have op':=Array.perm_iff_toList_perm.mp op
  rw [pf] at op'
  obtain ⟨ps,pm',po⟩:=Hx op' _ rfl
  have pl':ps.length = its.length:=by rw [pm'.length_eq]; simp
  have out:o.toList.map (·.2) = ps.map fun i=>its.getD i .none:=by rw [po,List.map_map]; rfl
  rw [out]
  have Rc:o.size = its.length:=by rw [← Array.length_toList,po,List.length_map,pl']
  have PQ:∀ k (hk:k < its.length),Tm.Kr (fun x:Keyed=>BP its.length lt (IA its x.1)) o k = BP its.length lt (IA its (its.getD (ps.getD k 0) .none)):=fun k hk=>by
   have e:o[k]? = some (its.getD (ps.getD k 0) .none,its.getD (ps.getD k 0) .none):=by
    rw [← Array.getElem?_toList,po,List.getElem?_map,List.getElem?_eq_getElem (by omega),List.getD_eq_getElem?_getD (l:=ps),List.getElem?_eq_getElem (by omega)]; rfl
   unfold Tm.Kr; rw [e]
  have ZO:∀ k,k < its.length→ps.getD k 0 < its.length:=fun k hk=>by
   rw [List.getD_eq_getElem?_getD,List.getElem?_eq_getElem (by omega)]
   have:=pm'.mem_iff.mp (List.getElem_mem (l:=ps) (n:=k) (by omega))
   simpa using this
  refine KasFin.intro F' N' (UpdF.head fun q hq=>Nat.ne_of_lt (low q hq)) fun h'' c F'' N''=>?_
  have De:=Ln h'' _ F'' N'' (fun q hq=>List.mem_cons_of_mem _ hq)
  have neD:∀ b o,s.heap.get? b = some o→b ≠ D:=fun b o z w=>by rw [w,sD] at z; cases z
  have hD:H D = none:=by
   cases z:H D with
   | none=>rfl
   | some u =>
    obtain ⟨ob,eo⟩:=Ew (I.bE D u z)
    rw [sD] at eo; cases eo
  refine ⟨.ref D,upd H D (.lst (ps.map fun i=>vs.getD i .aU)),?_,rfl,q ps (by rw [el]; exact pm') (fun i j Ll hj=>?_) D hD⟩
  ·have mem:∀ b u,H b = some u→b ≠ X.env.locals:=fun b u z w=>by rw [w,I.free] at z; cases z
   refine L2.Inv.step (s:=s) (h':=h'') (H':=upd H D (.lst (ps.map fun i=>vs.getD i .aU))) I (g':=s.gens) (d':=s.drawn) (t':=s.toks) (ch:=[]) (fun _ z=>nomatch z) (fun b o hb _ _ eb _=>De b o hb eb) (fun b o hb _ _ eb _=>⟨o.slots,De b o hb eb⟩) (fun b o _ eb hn=>by rw [aj (neD b o eb)]; exact hn)
    (fun b o _ eb=>?_) (fun b xs eb=>by rw [aj (aR eb hD)]; exact eb) (fun b o u eb=>by rw [aj (aR eb hD)]; exact eb) (fun b ps eb=>⟨#[],by rw [aj (aR eb hD),eb]; simp⟩) (fun m' hm=>?_) (fun b u eb=>?_) I.bare
   ·by_cases hb:b = X.env.locals
    ·subst hb
     obtain ⟨o',_,_,ho',_⟩:=F''.ns
     exact ⟨o',ho'⟩
    ·exact ⟨o,De b o hb eb⟩
   ·have:m' = m:=funext fun x=>hm.agree F.ns x
    rw [this]; exact F''.ns
   ·by_cases hb:b = D
    ·subst hb
     rw [aq] at eb
     cases eb
     refine ⟨by rw [List.length_map,pl',← el]; exact hz,ps.map fun i=>its.getD i .none,c,?_,?_⟩
     ·have go:∀ l:List Nat,(∀ i ∈ l,i < its.length)→Vals (l.map fun i=>vs.getD i .aU) (l.map fun i=>its.getD i .none):=by
       intro l
       induction l with
       | nil=>intro _; exact .nil
       | cons x r ih =>
        intro hl
        have hx:=hl x (List.mem_cons_self ..)
        obtain ⟨u,hu,ru⟩:=rv.get (List.getElem?_eq_getElem (show x < vs.length by omega))
        refine .cons ?_ (ih fun i hi=>hl i (List.mem_cons_of_mem _ hi))
        have e1:vs.getD x .aU = vs[x]'(by omega):=by rw [List.getD_eq_getElem?_getD,List.getElem?_eq_getElem (by omega)]; rfl
        have e2:its.getD x .none = u:=by rw [List.getD_eq_getElem?_getD,hu]; rfl
        show RelV (vs.getD x .aU) (its.getD x .none)
        rw [e1,e2]; exact ru
      exact go _ fun i hi=>by have:=pm'.mem_iff.mp hi; simpa using this
     ·exact (N'' _ (List.mem_cons_self ..)).1
    ·rw [aj hb] at eb
     refine (I.bE b u eb).oj (fun c v hc q=>De c v ?_ q) (fun c q=>by rw [aj (aR q hD)]; exact q) fun c xs q=>by rw [aj (aR q hD)]; exact q
     rcases hc with z | z
     ·rw [z]; exact mem b u eb
     ·exact mem c _ z
  ·have z:=os i j (Nat.zero_le _) Ll (by omega)
   rw [PQ i (by omega),PQ j (by omega)] at z
   have z2:=ZN (ps.getD j 0) (ps.getD i 0) (ZO j (by omega)) (ZO i (by omega))
   rw [← z2]
   exact decide_eq_false (by omega)
theorem EG {K:PySem.W.Frag} (G H:Hp) (xs:List V) (ds:List D) (Q:D→Prop) (Q2:VK) (s:av G H) (hd:aH K G xs ds) (h:km ds Q)
  (k:∀ (r:Addr) (vs:List V) (l:List D),H r = none→aH K G vs l→Q (.lst l)→Q2 (.ref r) (upd H r (.lst vs))):(BQ K xs H Q2∨BK K xs H Q2)∨BB K xs H Q2:=by
 unfold km at h
 split at h
 ·obtain ⟨ks,sh,rfl,Jh,Ub,q⟩:=h
  obtain ⟨v,rfl,d1⟩:=rh hd
  obtain ⟨a,vs,rfl,ha,la⟩:=d1.lst_inv
  have ll:=la.length
  rw [List.length_map] at ll
  match ks,la,ll,Jh,q with
  | [],la,ll,Jh,q =>
   cases la
   refine .inr ⟨a,[],rfl,s.seq ha,by decide,fun ms p1 _ r hr=>?_⟩
   rw [p1.eq_nil]
   exact k r [] [] hr .nil (q [] (.refl _) .nil)
  | [k0],la,ll,Jh,q =>
   cases la with | cons x1 la =>
    cases la
    refine .inl (.inr ⟨a,_,rfl,s.seq ha,fun r hr=>?_⟩)
    exact k r _ _ hr (.cons x1 .nil) (q [k0] (.refl _) (List.pairwise_singleton _ _))
  | k0 :: k1 :: kr,la,ll,Jh,q =>
   refine .inl (.inl ⟨a,vs,k0 :: k1 :: kr,sh,rfl,s.seq ha,ll,Jh,Ub,fun i v hv=>?_,by rw [ll]; simp,fun ps p1 p2 r hr=>?_⟩)
   ·obtain ⟨d,hd,hx⟩:=la.w6 hv
    rw [List.getElem?_map] at hd
    cases w:(k0 :: k1 :: kr)[i]? with
    | none=>rw [w] at hd; cases hd
    | some kk =>
     rw [w] at hd
     cases hd
     obtain ⟨b,ws,rfl,hb,lb⟩:=Den.gA hx
     refine ⟨b,rfl,?_⟩
     rw [List.getD_eq_getElem?_getD,w]
     rw [wa lb] at hb
     exact av.tupS s hb
   ·generalize hks:k0 :: k1 :: kr = ks at *
    have pm:(ps.map fun i=>ks.getD i []).Perm ks:=by
     have:=p1.map fun i=>ks.getD i []
     refine this.trans ?_
     rw [ll]
     have e:(List.range ks.length).map (fun i=>ks.getD i []) = ks:=by
      apply List.ext_getElem?
      intro i
      rw [List.getElem?_map]
      by_cases z:i < ks.length
      ·rw [List.getElem?_range z,List.getElem?_eq_getElem z]
       simp only [Option.map_some,List.getD_eq_getElem?_getD,List.getElem?_eq_getElem z,Option.getD_some]
      ·rw [List.getElem?_eq_none (by simpa using z),List.getElem?_eq_none (by omega)]; rfl
     rw [e]
    have so:(ps.map fun i=>ks.getD i []).Pairwise (fun a b=>klt b a = false):=by
     rw [List.pairwise_map,List.pairwise_iff_getElem]
     intro i j hi hj Ll
     have pl:=p1.length_eq
     rw [List.length_range] at pl
     have:=p2 i j (by omega) (by omega)
     rw [List.getD_eq_getElem?_getD (l:=ps),List.getElem?_eq_getElem hj,List.getD_eq_getElem?_getD (l:=ps),List.getElem?_eq_getElem hi] at this
     exact this
    have dl:∀ l:List Nat,(∀ i ∈ l,i < vs.length)→aH K G (l.map fun i=>vs.getD i .aU) ((l.map fun i=>ks.getD i []).map tD):=by
     intro l
     induction l with
     | nil=>intro _; exact .nil
     | cons x r ih =>
      intro hl
      have hx:=hl x (List.mem_cons_self ..)
      refine .cons ?_ (ih fun i hi=>hl i (List.mem_cons_of_mem _ hi))
      obtain ⟨d,hd,hy⟩:=la.w6 (List.getElem?_eq_getElem hx)
      show Den K G (vs.getD x .aU) (tD (ks.getD x []))
      rw [List.getElem?_map,List.getElem?_eq_getElem (show x < ks.length by omega)] at hd
      cases hd
      have e1:vs.getD x .aU = vs[x]:=by rw [List.getD_eq_getElem?_getD,List.getElem?_eq_getElem hx]; rfl
      have e2:ks.getD x [] = ks[x]'(by omega):=by rw [List.getD_eq_getElem?_getD,List.getElem?_eq_getElem (by omega)]; rfl
      rw [e1,e2]; exact hy
    exact k r _ _ hr (dl ps fun i hi=>by have:=p1.mem_iff.mp hi; simpa using this) (q _ pm so)
 ·exact h.elim
theorem Hy {K:PySem.W.Frag}:kU K (fun xs H Q=>(BQ K xs H Q∨BK K xs H Q)∨BB K xs H Q) km:=fun G H xs ds Q Q2 s hd h k =>
 EG G H xs ds Q Q2 s hd h fun r vs l hr dl q=>k _ _ _ _ (Ext.laid s hr _) (.lst (gG.of aq) (dl.up (aC (s.free hr) _))) q
theorem kn (hm:X.mg "sorted" = none) (ha:DA X (e :: es) t) (hg:Gl X "sorted":=by rfl) (he:starEach (e :: es) X.env = (false,eval e X.env) :: starEach es X.env:=by rfl) (lJ:(backTo pos (starEach es X.env)).any (·.1) = false:=by rfl):DE X (.Call (.Name "sorted" p) (e :: es) [] pos) (ay km t) :=
 jx (dq.or (dq.or BR BL) BC) Hy hm (by rfl) ha hg (by decide) (by decide) he lJ
end
end Dl
namespace lM
open PySem
noncomputable def Up (xs:Array Nat):Prop:=xs.toList.Pairwise (· < ·)
theorem Up.lt {xs:Array Nat} (h:Up xs) {i j x y:Nat} (Ll:i < j) (hx:xs[i]? = some x) (hy:xs[j]? = some y):x < y:=by
 rw [← Array.getElem?_toList] at hx hy
 obtain ⟨hi,rfl⟩:=List.getElem?_eq_some_iff.mp hx
 obtain ⟨hj,rfl⟩:=List.getElem?_eq_some_iff.mp hy
 exact List.pairwise_iff_getElem.mp h i j hi hj Ll
structure Cut (xs:Array Nat) (j r:Nat):Prop where
 le:r ≤ xs.size
 lo:∀ i x,i < r→xs[i]? = some x→x < j
 hi:∀ i x,r ≤ i→xs[i]? = some x→j ≤ x
theorem BU {xs:Array Nat} {j:Nat} (h:Up xs):∀ (fuel lo hi:Nat),hi - lo ≤ fuel→lo ≤ hi→hi ≤ xs.size→(∀ i x,i < lo→xs[i]? = some x→x < j)→(∀ i x,hi ≤ i→xs[i]? = some x→j ≤ x)→Cut xs j (SetTable.below.go xs j fuel lo hi)
 | 0,lo,hi,h1,h2,h3,h4,h5=>by
  have:lo = hi:=by omega
  subst this
  exact ⟨h3,h4,h5⟩
 | fuel + 1,lo,hi,h1,h2,h3,h4,h5=>by
  unfold SetTable.below.go
  by_cases z:lo < hi
  ·rw [if_pos z]
   dsimp only
   have hm:(lo + hi) / 2 < xs.size:=by omega
   have eg:xs[(lo + hi) / 2]? = some (xs.getD ((lo + hi) / 2) j):=by simp [Array.getD,hm]
   generalize xs.getD ((lo + hi) / 2) j = v at eg
   split
   ·rename_i c
    refine BU h fuel _ hi (by omega) (by omega) h3 (fun i x hi' hx=>?_) h5
    rcases Nat.lt_or_eq_of_le (Nat.le_of_lt_succ hi') with q | q
    ·exact Nat.lt_trans (h.lt q hx eg) c
    ·rw [q,eg] at hx; cases hx; exact c
   ·rename_i c
    refine BU h fuel lo _ (by omega) (by omega) (by omega) h4 fun i x hi' hx=>?_
    rcases Nat.lt_or_eq_of_le hi' with q | q
    ·have:=h.lt q eg hx; omega
    ·rw [← q,eg] at hx; cases hx; omega
  ·rw [if_neg z]
   have:lo = hi:=by omega
   subst this
   exact ⟨h3,h4,h5⟩
theorem qx {xs:Array Nat} {j:Nat} (h:Up xs):Cut xs j (SetTable.below xs j) :=
 BU h xs.size 0 xs.size (by omega) (by omega) (Nat.le_refl _) (fun i x z=>absurd z (by omega)) fun i x z hx=>by
  rw [Array.getElem?_eq_none z] at hx; cases hx
theorem Hz {α:Type} (xs:Array α) (p:Nat) (x:α) (hp:p ≤ xs.size):(SetTable.insertAt xs p x).toList = xs.toList.take p ++ x :: xs.toList.drop p:=by
 unfold SetTable.insertAt
 rw [Array.toList_append,Array.toList_push,Array.toList_extract,Array.toList_extract]
 simp only [List.extract,List.drop_zero,Nat.sub_zero]
 rw [List.append_assoc,List.singleton_append]
 congr 2
 exact List.take_of_length_le (by rw [List.length_drop,Array.length_toList]; omega)
theorem Nd {xs:Array Nat} {j:Nat} (h:Up xs) (hj:xs[SetTable.below xs j]? ≠ some j):Up (SetTable.insertAt xs (SetTable.below xs j) j):=by
 have c:=qx (j:=j) h
 unfold Up
 rw [Hz _ _ _ c.le]
 refine List.pairwise_append.mpr ⟨List.Pairwise.sublist (List.take_sublist ..) h,List.pairwise_cons.mpr ⟨fun y hy=>?_,List.Pairwise.sublist (List.drop_sublist ..) h⟩,fun x hx y hy=>?_⟩
 ·obtain ⟨i,hi⟩:=List.mem_iff_getElem?.mp hy
  rw [List.getElem?_drop,Array.getElem?_toList] at hi
  have h1:=c.hi _ _ (Nat.le_add_right ..) hi
  rcases Nat.lt_or_eq_of_le h1 with q | q
  ·exact q
  ·exfalso
   subst q
   cases i with
   | zero=>exact hj hi
   | succ i =>
    have hs:SetTable.below xs j < xs.size:=by
     have:=(Array.getElem?_eq_some_iff.mp hi).1; omega
    have e0:xs[SetTable.below xs j]? = some xs[SetTable.below xs j]:=Array.getElem?_eq_getElem hs
    have:=c.hi _ _ (Nat.le_refl _) e0
    have:=h.lt (show SetTable.below xs j < SetTable.below xs j + (i + 1) by omega) e0 hi
    omega
 ·have hx':x < j:=by
   obtain ⟨i,hi⟩:=List.mem_iff_getElem?.mp hx
   rw [List.getElem?_take] at hi
   split at hi
   ·rename_i q; rw [Array.getElem?_toList] at hi; exact c.lo _ _ q hi
   ·cases hi
  rcases List.mem_cons.mp hy with rfl | hy
  ·exact hx'
  ·obtain ⟨i,hi⟩:=List.mem_iff_getElem?.mp hy
   rw [List.getElem?_drop,Array.getElem?_toList] at hi
   have h1:=c.hi _ _ (Nat.le_add_right ..) hi
   omega
structure TI (t:SetTable) (b:Bool):Prop where
 led:t.led = b
 Uc:t.dummies = #[]
 up:Up t.place
theorem HA (n:Nat):Up (Array.range n):=by
 unfold Up
 rw [Array.toList_range]
 exact List.pairwise_lt_range
theorem TI.fresh (a b:Nat) (l:Bool):TI (SetTable.fresh a b l) l:=⟨rfl,rfl,List.Pairwise.nil⟩
theorem TI.standIn {t:SetTable} {b:Bool} (h:TI t b) (n:Nat):TI (t.standIn n) b:=⟨h.led,rfl,HA n⟩
theorem TI.orStandIn {t:SetTable} {b:Bool} (h:TI t b) (n:Nat):TI (t.orStandIn n) b:=by
 unfold SetTable.orStandIn
 split
 ·exact h
 ·exact h.standIn n
theorem Df (j:Nat):SetTable.has #[] j = false:=by
 unfold SetTable.has
 simp
theorem TI.put {t:SetTable} {b:Bool} (h:TI t b) {j:Nat} (hj:t.place[SetTable.below t.place j]? ≠ some j):TI (t.put j).1 b:=by
 refine ⟨h.led,?_,Nd h.up hj⟩
 show (if SetTable.has t.dummies j = true then _ else t.dummies) = #[]
 rw [h.Uc,Df,if_neg (by decide)]
theorem rp {t:SetTable} {b:Bool} (h:TI t b) {f:Nat→Int} {x:Int}:∀ (fuel:Nat) (p:SetTable.Probe) (j:Nat) (d:Option Nat),p.dummy = none→SetTable.probe.go t f x fuel p = some (.empty j d)→d = none∧t.place[SetTable.below t.place j]? ≠ some j
 | 0,p,j,d,_,e=>by unfold SetTable.probe.go at e; cases e
 | fuel + 1,p,j,d,hd,e=>by
  unfold SetTable.probe.go at e
  have adv:(t.advance p).dummy = none:=by
   unfold SetTable.advance
   split
   ·exact hd
   ·exact hd
  cases q:t.slot p.j with
  | empty =>
   rw [q] at e
   cases e
   refine ⟨hd,fun z=>?_⟩
   unfold SetTable.slot at q
   dsimp only at q
   rw [z] at q
   simp at q
  | dummy =>
   unfold SetTable.slot at q
   dsimp only at q
   rw [h.Uc,Df] at q
   split at q
   ·cases q
   ·rw [if_neg (by decide)] at q; cases q
  | live i =>
   rw [q] at e
   dsimp only at e
   split at e
   ·cases e
   ·exact rp h fuel _ j d adv e
theorem TI.layNew {t:SetTable} {b:Bool} (h:TI t b) (es:Array (Int × Value)) (x:Int) (v:Value):TI (layNew t es x v).2.1 b:=by
 unfold PySem.layNew
 cases q:t.freeSlot x with
 | none=>exact h.standIn _
 | some sw =>
  obtain ⟨slot,wd⟩:=sw
  dsimp only
  refine TI.orStandIn (h.put ?_) _
  unfold SetTable.freeSlot at q
  split at q
  ·rename_i j d e
   obtain ⟨rfl,z⟩:=rp h _ _ j d rfl e
   cases q
   exact z
  ·cases q
theorem TI.relayAll {t:SetTable} {b:Bool} (h:TI t b) (es:Array (Int × Value)) (n:Nat):TI (relayAll t es n).2.1 b:=by
 unfold PySem.relayAll
 split
 ·rename_i t' order e
  dsimp only
  split
  ·unfold SetTable.relaid SetTable.laid at e
   cases q:SetTable.layClean (SetTable.sizeAbove n - 1) (es.map (·.1)) with
   | none=>rw [q] at e; cases e
   | some owner =>
    rw [q] at e
    cases e
    refine ⟨h.led,rfl,?_⟩
    unfold Up
    dsimp only
    rw [List.pairwise_map,List.pairwise_filterMap]
    refine List.pairwise_lt_range.imp fun {i j} Ll x hx y hy=>?_
    obtain ⟨_,_,rfl⟩:=Option.map_eq_some_iff.mp hx
    obtain ⟨_,_,rfl⟩:=Option.map_eq_some_iff.mp hy
    exact Ll
  ·exact h.standIn _
 ·exact h.standIn _
end lM
namespace lM
open PySem
section
variable {prog:Program} {w:World} {A:Around} {E:Value→Shared→Prop} {s:Shared} {a:Addr}
noncomputable def jE (prog:Program) (w:World) (h:Heap) (a:Addr) (S:Int→Bool) (n:Nat) (b:Bool):Prop :=
 ∃ o es ep t,h.get? a = some o∧o.ExactSet∧o.data = .set es ep t∧ElemsOf (intKind prog w) es.toList∧(∀ k,S k = true ↔ ∃ e ∈ es.toList,(intKind prog w).is k e.2 = true)
  ∧ es.size < scanBound∧t.fits es.size = true∧es.size = n∧TI t b
theorem Dg {h:Heap} {o:Obj} {es:Array (Int × Value)} {ep:Nat} {t:SetTable} (ho:h.get? a = some o) (hex:o.ExactSet) (hd:o.data = .set es ep t)
  {es':Array (Int × Value)} {t':SetTable} {S':Int→Bool} {b:Bool} (Kf:ElemsOf (intKind prog w) es'.toList) (xI:∀ k,S' k = true ↔ ∃ e ∈ es'.toList,(intKind prog w).is k e.2 = true) (hb:es'.size < scanBound) (hf:t'.fits es'.size = true) (ti:TI t' b) :
  (h.update a (Obj.putSet es' t')).get? a = some { o with data:=.set es' (ep + 1) t' }∧jE prog w (h.update a (Obj.putSet es' t')) a S' es'.size b:=by
 obtain ⟨h1,_⟩:=SetOf_store (knd:=intKind prog w) ho hex hd Kf xI hb hf
 exact ⟨h1,_,es',ep + 1,t',h1,hex,rfl,Kf,xI,hb,hf,rfl,ti⟩
theorem PR {S:Int→Bool} {n:Nat} {b:Bool} {k:Int} {x:Value} {Q:Bool→Shared→Prop} (Fv:(intKind prog w).is k x = true) (Ud:x.scannable = true) (hJ:jE prog w s.heap a S n b) (PU:n + 1 < scanBound)
  (h:∀ h',Heap.SameBut a s.heap h'→jE prog w h' a (fun k'=>S k' || decide (k' = k)) (if S k then n else n + 1) b→Q (!S k) { s with heap:=h' }) :
  wpAny (model prog w) A (setAddHashed a x ((intKind prog w).hash k)) Q E s:=by
 obtain ⟨o,es,ep,t,ho,hex,hd,Kf,xI,hb,hf,hn,ti⟩:=hJ
 unfold setAddHashed setAddHashedIn
 refine wpAny_holding (wpAny_bind (wpAny_setState_of ho hd hf ?_))
 dsimp only
 rw [byScan_of Ud hb Kf,if_pos rfl]
 unfold setAddByScan
 refine wpAny_bind (wpAny_bind (wpAny_rule (wpAny_bind (wpAny_setScan_of Fv ho hd hf Kf ?_))))
 have gave:∀ (c:Bool) {s₁:Shared} {Q':Unit→Shared→Prop},Q' () s₁→wpAny (model prog w) A (match c with | true=>rule "set.scan.the-table-gave-way" | false=>pure ()) Q' E s₁:=fun c s₁ Q' hq=>by
  cases c
  ·exact wpAny_pure hq
  ·exact wpAny_rule hq
 cases hr:List.findIdx? (fun e=>(intKind prog w).is k e.2) es.toList with
 | some j =>
  obtain ⟨hj,hp,_⟩:=List.findIdx?_eq_some_iff_getElem.mp hr
  have hk:S k = true:=(xI k).mpr ⟨_,List.getElem_mem hj,hp⟩
  have hq:=h s.heap (Heap.SameBut.refl a s.heap) ⟨o,es,ep,t,ho,hex,hd,Kf,fun k'=>by
   rw [Bool.or_eq_true,decide_eq_true_eq,← xI k']
   exact ⟨fun z=>z.elim id fun e=>e ▸ hk,.inl⟩,hb,hf,by rw [if_pos hk]; exact hn,ti⟩
  rw [hk] at hq
  exact wpAny_pure (wpAny_pure hq)
 | none =>
  have hk:S k = false:=by
   cases q:S k with
   | false=>rfl
   | true =>
    obtain ⟨e,he,hp⟩:=(xI k).mp q
    have z:=List.findIdx?_eq_none_iff.mp hr e he
    rw [hp] at z; cases z
  dsimp only
  have perm:=layNew_perm t es ((intKind prog w).hash k) x
  have fits:=layNew_fits t es ((intKind prog w).hash k) x
  have tl:=ti.layNew es ((intKind prog w).hash k) x
  generalize layNew t es ((intKind prog w).hash k) x = L at perm fits tl ⊢
  obtain ⟨uj,t1,wd,gv⟩:=L
  dsimp only at perm fits tl ⊢
  rw [Array.toList_push] at perm
  have sz:uj.size = n + 1:=by rw [← Array.length_toList,perm.length_eq,List.length_append,Array.length_toList,hn]; rfl
  have PV:ElemsOf (intKind prog w) uj.toList:=(Kf.push Fv Ud).perm perm
  have Lo:=mem_push_iff (S:=S) Fv xI perm
  have Rq:uj.size < scanBound:=by rw [sz]; exact PU
  have fin:∀ h',Heap.SameBut a s.heap h'→jE prog w h' a (fun k'=>S k' || decide (k' = k)) uj.size b→Q true { s with heap:=h' }:=fun h' hs hj=>by
   have:=h h' hs
   rw [hk] at this
   rw [sz] at hj
   exact this hj
  refine wpAny_bind (gave _ ?_)
  have tail:∀ (g:Bool→Sem Unit),(∀ (c:Bool) (s₁:Shared) (Q':Unit→Shared→Prop),Q' () s₁→wpAny (model prog w) A (g c) Q' E s₁)→∀ (t2:SetTable),t2.fits uj.size = true→TI t2 b→wpAny (model prog w) A (do
    storeSet a uj t2
    if (!wd && t2.tooFull) = true then do
      g (relayAll t2 uj (SetTable.grown uj.size)).2.2
      storeSet a (relayAll t2 uj (SetTable.grown uj.size)).1 (relayAll t2 uj (SetTable.grown uj.size)).2.1
      pure (some true)
     else pure (some true)) (fun r s'=>r = some true∧Q true s') E s:=fun g hg t2 f2 ZP=>by
   refine wpAny_bind (wpAny_storeSet_of ho hd ?_ (fits_of_scanBound Rq))
   obtain ⟨g1,j1⟩:=Dg (prog:=prog) (w:=w) ho hex hd PV Lo Rq f2 ZP
   have sb:=Heap.SameBut.update s.heap a (Obj.putSet uj t2)
   split
   ·have p2:=relayAll_perm t2 uj (SetTable.grown uj.size)
    have f3:=relayAll_fits t2 uj (SetTable.grown uj.size)
    have t3:=ZP.relayAll uj (SetTable.grown uj.size)
    generalize relayAll t2 uj (SetTable.grown uj.size) = R at p2 f3 t3 ⊢
    obtain ⟨es2,tt,gv2⟩:=R
    dsimp only at p2 f3 t3 ⊢
    have O1:es2.size = uj.size:=by rw [← Array.length_toList,p2.length_eq,Array.length_toList]
    refine wpAny_bind (hg _ _ _ ?_)
    refine wpAny_bind (wpAny_storeSet_of g1 rfl ?_ (fits_of_scanBound (by rw [O1]; exact Rq)))
    obtain ⟨_,j2⟩:=Dg (prog:=prog) (w:=w) (S':=fun k'=>S k' || decide (k' = k)) g1 hex rfl (PV.perm p2) (fun k'=>(Lo k').trans ⟨fun ⟨e,he,z⟩=>⟨e,p2.mem_iff.mpr he,z⟩,fun ⟨e,he,z⟩=>⟨e,p2.mem_iff.mp he,z⟩⟩) (by rw [O1]; exact Rq) f3 t3
    rw [O1] at j2
    exact wpAny_pure ⟨rfl,fin _ (sb.trans (Heap.SameBut.update _ a _)) j2⟩
   ·exact wpAny_pure ⟨rfl,fin _ sb j1⟩
  have tb:∀ c:Bool,(if c = true then t1 else { t1 with plain:=false }).fits uj.size = true∧TI (if c = true then t1 else { t1 with plain:=false }) b:=fun c=>by
   cases c
   ·exact ⟨SetTable.fits_plain_off fits,tl.led,tl.Uc,tl.up⟩
   ·exact ⟨fits,tl⟩
  split
  ·refine wpAny_bind ?_
   rw [hashByValue_scannable 8 Ud]
   refine wpAny_pure ?_
   refine wpAny_mono (tail _ (fun c s₁ Q' hq=>by cases c <;> first | exact wpAny_pure hq | exact wpAny_rule hq) _ (tb _).1 (tb _).2) (fun r s' ⟨e,q⟩=>?_) fun _ _ e=>e
   subst e
   exact wpAny_pure q
  ·refine wpAny_bind (wpAny_pure ?_)
   refine wpAny_mono (tail _ (fun c s₁ Q' hq=>by cases c <;> first | exact wpAny_pure hq | exact wpAny_rule hq) _ (tb true).1 (tb true).2) (fun r s' ⟨e,q⟩=>?_) fun _ _ e=>e
   subst e
   exact wpAny_pure q
end
end lM
namespace lM
open PySem PyProof.Rows
noncomputable def nI (w:World):Bool:=w.params.followText "set-order"
section
variable {prog:Program} {w:World} {A:Around} {E:Value→Shared→Prop} {s:Shared}
theorem jE.congr {h:Heap} {a:Addr} {S S':Int→Bool} {n n':Nat} {b:Bool} (hS:jE prog w h a S n b) (e:∀ k,S k = S' k) (en:n = n'):jE prog w h a S' n' b:=by
 have:S = S':=funext e
 subst this; subst en; exact hS
theorem jE.at {h h':Heap} {a:Addr} {S:Int→Bool} {n:Nat} {b:Bool} (hS:jE prog w h a S n b) (k:∀ o,h.get? a = some o→h'.get? a = some o):jE prog w h' a S n b:=by
 obtain ⟨o,es,ep,t,ho,rest⟩:=hS
 exact ⟨o,es,ep,t,k o ho,rest⟩
noncomputable def seen (val:Nat→Int) (i:Nat):Int→Bool:=fun k=>(firstMet val i).any (· == k)
theorem HB {R:Result→Shared→Prop} {I:Addr} {fp wr:List Addr} {G:Array GenState→Array GenState→Prop} {n:Nat} {P:Nat→Value→Prop} {St:Nat→Shared→Prop} {b:Bool}
  (W:WalksS prog w A.in1 I fp wr G n P St) (S:Addr) (hS:S ∉ fp) (val:Nat→Int) (HC:∀ i v,P i v→∃ t,v = .int (val i) t) (hb:n + 1 < scanBound) :
  ∀ (k i:Nat) (s:Shared),i + k = n→St i s→jE prog w s.heap S (seen val i) (firstMet val i).length b →
   (∀ s',Moved (S :: wr) G s s'→jE prog w s'.heap S (seen val n) (firstMet val n).length b→R (.ok (.ret .none)) s') →
   codeAny (model prog w) A (.builtin "set.update.loop" ⟨[.ref S,.ref I],[]⟩) R s:=by
 have nw:S ∉ wr:=fun z=>hS (W.sub _ z)
 have up:∀ c ∈ wr,c ∈ S :: wr:=fun c hc=>List.mem_cons_of_mem _ hc
 intro k
 induction k with
 | zero =>
  intro i s e st j hR
  cases (show i = n from e)
  refine codeAny_builtin PyProof.Rows.F.entry_set_update_loop ?_
  rw [Around.under_plainId PyProof.Rows.F.plain_set_update_loop _]
  show wpAny _ A.in1 (pyNext (.ref I) >>= _) _ _ s
  exact wpAny_bind (W.done s _ _ st fun s' m=>wpAny_pure (hR s' (m.mono up) (j.at fun o e=>m.heap S _ nw e)))
 | succ k ih =>
  intro i s e st j hR
  refine codeAny_builtin PyProof.Rows.F.entry_set_update_loop ?_
  rw [Around.under_plainId PyProof.Rows.F.plain_set_update_loop _]
  show wpAny _ A.in1 (pyNext (.ref I) >>= _) _ _ s
  refine wpAny_bind (W.item i s _ _ (by omega) st fun v s' hP st' m=>?_)
  obtain ⟨t,rfl⟩:=HC i v hP
  show wpAny _ A.in1 (holding [Value.int (val i) t] (setAdd S (.int (val i) t)) >>= _) _ _ s'
  refine wpAny_bind (wpAny_holding ?_)
  unfold setAdd
  refine wpAny_holding (wpAny_bind ((intKind prog w).pyHash (k:=val i) (intKind_is _ _ _ _) ?_))
  have room:(firstMet val i).length + 1 < scanBound:=by have:=firstMet_length_le val i; omega
  refine PR (s:={ s' with toks:=s'.toks + 1 }) (intKind_is _ _ _ _) rfl (j.at fun o e=>m.heap S _ nw e) room fun h' sb j2=>?_
  have j3:jE prog w h' S (seen val (i + 1)) (firstMet val (i + 1)).length b:=j2.congr (fun k'=>by unfold seen; rw [firstMet_succ,step_any]) (by rw [firstMet_succ,step_length]; rfl)
  have keep:∀ c ≠ S,∀ o,s'.heap.get? c = some o→h'.get? c = some o:=fun c hc o e=>(sb.2 c hc).trans e
  refine wpAny_pure ⟨plainId_quiet PyProof.Rows.F.plain_set_update_loop _,ih (i + 1) _ (by omega) (W.frame _ s' _ _ st' (Nat.le_succ _) fun c hc o e=>keep c (fun z=>hS (z ▸ hc)) o e) j3 fun s'' m2 j4=>?_⟩
  exact hR s'' (Moved.trans W.gtrans ((m.mono up).then_heap (Nat.le_succ _) fun c o hc e=>keep c (fun z=>hc (z ▸ List.mem_cons_self)) o e) m2) j4
theorem Lp (a:Value) {Q₁:Value→Shared→Prop} (h:Q₁ (.ref s.heap.objs.size) { s with heap:=s.heap.push { cls:=.type "set",dict:=none,data:=.set #[] 0 (.fresh 0 0 (!nI w)) } }) :
  codeAny (model prog w) A (.call (.builtin "set.__new__") ⟨[.type "set",a],[]⟩) (wants Q₁ E) s:=by
 refine codeAny_of_tree ?_
 show wpAny _ A.in1 (do checkBuiltinCall "set.__new__" ⟨[.type "set",a],[]⟩; again (.builtin "set.__new__" ⟨[.type "set",a],[]⟩)) _ _ s
 refine wpAny_bind (wpAny_of_eq (PySem.F.newCall_set_1 a) (wpAny_pure ⟨plainId_quiet F.plain_set_new _,codeAny_builtin F.entry_set_new ?_⟩))
 rw [Around.under_plainId F.plain_set_new _]
 unfold Builtin.«set.__new__» Builtin.Frozenset.newClass
 have PX:=sub_set_self
 obtain ⟨hp,g,d,tk,os⟩:=s
 dsimp only
 wp_walk
 refine wpAny_askSetting (wpAny_pure ?_)
 dsimp only
 simp only [newObj]
 exact wpAny_bind (wpAny_alloc (wpAny_pure (wpAny_pure h)))
end
end lM
namespace lM
open PySem PyProof.Rows
section
variable {prog:Program} {w:World} {A:Around} {E:Value→Shared→Prop} {s:Shared}
theorem EH {l:Addr} {items:Array Value} {ns:List Int} {Q:Value→Shared→Prop} (hh:A.handled = none) (hl:s.heap.IsList l items) (hi:IntsAre items.toList ns) (hb:items.size + 1 < scanBound)
  (h:∀ (h':Heap) (tk:Nat),jE prog w h' s.heap.objs.size (seen (fun i=>ns.getD i 0) items.size) (firstMet (fun i=>ns.getD i 0) items.size).length (!nI w) →
   (∀ b o,s.heap.get? b = some o→h'.get? b = some o)→Q (.ref s.heap.objs.size) { s with heap:=h',toks:=tk }) :
  wpAny (model prog w) A (call (.type "set") [.ref l]) Q E s:=by
 obtain ⟨c,tl,Ue⟩:=F.called_set.mro
 have PY:=F.called_set.made
 have PX:=F.called_set.sub
 refine wpAny_call (codeAny_of_tree ?_)
 show wpAny _ _ (callAny (.type "set") _) _ _ _
 refine wpAny_pure ⟨Code.quiet_builtin _ (by decide +kernel),codeAny_builtin F.entry_type_call ?_⟩
 rw [Around.under_plain (weight_type_call_type "set" [.ref l] []) rfl]
 have h1:=F.called_set.notType
 have h2:=F.called_set.canCreate
 have hct:=PySem.F.typeCall_set_1 (.ref l)
 repeat (any_goals (first | assumption | wp_step))
 refine codeAny_mono (Lp (.ref l) (E:=E) (Q₁:=fun obj s₁=>obj = .ref s.heap.objs.size∧s₁ = { s with heap:=s.heap.push { cls:=.type "set",dict:=none,data:=.set #[] 0 (.fresh 0 0 (!nI w)) } }) ⟨rfl,rfl⟩) fun r s₁ hr=>?_
 cases r with
 | error e=>exact hr
 | ok fl =>
  cases fl with
  | ret obj =>
   obtain ⟨rfl,rfl⟩:=hr
   have g0:(s.heap.push { cls:=.type "set",dict:=none,data:=.set #[] 0 (.fresh 0 0 (!nI w)) }).get? s.heap.objs.size = some { cls:=.type "set",dict:=none,data:=.set #[] 0 (.fresh 0 0 (!nI w)) }:=Heap.get?_push_size _ rfl
   generalize hH:s.heap.push { cls:=.type "set",dict:=none,data:=.set #[] 0 (.fresh 0 0 (!nI w)) } = H1 at g0
   have up1:∀ b o,s.heap.get? b = some o→H1.get? b = some o:=fun b o e=>by rw [← hH]; exact Heap.get?_push_of_some _ e
   have E6:H1.objs.size = s.heap.objs.size + 1:=by rw [← hH,Heap.size_push]
   have hT:Shared.TypeIs { s with heap:=H1 } (.ref s.heap.objs.size) "set":=⟨_,g0,rfl⟩
   have hli:=F.called_set.init.lookup
   have hbi:=F.called_set.init.bind (.ref s.heap.objs.size)
   repeat (any_goals (first | assumption | wp_step))
   refine codeAny_mono (codeAny_call_builtin (R:=wants (fun r s₂=>r = .none∧∃ h' tk,s₂ = { s with heap:=h',toks:=tk } ∧
     jE prog w h' s.heap.objs.size (seen (fun i=>ns.getD i 0) items.size) (firstMet (fun i=>ns.getD i 0) items.size).length (!nI w) ∧
     (∀ b o,s.heap.get? b = some o→h'.get? b = some o)) E) F.called_set.init.plain F.entry_set_init (check_set_init_1 hT ?_)) fun r₂ s₂ hr₂=>?_
   ·obtain ⟨⟨Ug,PZ,P0,Nf⟩,P1,Nh,nl,P2⟩:=hl
    simp only at Nh P2
    subst Nh P2
    have hol':=up1 _ _ P1
    have Uh:=PySem.F.sub_list_set
    have Ui:=PySem.F.sub_list_frozenset
    have A5:(Value.type "list" == Value.type "dict") = false:=by decide
    have P4:H1.IsList l items:=⟨_,hol',rfl,nl,rfl⟩
    unfold Builtin.«set.__init__» noKeywords Builtin.Frozenset.updateFrom
    generalize Uj:pyIter = PI
    wp_walk
    subst Uj
    refine wpAny_pyIter_list P4 (wpAny_bind (wpAny_runValue ?_))
    have P5:l < s.heap.objs.size:=Heap.lt_size P1
    have Ni:l ≠ H1.objs.size:=by rw [E6]; exact Nat.ne_of_lt (Nat.lt_succ_of_lt P5)
    have HC:∀ (i:Nat) (v:Value),items[i]? = some v→∃ t,v = .int ((fun i=>ns.getD i 0) i) t:=fun i v hv=>IntsAre.int_at hi i v (by rw [Array.getElem?_toList]; exact hv)
    refine HB (b:=!nI w) ((Walks.list (by simp [hh]) _ l Ni items).toS) s.heap.objs.size (by simp only [List.mem_cons,List.not_mem_nil,or_false,not_or]; exact ⟨by rw [E6]; exact Nat.ne_of_lt (Nat.lt_succ_self _),Nat.ne_of_gt P5⟩) (fun i=>ns.getD i 0) HC hb items.size 0 _ (by omega)
     ⟨⟨_,Heap.get?_push_size _ rfl,rfl,rfl⟩,(P4.push _)⟩ ?_ fun s' hm hS'=>?_
    ·refine ⟨_,#[],0,.fresh 0 0 (!nI w),Heap.get?_push_of_some _ g0,⟨rfl,rfl,rfl⟩,rfl,fun e he=>absurd he (by simp),fun k=>?_,by unfold scanBound; decide,rfl,rfl,TI.fresh _ _ _⟩
     simp [seen,firstMet]
    ·obtain ⟨h',g',d',tk',os'⟩:=s'
     have eg:g' = s.gens:=hm.gens
     have ed:d' = s.drawn:=hm.drawn
     have eo:os' = s.os:=hm.os
     subst eg ed eo
     refine wpAny_pure (wpAny_pure ⟨rfl,h',tk',rfl,hS',fun b o e=>?_⟩)
     have lt:=Heap.lt_size e
     exact hm.heap b o (by simp only [List.mem_cons,List.not_mem_nil,or_false,not_or]; exact ⟨Nat.ne_of_lt lt,by rw [E6]; exact Nat.ne_of_lt (Nat.lt_succ_of_lt lt)⟩) (Heap.get?_push_of_some _ (up1 b o e))
   ·cases r₂ with
    | error e=>exact hr₂
    | ok fl₂ =>
     cases fl₂ with
     | ret r =>
      obtain ⟨rfl,h',tk,rfl,hS',hk'⟩:=hr₂
      repeat (any_goals (first | assumption | wp_step))
      exact h _ _ hS' hk'
     | _=>exact hr₂.elim
  | _=>exact hr.elim
end
end lM
namespace lM
open PySem PyProof.Rows
theorem uk {xs:Array Nat} {j r q:Nat} (h:Cut xs j r) (k:Cut xs j q):r = q:=by
 rcases Nat.lt_trichotomy r q with z | z | z
 ·have e:=Array.getElem?_eq_getElem (xs:=xs) (i:=r) (Nat.lt_of_lt_of_le z k.le)
  have:=h.hi _ _ (Nat.le_refl _) e
  have:=k.lo _ _ z e
  omega
 ·exact z
 ·have e:=Array.getElem?_eq_getElem (xs:=xs) (i:=q) (Nat.lt_of_lt_of_le z h.le)
  have:=k.hi _ _ (Nat.le_refl _) e
  have:=h.lo _ _ z e
  omega
theorem Kg {xs:Array Nat} (h:Up xs):SetTable.below xs 0 = 0 :=
 uk (qx h) ⟨Nat.zero_le _,fun i x z=>absurd z (by omega),fun i x _ _=>Nat.zero_le _⟩
theorem BV {xs:Array Nat} (h:Up xs) {i j:Nat} (e:xs[i]? = some j):SetTable.below xs (j + 1) = i + 1:=by
 have lt:=(Array.getElem?_eq_some_iff.mp e).1
 refine uk (qx h) ⟨lt,fun a x ha hx=>?_,fun a x ha hx=>?_⟩
 ·rcases Nat.lt_or_eq_of_le (Nat.le_of_lt_succ ha) with q | q
  ·have:=h.lt q hx e; omega
  ·rw [q,e] at hx; cases hx; omega
 ·have:=h.lt (show i < a by omega) e hx; omega
theorem um {α:Type} {l:List α} {i:Nat} {x:α} (h:l[i]? = some x):(x :: l.eraseIdx i).Perm l:=by
 obtain ⟨hi,rfl⟩:=List.getElem?_eq_some_iff.mp h
 rw [List.eraseIdx_eq_take_drop_succ]
 refine List.perm_middle.symm.trans ?_
 rw [← List.drop_eq_getElem_cons hi,List.take_append_drop]
theorem Dh {α:Type} (next:Nat→Nat):∀ (fuel k:Nat) (left:List α) (out:Array α),left.length = fuel→(pickOrder.go next fuel k left out).toList.Perm (out.toList ++ left)
 | 0,k,left,out,h=>by
  rw [List.length_eq_zero_iff.mp h,List.append_nil]
  exact List.Perm.refl _
 | fuel + 1,k,left,out,h=>by
  unfold pickOrder.go
  have lt:next k % left.length < left.length:=Nat.mod_lt _ (by omega)
  have e:=List.getElem?_eq_getElem lt
  rw [e]
  refine (Dh next fuel (k + 1) _ _ (by rw [List.length_eraseIdx_of_lt lt]; omega)).trans ?_
  rw [Array.toList_push,List.append_assoc]
  exact (List.perm_append_left_iff _).mpr (by rw [List.singleton_append]; exact um e)
theorem qy {α:Type} (next:Nat→Nat) (xs:Array α):(pickOrder next xs).toList.Perm xs.toList:=by
 unfold pickOrder
 have:=Dh next xs.size 0 xs.toList #[] (Array.length_toList)
 simpa using this
section
variable {prog:Program} {w:World} {A:Around} {E:Value→Shared→Prop}
theorem BW {src:Source} {n:Nat} {Q:Nat→Shared→Prop} {s:Shared} (hn:n ≠ 0) (h:∀ i,i < n→∀ d,Q i { s with drawn:=d }):wpAny (model prog w) A (choose src n) Q E s :=
 fun _ _ _=>⟨hn,h _ (Nat.mod_lt _ (Nat.pos_of_ne_zero hn)) _⟩
theorem wq {α:Type}:∀ (n:Nat) (xs:List α) (s:Shared) (Q:List α→Shared→Prop),xs.length = n→(∀ ys d,ys.Perm xs→Q ys { s with drawn:=d })→wpAny (model prog w) A (drawOrder n xs) Q E s
 | 0,xs,s,Q,h,q=>by
  have e:=List.length_eq_zero_iff.mp h
  subst e
  unfold drawOrder
  exact wpAny_pure (q [] s.drawn (List.Perm.refl _))
 | n + 1,[],s,Q,h,q=>by cases h
 | n + 1,x :: xs,s,Q,h,q=>by
  unfold drawOrder
  refine wpAny_bind (BW (by simp) fun i hi d=>?_)
  have e:=List.getElem?_eq_getElem hi
  rw [e]
  refine wpAny_bind (wq n _ _ _ (by rw [List.length_eraseIdx_of_lt hi]; simpa using h) fun ys d' p=>wpAny_pure (q _ d' ?_))
  exact (List.Perm.cons _ p).trans (um e)
end
end lM
namespace lM
open PySem PyProof.Rows
theorem fH:Slot "set_iterator" "__next__" "set_iterator.__next__" :=
 .of (owner:="set_iterator") (n:="__next__") (by rw [typeLookup_type,builtinLookup_eq_fast]; kernel_rfl) (by decide +kernel) (by decide +kernel) (by decide +kernel) (by first | exact .inl (by decide +kernel) | exact .inr (by decide +kernel)) (by rw [isSubtype_type]; kernel_rfl)
theorem pM:entryFor table "set_iterator.__next__" = some Builtin.«set_iterator.__next__»:=entryFor_of_tree (by kernel_rfl)
theorem zJ:Manifest.owners.lookup (String.ofList ['r','o','t','a','r','e','t','i','_','t','e','s'].reverse) = some Manifest.sig_set_iterator:=by kernel_rfl
theorem sR (a:Value):argsOk "set_iterator.__next__" ⟨[a],[]⟩:=by
 unfold argsOk; rw [signature?_of (id:="set_iterator.__next__") (n:=['_','_','t','x','e','n','_','_']) (o:=['r','o','t','a','r','e','t','i','_','t','e','s']) (by kernel_rfl) zJ]; kernel_rfl
theorem BX:entryFor table "set.__iter__" = some Builtin.«frozenset.__iter__»:=entryFor_alias (id':="frozenset.__iter__") (by kernel_rfl) rfl (by decide +kernel) (by kernel_rfl)
noncomputable def iY (h:Heap) (it a:Addr) (f0:Value) (i n ep:Nat):Prop:=∃ ob,h.get? it = some ob∧ob.cls = .type "set_iterator"∧ob.data = .fields #[f0,.int i 0,.ref a,.int n 0,.int ep 0]
theorem iY.typeIs {s:Shared} {it a:Addr} {f0:Value} {i n ep:Nat} (x:iY s.heap it a f0 i n ep):s.TypeIs (.ref it) "set_iterator":=let ⟨o,ho,hc,_⟩:=x; ⟨o,ho,hc⟩
section
variable {prog:Program} {w:World} {A:Around} {E:Value→Shared→Prop} {s:Shared} {it a:Addr} {o:Obj} {es:Array (Int × Value)} {ep:Nat} {t:SetTable}
theorem iY.step {h:Heap} {f0 f1:Value} {i n:Nat} (x:iY h it a f0 i n ep) :
  iY ((h.update it (Obj.mapFields (·.setIfInBounds 0 f1))).update it (Obj.mapFields (·.setIfInBounds 1 (rawInt ((i:Int) + 1))))) it a f1 (i + 1) n ep:=by
 obtain ⟨ob,ho,hc,hd⟩:=x
 have h1:(h.update it (Obj.mapFields (·.setIfInBounds 0 f1))).get? it = some (Obj.mapFields (·.setIfInBounds 0 f1) ob):=Heap.get?_update_self _ ho (Obj.isFreed_of_fields (Obj.data_mapFields hd _))
 have d1:=Obj.data_mapFields hd (·.setIfInBounds 0 f1)
 refine ⟨_,Heap.get?_update_self _ h1 (Obj.isFreed_of_fields (Obj.data_mapFields d1 _)),(Obj.cls_mapFields ..).trans ((Obj.cls_mapFields ..).trans hc),?_⟩
 rw [Obj.data_mapFields d1]
 simp [rawInt]
theorem wt {i slot nx:Nat} {x:Value} {Q:Option Value→Shared→Prop} (hit:iY s.heap it a (.int slot 0) i es.size ep) (ho:s.heap.get? a = some o) (hd:o.data = .set es ep t) (hf:t.fits es.size = true)
  (hn:∀ (A':Around) (E':Value→Shared→Prop) (Q':Option (Value × Nat)→Shared→Prop),Q' (some (x,nx)) s→wpAny (model prog w) A' (setNext a slot i ep) Q' E' s)
  (hQ:∀ h',iY h' it a (.int nx 0) (i + 1) es.size ep→Heap.SameBut it s.heap h'→Q (some x) { s with heap:=h' }):wpAny (model prog w) A (pyNext (.ref it)) Q E s:=by
 obtain ⟨ob,EI,hc,BY⟩:=id hit
 unfold pyNext
 refine wpAny_bind (wpAny_attempt (wpAny_callSpecial?_slot (name:=Str.ofString "__next__") hit.typeIs fH (wpAny_call_entry fH hit.typeIs pM ?_ (sR _))))
 unfold Builtin.«set_iterator.__next__»
 refine wpAny_bind (wpAny_pure (wpAny_bind (wpAny_fieldsOf EI BY ?_)))
 dsimp only
 refine wpAny_bind (wpAny_setEntries_of ho hd hf ?_)
 rw [if_neg (by simp)]
 refine wpAny_bind (hn _ _ _ ?_)
 dsimp only
 refine wpAny_bind (wpAny_setField EI BY (by simp) ?_)
 have h1:(s.heap.update it (Obj.mapFields (·.setIfInBounds 0 (rawInt (nx:Int))))).get? it = some (Obj.mapFields (·.setIfInBounds 0 (rawInt (nx:Int))) ob):=Heap.get?_update_self _ EI (Obj.isFreed_of_fields (Obj.data_mapFields BY _))
 refine wpAny_bind (wpAny_setField (s:={ s with heap:=s.heap.update it (Obj.mapFields (·.setIfInBounds 0 (rawInt (nx:Int)))) }) h1 (Obj.data_mapFields BY _) (by simp) ?_)
 exact wpAny_pure ⟨_,rfl,wpAny_pure (hQ _ hit.step ((Heap.SameBut.update ..).trans (Heap.SameBut.update ..)))⟩
theorem wu {i slot:Nat} {Q:Option Value→Shared→Prop} (hh:A.handled = none) (hit:iY s.heap it a (.int slot 0) i es.size ep) (ho:s.heap.get? a = some o) (hd:o.data = .set es ep t) (hf:t.fits es.size = true)
  (hn:∀ (A':Around) (E':Value→Shared→Prop) (Q':Option (Value × Nat)→Shared→Prop),Q' none s→wpAny (model prog w) A' (setNext a slot i ep) Q' E' s)
  (hQ:∀ h',Heap.ExtBut it s.heap h'→Q none { s with heap:=h' }):wpAny (model prog w) A (pyNext (.ref it)) Q E s:=by
 obtain ⟨ob,EI,hc,BY⟩:=id hit
 unfold pyNext
 refine wpAny_bind (wpAny_attempt (wpAny_callSpecial?_slot (name:=Str.ofString "__next__") hit.typeIs fH (wpAny_call_entry fH hit.typeIs pM ?_ (sR _))))
 unfold Builtin.«set_iterator.__next__»
 refine wpAny_bind (wpAny_pure (wpAny_bind (wpAny_fieldsOf EI BY ?_)))
 dsimp only
 refine wpAny_bind (wpAny_setEntries_of ho hd hf ?_)
 rw [if_neg (by simp)]
 refine wpAny_bind (hn _ _ _ ?_)
 dsimp only
 refine wpAny_bind (wpAny_setField EI BY (by simp) (wpAny_bind ?_))
 simp only [newExc,newTuple]
 refine wpAny_bind (wpAny_newObj_type ?_ (by size_fits))
 refine wpAny_bind (m:=firstArgMember _ _) (wpAny_of_eq (a:=Value.none) (by first | rfl | (simp only [firstArgMember]; rfl)) (wpAny_newObj_type ?_ (by size_fits)))
 simp only [raiseNew]
 refine wpAny_bind (wpAny_handled ?_)
 rw [show A.in1.handled = none from hh]
 refine wpAny_bind (wpAny_pure (wpAny_throw ?_))
 refine wpAny_bind (wpAny_isInstance (T:="StopIteration") (b:=true) (by exact ⟨_,Heap.get?_push_size _ rfl,rfl⟩) isSubtype_stop ?_)
 exact wpAny_pure (hQ _ (((Heap.SameBut.update ..).extBut.push _).push _))
theorem zK {i slot:Nat} {r:Option (Int × Value)} {Q:Option (Value × Nat)→Shared→Prop} (ho:s.heap.get? a = some o) (hd:o.data = .set es ep t) (hf:t.fits es.size = true) (hb:nI w = true) (hx:(pickOrder (w.params.setOrder a ep) es)[i]? = r)
  (h:Q (r.map fun e=>(e.2,slot)) s):wpAny (model prog w) A (setNext a slot i ep) Q E s:=by
 unfold setNext
 refine wpAny_bind (wpAny_setState_of ho hd hf ?_)
 dsimp only
 refine wpAny_bind (wpAny_bind (wpAny_askSetting (wpAny_pure ?_)))
 show wpAny _ A (if nI w = true then _ else _) Q E s
 rw [if_pos hb,if_neg (by simp)]
 refine wpAny_bind ?_
 unfold setWalk
 refine wpAny_bind (wpAny_setState_of ho hd hf ?_)
 dsimp only
 refine wpAny_bind (wpAny_bind (wpAny_askSetting (wpAny_pure ?_)))
 show wpAny _ A (if nI w = true then _ else _) _ E s
 rw [if_pos hb]
 refine wpAny_bind (wpAny_askSetting (wpAny_pure (wpAny_pure ?_)))
 rw [← hx] at h
 exact h
theorem wx {i slot:Nat} {Q:Option (Value × Nat)→Shared→Prop} (ho:s.heap.get? a = some o) (hd:o.data = .set es ep t) (hf:t.fits es.size = true) (hb:nI w = false) (Oc:(!t.plain && decide (es.size > 1)) = false) (hl:t.led = true) (hi:SetTable.below t.place slot = i)
  (h:Q (match es[i]?,t.place[i]? with | some (_,x),some j=>some (x,j + 1) | _,_=>none) s):wpAny (model prog w) A (setNext a slot i ep) Q E s:=by
 unfold setNext
 refine wpAny_bind (wpAny_setState_of ho hd hf ?_)
 dsimp only
 refine wpAny_bind (wpAny_bind (wpAny_askSetting (wpAny_pure ?_)))
 show wpAny _ A (if nI w = true then _ else (if (!t.plain && decide (es.size > 1)) = true then _ else _)) Q E s
 rw [if_neg (by rw [hb]; decide),if_neg (by rw [Oc]; decide)]
 refine wpAny_bind (m:=if (!t.led && !es.isEmpty) = true then unsupported "set:maker-not-led" else pure ()) ?_
 rw [if_neg (by rw [hl]; simp)]
 refine wpAny_pure (wpAny_pure ?_)
 subst hi
 exact h
end
end lM
namespace lM
open PySem PyProof.Rows
section
variable {prog:Program} {w:World} {A:Around} {E:Value→Shared→Prop} {s:Shared} {it a tp:Addr} {o ot:Obj} {es:Array (Int × Value)} {ep:Nat} {t:SetTable} {ps:Array Value} {m:Nat}
theorem iY.P6 {h:Heap} {f0:Value} {i n:Nat} (x:iY h it a f0 i n ep):iY (h.update it (Obj.mapFields (·.setIfInBounds 1 (rawInt ((i:Int) + 1))))) it a f0 (i + 1) n ep:=by
 obtain ⟨ob,ho,hc,hd⟩:=x
 refine ⟨_,Heap.get?_update_self _ ho (Obj.isFreed_of_fields (Obj.data_mapFields hd _)),(Obj.cls_mapFields ..).trans hc,?_⟩
 rw [Obj.data_mapFields hd]
 simp [rawInt]
theorem BZ {i place:Nat} {e:Int × Value} {Q:Option Value→Shared→Prop} (hit:iY s.heap it a (.ref tp) i es.size ep) (ho:s.heap.get? a = some o) (hd:o.data = .set es ep t) (hf:t.fits es.size = true)
  (ht:s.heap.get? tp = some ot) (Od:ot.data = .seq ps m) (hp:ps[i]? = some (.int place 0)) (he:es[place]? = some e)
  (hQ:∀ h',iY h' it a (.ref tp) (i + 1) es.size ep→Heap.SameBut it s.heap h'→Q (some e.2) { s with heap:=h' }):wpAny (model prog w) A (pyNext (.ref it)) Q E s:=by
 obtain ⟨ob,EI,hc,BY⟩:=id hit
 unfold pyNext
 refine wpAny_bind (wpAny_attempt (wpAny_callSpecial?_slot (name:=Str.ofString "__next__") hit.typeIs fH (wpAny_call_entry fH hit.typeIs pM ?_ (sR _))))
 unfold Builtin.«set_iterator.__next__»
 refine wpAny_bind (wpAny_pure (wpAny_bind (wpAny_fieldsOf EI BY ?_)))
 dsimp only
 refine wpAny_bind (wpAny_setEntries_of ho hd hf ?_)
 rw [if_neg (by simp)]
 refine wpAny_bind ?_
 unfold seqItems?
 refine wpAny_bind (wpAny_load ht ?_)
 rw [Od]
 refine wpAny_pure ?_
 dsimp only
 rw [Int.toNat_natCast,hp]
 dsimp only
 refine wpAny_bind ?_
 unfold setNextDrawn
 refine wpAny_bind (wpAny_setState_of ho hd hf ?_)
 dsimp only
 rw [if_neg (by simp),Int.toNat_natCast,he]
 refine wpAny_pure ?_
 refine wpAny_bind (wpAny_setField EI BY (by simp) ?_)
 exact wpAny_pure ⟨_,rfl,wpAny_pure (hQ _ hit.P6 (Heap.SameBut.update ..))⟩
theorem EJ {i:Nat} {Q:Option Value→Shared→Prop} (hh:A.handled = none) (hit:iY s.heap it a (.ref tp) i es.size ep) (ho:s.heap.get? a = some o) (hd:o.data = .set es ep t) (hf:t.fits es.size = true)
  (ht:s.heap.get? tp = some ot) (Od:ot.data = .seq ps m) (hp:ps[i]? = none)
  (hQ:∀ h',Heap.ExtBut it s.heap h'→Q none { s with heap:=h' }):wpAny (model prog w) A (pyNext (.ref it)) Q E s:=by
 obtain ⟨ob,EI,hc,BY⟩:=id hit
 unfold pyNext
 refine wpAny_bind (wpAny_attempt (wpAny_callSpecial?_slot (name:=Str.ofString "__next__") hit.typeIs fH (wpAny_call_entry fH hit.typeIs pM ?_ (sR _))))
 unfold Builtin.«set_iterator.__next__»
 refine wpAny_bind (wpAny_pure (wpAny_bind (wpAny_fieldsOf EI BY ?_)))
 dsimp only
 refine wpAny_bind (wpAny_setEntries_of ho hd hf ?_)
 rw [if_neg (by simp)]
 refine wpAny_bind ?_
 unfold seqItems?
 refine wpAny_bind (wpAny_load ht ?_)
 rw [Od]
 refine wpAny_pure ?_
 dsimp only
 rw [Int.toNat_natCast,hp]
 dsimp only
 refine wpAny_bind (wpAny_setField EI BY (by simp) ?_)
 have h1:(s.heap.update it (Obj.mapFields (·.setIfInBounds 0 (rawInt 0)))).get? it = some (Obj.mapFields (·.setIfInBounds 0 (rawInt 0)) ob):=Heap.get?_update_self _ EI (Obj.isFreed_of_fields (Obj.data_mapFields BY _))
 refine wpAny_bind (wpAny_setField (s:={ s with heap:=s.heap.update it (Obj.mapFields (·.setIfInBounds 0 (rawInt 0))) }) h1 (Obj.data_mapFields BY _) (by simp) (wpAny_bind ?_))
 simp only [newExc,newTuple]
 refine wpAny_bind (wpAny_newObj_type ?_ (by size_fits))
 refine wpAny_bind (m:=firstArgMember _ _) (wpAny_of_eq (a:=Value.none) (by first | rfl | (simp only [firstArgMember]; rfl)) (wpAny_newObj_type ?_ (by size_fits)))
 simp only [raiseNew]
 refine wpAny_bind (wpAny_handled ?_)
 rw [show A.in1.handled = none from hh]
 refine wpAny_bind (wpAny_pure (wpAny_throw ?_))
 refine wpAny_bind (wpAny_isInstance (T:="StopIteration") (b:=true) (by exact ⟨_,Heap.get?_push_size _ rfl,rfl⟩) isSubtype_stop ?_)
 exact wpAny_pure (hQ _ ((((Heap.SameBut.update ..).trans (Heap.SameBut.update ..)).extBut.push _).push _))
end
end lM
namespace lM
open PySem PyProof.Rows
theorem zL:Slot "set_iterator" "__iter__" "set_iterator.__iter__" :=
 .of (owner:="set_iterator") (n:="__iter__") (by rw [typeLookup_type,builtinLookup_eq_fast]; kernel_rfl) (by decide +kernel) (by decide +kernel) (by decide +kernel) (by first | exact .inl (by decide +kernel) | exact .inr (by decide +kernel)) (by rw [isSubtype_type]; kernel_rfl)
theorem EK:entryFor table "set_iterator.__iter__" = some Builtin.«dict_keyiterator.__iter__»:=entryFor_alias (id':="dict_keyiterator.__iter__") (by kernel_rfl) rfl (by decide +kernel) (by kernel_rfl)
theorem HD (a:Value):argsOk "set_iterator.__iter__" ⟨[a],[]⟩:=by
 unfold argsOk; rw [signature?_of (id:="set_iterator.__iter__") (n:=['_','_','r','e','t','i','_','_']) (o:=['r','o','t','a','r','e','t','i','_','t','e','s']) (by kernel_rfl) zJ]; kernel_rfl
theorem xJ {α β:Type} {f:α→Option β} {d:β}:∀ {l:List α},(∀ x ∈ l,f x ≠ none)→l.filterMap f = l.map fun x=>(f x).getD d
 | [],_=>rfl
 | x :: l,h=>by
  have ih:=xJ (d:=d) fun y hy=>h y (List.mem_cons_of_mem _ hy)
  cases q:f x with
  | none=>exact absurd q (h x List.mem_cons_self)
  | some y=>rw [List.filterMap_cons_some q,List.map_cons,ih,q]; rfl
theorem iY.at {h h':Heap} {it a:Addr} {f0:Value} {i n ep:Nat} (x:iY h it a f0 i n ep) (e:∀ o,h.get? it = some o→h'.get? it = some o):iY h' it a f0 i n ep:=let ⟨o,ho,r⟩:=x; ⟨o,e _ ho,r⟩
section
variable {prog:Program} {w:World} {A:Around} {E:Value→Shared→Prop} {s:Shared} {it a tp:Addr} {o ot:Obj} {es:Array (Int × Value)} {ep:Nat} {t:SetTable} {ps:Array Value} {m:Nat}
theorem xK {f0:Value} {i n:Nat} {Q:Value→Shared→Prop} (hit:iY s.heap it a f0 i n ep) (h:Q (.ref it) s):wpAny (model prog w) A (pyIter (.ref it)) Q E s:=by
 refine wpAny_pyIter_slot hit.typeIs zL (wpAny_call_entry zL hit.typeIs EK ?_ (HD _))
 show wpAny _ _ (ret (.ref it)) _ _ s
 exact wpAny_pure ⟨_,rfl,"set_iterator",_,hit.typeIs,fH.lookup,h⟩
theorem oG {s:Shared} {h':Heap} (k:Heap.SameBut it s.heap h'):Moved [it] Eq s { s with heap:=h' }:=⟨fun b o hb e=>(k.2 b fun z=>hb (by rw [z]; exact List.mem_singleton.mpr rfl)).trans e,rfl,rfl,rfl,Nat.le_refl _⟩
theorem qz {s:Shared} {h':Heap} (k:Heap.ExtBut it s.heap h'):Moved [it] Eq s { s with heap:=h' }:=⟨fun b o hb e=>k b o (fun z=>hb (by rw [z]; exact List.mem_singleton.mpr rfl)) e,rfl,rfl,rfl,Nat.le_refl _⟩
noncomputable def Nj (it a:Addr) (o:Obj) (n ep:Nat) (i:Nat) (s:Shared):Prop:=iY s.heap it a (.int 0 0) i n ep∧s.heap.get? a = some o
noncomputable def Kh (it a:Addr) (o:Obj) (t:SetTable) (n ep:Nat) (i:Nat) (s:Shared):Prop:=∃ slot:Nat,iY s.heap it a (.int slot 0) i n ep∧s.heap.get? a = some o∧SetTable.below t.place slot = i
noncomputable def Ki (it a tp:Addr) (o ot:Obj) (n ep:Nat) (i:Nat) (s:Shared):Prop:=iY s.heap it a (.ref tp) i n ep∧s.heap.get? a = some o∧s.heap.get? tp = some ot
theorem EL (hh:A.handled = none) (hd:o.data = .set es ep t) (hf:t.fits es.size = true) (hb:nI w = true) (ne:a ≠ it) :
  WalksS prog w A it [it,a] [it] Eq es.size (fun i v=>((pickOrder (w.params.setOrder a ep) es).toList.map (·.2))[i]? = some v) (Nj it a o es.size ep) where
 sub:=fun b hb=>by rw [List.mem_singleton.mp hb]; exact List.mem_cons_self
 grefl:=fun _=>rfl
 gtrans:=fun _ _ _ x y=>x.trans y
 frame:=fun i s h' tk ⟨h1,h2⟩ _ k=>⟨h1.at fun o e=>k _ (by simp) o e,k _ (by simp) _ h2⟩
 item:=fun i s Q E hi ⟨h1,h2⟩ hQ=>by
  have len:(pickOrder (w.params.setOrder a ep) es).size = es.size:=by rw [← Array.length_toList,(qy _ es).length_eq,Array.length_toList]
  have e:=Array.getElem?_eq_getElem (xs:=pickOrder (w.params.setOrder a ep) es) (i:=i) (by omega)
  refine wt (slot:=0) (nx:=0) h1 h2 hd hf (fun A' E' Q' q=>zK h2 hd hf hb e q) fun h' z1 z2=>hQ _ _ ?_ ⟨z1,(z2.2 a ne).trans h2⟩ (oG z2)
  rw [List.getElem?_map,Array.getElem?_toList,e]; rfl
 done:=fun s Q E ⟨h1,h2⟩ hQ=>by
  have len:(pickOrder (w.params.setOrder a ep) es).size = es.size:=by rw [← Array.length_toList,(qy _ es).length_eq,Array.length_toList]
  have e:(pickOrder (w.params.setOrder a ep) es)[es.size]? = none:=Array.getElem?_eq_none (by omega)
  exact wu (slot:=0) hh h1 h2 hd hf (fun A' E' Q' q=>zK h2 hd hf hb e q) fun h' z=>hQ _ (qz z)
 self:=fun i s Q E ⟨h1,_⟩ q=>xK h1 q
theorem B0 (hh:A.handled = none) (hd:o.data = .set es ep t) (hf:t.fits es.size = true) (hb:nI w = false) (Oc:(!t.plain && decide (es.size > 1)) = false) (hl:t.led = true) (up:Up t.place) (ne:a ≠ it) :
  WalksS prog w A it [it,a] [it] Eq es.size (fun i v=>(es.toList.map (·.2))[i]? = some v) (Kh it a o t es.size ep) where
 sub:=fun b hb=>by rw [List.mem_singleton.mp hb]; exact List.mem_cons_self
 grefl:=fun _=>rfl
 gtrans:=fun _ _ _ x y=>x.trans y
 frame:=fun i s h' tk ⟨slot,h1,h2,h3⟩ _ k=>⟨slot,h1.at fun o e=>k _ (by simp) o e,k _ (by simp) _ h2,h3⟩
 item:=fun i s Q E hi ⟨slot,h1,h2,h3⟩ hQ=>by
  have sz:t.place.size = es.size:=by unfold SetTable.fits at hf; simp only [Bool.and_eq_true,beq_iff_eq] at hf; exact hf.1
  have e:=Array.getElem?_eq_getElem (xs:=es) (i:=i) hi
  have e2:=Array.getElem?_eq_getElem (xs:=t.place) (i:=i) (by omega)
  generalize t.place[i]'(by omega) = j at e2
  refine wt (nx:=j + 1) (x:=es[i].2) h1 h2 hd hf (fun A' E' Q' q=>wx h2 hd hf hb Oc hl h3 (by rw [e,e2]; exact q)) fun h' z1 z2=>hQ _ _ ?_ ⟨j + 1,z1,(z2.2 a ne).trans h2,BV up e2⟩ (oG z2)
  rw [List.getElem?_map,Array.getElem?_toList,e]; rfl
 done:=fun s Q E ⟨slot,h1,h2,h3⟩ hQ=>by
  have e:es[es.size]? = none:=Array.getElem?_eq_none (Nat.le_refl _)
  exact wu hh h1 h2 hd hf (fun A' E' Q' q=>wx h2 hd hf hb Oc hl h3 (by rw [e]; exact q)) fun h' z=>hQ _ (qz z)
 self:=fun i s Q E ⟨slot,h1,_⟩ q=>xK h1 q
theorem B1 {ord:List Nat} (hh:A.handled = none) (hd:o.data = .set es ep t) (hf:t.fits es.size = true) (hp:ord.Perm (List.range es.size)) (Od:ot.data = .seq (ord.map fun j=>Value.int (j:Nat) 0).toArray m) (ne:a ≠ it) (ne2:tp ≠ it) :
  WalksS prog w A it [it,a,tp] [it] Eq es.size (fun i v=>(ord.filterMap fun j=>es[j]?.map (·.2))[i]? = some v) (Ki it a tp o ot es.size ep) where
 sub:=fun b hb=>by rw [List.mem_singleton.mp hb]; exact List.mem_cons_self
 grefl:=fun _=>rfl
 gtrans:=fun _ _ _ x y=>x.trans y
 frame:=fun i s h' tk ⟨h1,h2,h3⟩ _ k=>⟨h1.at fun o e=>k _ (by simp) o e,k _ (by simp) _ h2,k _ (by simp) _ h3⟩
 item:=fun i s Q E hi ⟨h1,h2,h3⟩ hQ=>by
  have len:ord.length = es.size:=by rw [hp.length_eq,List.length_range]
  have ej:=List.getElem?_eq_getElem (l:=ord) (i:=i) (by omega)
  have hj:ord[i]'(by omega) < es.size:=List.mem_range.mp (hp.mem_iff.mp (List.getElem_mem _))
  generalize ord[i]'(by omega) = j at ej hj
  have e:=Array.getElem?_eq_getElem (xs:=es) (i:=j) hj
  have full:(ord.filterMap fun j=>es[j]?.map (·.2)) = ord.map fun j=>(es[j]?.map (·.2)).getD .none:=by
   refine xJ fun k hk=>?_
   rw [Array.getElem?_eq_getElem (List.mem_range.mp (hp.mem_iff.mp hk))]
   exact fun z=>nomatch z
  refine BZ (place:=j) h1 h2 hd hf h3 Od (by simp [ej]) e fun h' z1 z2=>hQ _ _ ?_ ⟨z1,(z2.2 a ne).trans h2,(z2.2 tp ne2).trans h3⟩ (oG z2)
  rw [full,List.getElem?_map,ej,Option.map_some,e]; rfl
 done:=fun s Q E ⟨h1,h2,h3⟩ hQ=>by
  have len:ord.length = es.size:=by rw [hp.length_eq,List.length_range]
  exact EJ hh h1 h2 hd hf h3 Od (by simp [← len]) fun h' z=>hQ _ (qz z)
 self:=fun i s Q E ⟨h1,_⟩ q=>xK h1 q
end
end lM
namespace lM
open PySem PyProof.Rows
section
variable {prog:Program} {w:World} {A:Around} {E:Value→Shared→Prop} {s:Shared} {a:Addr} {o:Obj} {es:Array (Int × Value)} {ep:Nat} {t:SetTable}
structure Nk (prog:Program) (w:World) (a:Addr) (es:Array (Int × Value)) (s s':Shared) (it:Addr):Prop where
 walk:∃ (vals:List Value) (fp:List Addr) (St:Nat→Shared→Prop),vals.Perm (es.toList.map (·.2))∧(∀ A':Around,A'.handled = none→WalksS prog w A' it fp [it] Eq es.size (fun i v=>vals[i]? = some v) St)∧St 0 s'∧∀ b ∈ fp,b = a∨s.heap.objs.size ≤ b
 kept:∀ b o,s.heap.get? b = some o→s'.heap.get? b = some o
 gens:s'.gens = s.gens
 os:s'.os = s.os
 fresh:s.heap.objs.size ≤ it
theorem range_all (es:Array (Int × Value)):((List.range es.size).filterMap fun j=>es[j]?.map (·.2)) = es.toList.map (·.2):=by
 rw [xJ (d:=.none) fun k hk=>by rw [Array.getElem?_eq_getElem (List.mem_range.mp hk)]; exact fun z=>nomatch z]
 refine List.ext_getElem (by simp) fun i h1 h2=>?_
 simp only [List.length_map,List.length_range] at h1
 simp [h1]
theorem Nl {Q:Value→Shared→Prop} (ho:s.heap.get? a = some o) (hex:o.ExactSet) (hd:o.data = .set es ep t) (hf:t.fits es.size = true) (ti:TI t (!nI w)) (hb:es.size < scanBound)
  (hQ:∀ it s',Nk prog w a es s s' it→Q (.ref it) s'):wpAny (model prog w) A (pyIter (.ref a)) Q E s:=by
 have hT:s.TypeIs (.ref a) "set":=⟨o,ho,hex.1⟩
 have lt:=Heap.lt_size ho
 refine wpAny_pyIter_slot hT PySem.F.slot_set_iter (wpAny_call_entry PySem.F.slot_set_iter hT BX ?_ (PySem.F.args_set_iter_1 _))
 unfold Builtin.«frozenset.__iter__» Builtin.Frozenset.slot0 slotArgs
 simp only [List.isEmpty_nil,Bool.not_true,Bool.false_eq_true,↓reduceIte,bind_assoc,List.length_nil,bne_self_eq_false]
 unfold Builtin.Frozenset.addrOf Builtin.Frozenset.sizeOf
 refine wpAny_bind (wpAny_pure ?_)
 try dsimp only
 refine wpAny_bind (wpAny_pure ?_)
 refine wpAny_bind (wpAny_bind (wpAny_setEntries_of ho hd hf (wpAny_pure ?_)))
 refine wpAny_bind ?_
 unfold setDrawn
 refine wpAny_bind (wpAny_setState_of ho hd hf ?_)
 dsimp only
 refine wpAny_bind (wpAny_bind (wpAny_askSetting (wpAny_pure (wpAny_pure ?_))))
 show wpAny _ A.in1 (if (!nI w && (!t.plain && decide (es.size > 1))) = true then _ else _) _ E s
 have sz:∀ (h:Heap) (ob:Obj),(h.push ob).objs.size = h.objs.size + 1:=fun h ob=>Heap.size_push ..
 by_cases q:(!nI w && (!t.plain && decide (es.size > 1))) = true
 ·rw [if_pos q]
  refine wpAny_bind (wq es.size (List.range es.size) s _ List.length_range fun ord d p=>?_)
  have lo:ord.length = es.size:=by rw [p.length_eq,List.length_range]
  simp only [newTuple]
  refine wpAny_bind (wpAny_newObj_type ?_ (by show (List.map _ ord).toArray.size ≤ sizeLine; rw [List.size_toArray,List.length_map,lo]; exact Nat.le_trans (Nat.le_of_lt hb) (by decide)))
  refine wpAny_bind (wpAny_setEpoch_of (o:=o) (Heap.get?_push_of_some _ ho) hd hf ?_)
  refine wpAny_bind (wpAny_newObj_type (wpAny_pure ⟨_,rfl,"set_iterator",_,⟨_,Heap.get?_push_size _ rfl,rfl⟩,fH.lookup,hQ _ _ ⟨?_,?_,rfl,rfl,?_⟩⟩))
  ·have e1:(s.heap.push { cls:=.type "tuple",data:=.seq (ord.map fun (i:Nat)=>rawInt (i:Int)).toArray }).get? s.heap.objs.size = some { cls:=.type "tuple",data:=.seq (ord.map fun (i:Nat)=>rawInt (i:Int)).toArray }:=Heap.get?_push_size _ rfl
   have ea:(s.heap.push { cls:=.type "tuple",data:=.seq (ord.map fun (i:Nat)=>rawInt (i:Int)).toArray }).get? a = some o:=Heap.get?_push_of_some _ ho
   have NZ:=sz s.heap { cls:=.type "tuple",data:=.seq (ord.map fun (i:Nat)=>rawInt (i:Int)).toArray }
   generalize s.heap.push { cls:=.type "tuple",data:=.seq (ord.map fun (i:Nat)=>rawInt (i:Int)).toArray } = H1 at e1 NZ ea ⊢
   have n1:a ≠ H1.objs.size:=by rw [NZ]; exact Nat.ne_of_lt (Nat.lt_succ_of_lt lt)
   have n2:s.heap.objs.size ≠ H1.objs.size:=by rw [NZ]; exact Nat.ne_of_lt (Nat.lt_succ_self _)
   refine ⟨_,[H1.objs.size,a,s.heap.objs.size],_,(p.filterMap fun j=>es[j]?.map (·.2)).trans (by rw [range_all]),fun A' hh=>B1 (tp:=s.heap.objs.size) hh hd hf p rfl n1 n2,⟨⟨_,Heap.get?_push_size _ rfl,rfl,rfl⟩,Heap.get?_push_of_some _ ea,Heap.get?_push_of_some _ e1⟩,fun b hb'=>?_⟩
   simp only [List.mem_cons,List.not_mem_nil,or_false] at hb'
   rcases hb' with rfl | rfl | rfl
   ·right; rw [NZ]; exact Nat.le_succ _
   ·exact .inl rfl
   ·exact .inr (Nat.le_refl _)
  ·exact fun b o e=>Heap.get?_push_of_some _ (Heap.get?_push_of_some _ e)
  ·dsimp only; rw [sz]; exact Nat.le_succ _
 ·rw [if_neg q]
  refine wpAny_bind (wpAny_pure (wpAny_bind (wpAny_setEpoch_of ho hd hf (wpAny_bind (wpAny_newObj_type (wpAny_pure ⟨_,rfl,"set_iterator",_,⟨_,Heap.get?_push_size _ rfl,rfl⟩,fH.lookup,hQ _ _ ⟨?_,?_,rfl,rfl,Nat.le_refl _⟩⟩))))))
  ·have ne:a ≠ s.heap.objs.size:=Nat.ne_of_lt lt
   have g1:iY (s.heap.push { cls:=.type "set_iterator",data:=.fields #[.int 0 0,.int 0 0,.ref a,.int es.size 0,.int ep 0] }) s.heap.objs.size a (.int 0 0) 0 es.size ep:=⟨_,Heap.get?_push_size _ rfl,rfl,rfl⟩
   cases Rr:nI w with
   | true =>
    refine ⟨_,[s.heap.objs.size,a],_,(qy (w.params.setOrder a ep) es).map _,fun A' hh=>EL hh hd hf Rr ne,⟨g1,Heap.get?_push_of_some _ ho⟩,fun b hb'=>?_⟩
    rcases List.mem_cons.mp hb' with rfl | hb'
    ·exact .inr (Nat.le_refl _)
    ·exact .inl (List.mem_singleton.mp hb')
   | false =>
    have hl:t.led = true:=by rw [ti.led,Rr]; rfl
    have Oc:(!t.plain && decide (es.size > 1)) = false:=by rw [Rr] at q; simpa using q
    refine ⟨_,[s.heap.objs.size,a],_,List.Perm.refl _,fun A' hh=>B0 hh hd hf Rr Oc hl ti.up ne,⟨0,g1,Heap.get?_push_of_some _ ho,Kg ti.up⟩,fun b hb'=>?_⟩
    rcases List.mem_cons.mp hb' with rfl | hb'
    ·exact .inr (Nat.le_refl _)
    ·exact .inl (List.mem_singleton.mp hb')
  ·exact fun b o e=>Heap.get?_push_of_some _ e
end
end lM
namespace lM
open PySem PyProof.Rows
section
variable {prog:Program} {w:World} {A:Around} {E:Value→Shared→Prop} {s:Shared} {a:Addr} {o:Obj} {es:Array (Int × Value)} {ep:Nat} {t:SetTable}
theorem HE {vals:List Value} {acc:Array Value} {n:Nat} (hn:vals.length = n) (h:ItemsOf (fun i v=>vals[i]? = some v) acc n):acc.toList = vals:=by
 refine List.ext_getElem? fun i=>?_
 rw [Array.getElem?_toList]
 by_cases z:i < acc.size
 ·have e:=Array.getElem?_eq_getElem z
  rw [h.2 i _ e,e]
 ·rw [Array.getElem?_eq_none (by omega),List.getElem?_eq_none (by have:=h.1; omega)]
theorem EM {Q:List Value→Shared→Prop} (hh:A.handled = none) (ho:s.heap.get? a = some o) (hex:o.ExactSet) (hd:o.data = .set es ep t) (hf:t.fits es.size = true) (ti:TI t (!nI w)) (hb:es.size < scanBound)
  (hQ:∀ s' (vals:List Value),vals.Perm (es.toList.map (·.2))→(∀ b o,s.heap.get? b = some o→s'.heap.get? b = some o)→s'.gens = s.gens→s'.os = s.os→s.heap.objs.size < s'.heap.objs.size→Q vals s') :
  wpAny (model prog w) A (collect (.ref a)) Q E s:=by
 have lt:=Heap.lt_size ho
 unfold collect
 refine wpAny_bind (wpAny_runValue (codeAny_builtin PySem.F.entry_proto_collect ?_))
 rw [Around.under_plainId PySem.F.plain_proto_collect _]
 show wpAny _ A.in1 (newList [] >>= fun l=>again (.builtin "list.__iadd__" ⟨[l,.ref a],[]⟩)) _ _ s
 refine wpAny_bind (wpAny_newObj_type (wpAny_pure ⟨plainId_quiet PySem.F.plain_list_iadd _,codeAny_builtin PySem.F.entry_list_iadd ?_⟩))
 rw [Around.under_plainId PySem.F.plain_list_iadd _]
 show wpAny _ A.in1 (Builtin.List.listExtendWith (.ref s.heap.objs.size) (.ref a) (.ref s.heap.objs.size)) _ _ _
 have g0:(s.heap.push { cls:=.type "list",data:=.seq ([]:List Value).toArray }).get? s.heap.objs.size = some (seqObj "list" #[] 0):=Heap.get?_push_size _ rfl
 have k0:∀ b o,s.heap.get? b = some o→(s.heap.push { cls:=.type "list",data:=.seq ([]:List Value).toArray }).get? b = some o:=fun b o e=>Heap.get?_push_of_some _ e
 have z0:(s.heap.push { cls:=.type "list",data:=.seq ([]:List Value).toArray }).objs.size = s.heap.objs.size + 1:=Heap.size_push ..
 generalize s.heap.push { cls:=.type "list",data:=.seq ([]:List Value).toArray } = H0 at g0 k0 z0 ⊢
 unfold Builtin.List.listExtendWith
 have hT:Shared.TypeIs { s with heap:=H0 } (.ref a) "set":=⟨o,k0 _ _ ho,hex.1⟩
 refine wpAny_bind (wpAny_typeOf hT ?_)
 have h1:Builtin.List.listSameRef (.ref s.heap.objs.size) (.ref a) = false:=by
  show (s.heap.objs.size == a) = false
  exact beq_false_of_ne (Nat.ne_of_gt lt)
 rw [if_neg (by rw [h1]; decide)]
 refine wpAny_bind (Nl (s:={ s with heap:=H0 }) (k0 _ _ ho) hex hd hf ti hb fun it s' Wk=>?_)
 refine wpAny_bind (wpAny_holding ?_)
 have hT':s'.TypeIs (.ref a) "set":=⟨o,Wk.kept _ _ (k0 _ _ ho),hex.1⟩
 unfold Builtin.List.listLengthHint
 refine wpAny_bind (wpAny_specialOf hT' PySem.F.slot_set_len.lookup ?_)
 wp_delta
 refine wpAny_bind (wpAny_isInstance (b:=true) hT' (by rw [isSubtype_type]; kernel_rfl) ?_)
 show wpAny _ A.in1 (typeOf (.ref a) >>= _) _ _ s'
 refine wpAny_bind (wpAny_typeOf hT' (wpAny_pure ?_))
 rw [if_pos (by decide)]
 refine wpAny_bind (wpAny_rule ?_)
 unfold Builtin.List.listTouch
 obtain ⟨vals,fp,St,pv,W,st,hfp⟩:=Wk.walk
 have nS:s.heap.objs.size ∉ fp:=fun z=>by
  rcases hfp _ z with e | e
  ·exact absurd lt (by rw [← e]; exact Nat.lt_irrefl _)
  ·have e':H0.objs.size ≤ s.heap.objs.size:=e
   rw [z0] at e'
   exact absurd e' (Nat.not_succ_le_self _)
 have gS:s'.heap.get? s.heap.objs.size = some (seqObj "list" #[] 0):=Wk.kept _ _ g0
 refine wpAny_bind (wpAny_bind (listUpdate_at gS rfl ?_ (by decide) (by decide)))
 have g1:=get?_update_seq gS (·.push .none)
 refine listUpdate_at (s:={ s' with heap:=s'.heap.update s.heap.objs.size (Obj.mapSeq (·.push .none)) }) g1 rfl ?_ (by decide) (by decide)
 have g2:=get?_update_seq g1 (·.pop)
 have sb:Heap.SameBut s.heap.objs.size s'.heap ((s'.heap.update s.heap.objs.size (Obj.mapSeq (·.push .none))).update s.heap.objs.size (Obj.mapSeq (·.pop))):=(Heap.SameBut.update ..).trans (Heap.SameBut.update ..)
 dsimp only
 generalize ((s'.heap.update s.heap.objs.size (Obj.mapSeq (·.push .none))).update s.heap.objs.size (Obj.mapSeq (·.pop))) = H2 at g2 sb ⊢
 have lv:vals.length = es.size:=by rw [pv.length_eq,List.length_map,Array.length_toList]
 have Fo:St 0 { s' with heap:=H2 }:=(W A.in1 hh).frame 0 s' H2 s'.toks st (Nat.le_refl _) fun b hb o e=>(sb.2 b fun z=>nS (z ▸ hb)).trans e
 refine wpAny_pure ⟨plainId_quiet PySem.F.plain_extend_loop _,codeAny_extend_loopS (W A.in1 hh) (Nat.le_trans (Nat.le_of_lt hb) (by decide)) _ nS _ es.size 0 _ _ _ rfl (Nat.zero_le _) Fo g2 (ItemsOf.nil _) fun s3 acc' c' hm hS' J5=>?_⟩
 show wpAny _ A (load s.heap.objs.size >>= _) _ _ s3
 refine wpAny_bind (wpAny_load hS' ?_)
 rw [← HE lv J5] at pv
 refine wpAny_pure (hQ s3 acc'.toList pv (fun b ob e=>?_) (hm.gens.symm.trans Wk.gens) (hm.os.trans Wk.os) (Heap.lt_size hS'))
 have lb:=Heap.lt_size e
 refine hm.heap b ob (fun hb'=>?_) ((sb.2 b (Nat.ne_of_lt lb)).trans (Wk.kept _ _ (k0 _ _ e)))
 rcases List.mem_cons.mp hb' with z | z
 ·exact absurd lb (z ▸ Nat.lt_irrefl _)
 ·have:H0.objs.size ≤ b:=by rw [List.mem_singleton.mp z]; exact Wk.fresh
  rw [z0] at this
  exact absurd (Nat.lt_of_lt_of_le (Nat.lt_succ_self _) this) (Nat.not_lt.mpr (Nat.le_of_lt lb))
end
end lM
namespace lM
open PySem PyProof.Rows
theorem wy {α:Type} [DecidableEq α]:∀ {l m:List α},l.Nodup→(∀ x ∈ l,x ∈ m)→m.length ≤ l.length→l.Perm m
 | [],m,_,_,h=>by rw [List.length_eq_zero_iff.mp (Nat.le_zero.mp h)]
 | x :: l,m,nd,hs,h=>by
  have hx:=hs x List.mem_cons_self
  obtain ⟨n1,n2⟩:=List.nodup_cons.mp nd
  refine (List.Perm.cons x (wy n2 (fun y hy=>?_) ?_)).trans (List.perm_cons_erase hx).symm
  ·exact (List.mem_erase_of_ne fun (e:y = x)=>n1 (e ▸ hy)).mpr (hs y (List.mem_cons_of_mem _ hy))
  ·rw [List.length_erase_of_mem hx]
   simp only [List.length_cons] at h
   omega
section
variable {prog:Program} {w:World} {A:Around} {E:Value→Shared→Prop} {s:Shared} {a:Addr}
theorem Kj {vals:List Value}:(∀ v ∈ vals,∃ k,(intKind prog w).is k v = true)→∃ ks:List Int,IntsAre vals ks∧∀ k,(k ∈ ks ↔ ∃ v ∈ vals,(intKind prog w).is k v = true):=by
 induction vals with
 | nil=>exact fun _=>⟨[],.nil,fun k=>by simp⟩
 | cons v vs ih =>
  intro h
  obtain ⟨k,hk⟩:=h v List.mem_cons_self
  obtain ⟨ks,h1,h2⟩:=ih fun u hu=>h u (List.mem_cons_of_mem _ hu)
  obtain ⟨t,rfl⟩:=Value.isInt_shape (k:=k) (v:=v) hk
  refine ⟨k :: ks,.cons k t h1,fun j=>?_⟩
  rw [List.mem_cons,h2 j]
  constructor
  ·rintro (rfl | ⟨u,hu,hj⟩)
   ·exact ⟨_,List.mem_cons_self,hk⟩
   ·exact ⟨u,List.mem_cons_of_mem _ hu,hj⟩
  ·rintro ⟨u,hu,hj⟩
   rcases List.mem_cons.mp hu with rfl | hu
   ·exact .inl ((intKind prog w).inj _ j k hj hk)
   ·exact .inr ⟨u,hu,hj⟩
theorem IntsAre.len:∀ {vs:List Value} {ns:List Int},IntsAre vs ns→vs.length = ns.length
 | _,_,.nil=>rfl
 | _,_,.cons n t h=>by rw [List.length_cons,List.length_cons,IntsAre.len h]
theorem HF {S:Int→Bool} {n:Nat} {fm:List Int} {Q:Value→Shared→Prop} (hh:A.handled = none) (hJ:jE prog w s.heap a S n (!nI w)) (nd:fm.Nodup) (hS:∀ k,S k = true ↔ k ∈ fm) (hn:n = fm.length) (AI:n < 64)
  (hQ:∀ (s':Shared) (ms:List Int) (D:Addr) (out:Array Value) (e:Nat),ms.Pairwise (· < ·)→(∀ t,t ∈ ms ↔ t ∈ fm)→(∀ b o,s.heap.get? b = some o→s'.heap.get? b = some o)→s'.gens = s.gens→s'.os = s.os →
   s'.heap.get? D = some (seqObj "list" out e)→IntsAre out.toList ms→s.heap.objs.size ≤ D→Q (.ref D) s'):wpAny (model prog w) A (call (.builtin "sorted") [.ref a]) Q E s:=by
 obtain ⟨o,es,ep,t,ho,hex,hd,Kf,xI,hb,hf,en,ti⟩:=hJ
 refine Calls.call_function_entry kind_sorted plain_sorted entry_sorted (args_sorted1 _) ?_
 unfold Builtin.«sorted»
 refine wpAny_bind (m:=checkCount "sorted" 1 1 _) (wpAny_pure ?_)
 refine wpAny_bind (EM (by simp [hh]) ho hex hd hf ti hb fun s1 vals pv k1 eg eo zs=>?_)
 obtain ⟨ks,ik,mk⟩:=Kj (prog:=prog) (w:=w) (vals:=vals) fun v hv=>by
  obtain ⟨e,he,rfl⟩:=List.mem_map.mp (pv.mem_iff.mp hv)
  obtain ⟨⟨k,hk,_⟩,_⟩:=Kf e he
  exact ⟨k,hk⟩
 have lk:ks.length = n:=by rw [← IntsAre.len ik,pv.length_eq,List.length_map,Array.length_toList,en]
 have mem:∀ k,k ∈ ks ↔ k ∈ fm:=fun k=>by
  rw [mk k,← hS k,xI k]
  constructor
  ·rintro ⟨v,hv,hk⟩
   obtain ⟨e,he,rfl⟩:=List.mem_map.mp (pv.mem_iff.mp hv)
   exact ⟨e,he,hk⟩
  ·rintro ⟨e,he,hk⟩
   exact ⟨e.2,pv.mem_iff.mpr (List.mem_map_of_mem he),hk⟩
 have nk:ks.Nodup:=(wy nd (fun x hx=>(mem x).mpr hx) (by omega)).nodup_iff.mp nd
 refine wpAny_bind (wpAny_newList ?_ (by rw [IntsAre.len ik,lk]; exact Nat.le_trans (Nat.le_of_lt AI) (by decide)))
 have E3:(s1.heap.push (seqObj "list" vals.toArray 0)).get? s1.heap.objs.size = some (seqObj "list" vals.toArray 0):=Heap.get?_push_size _ rfl
 show wpAny _ _ _ _ _ { s1 with heap:=s1.heap.push (seqObj "list" vals.toArray 0) }
 refine wpAny_bind (wpAny_holding (wpAny_call_entry slot_list_sort ⟨_,E3,rfl⟩ entry_list_sort (list_sort_tree E3 ik (by rw [IntsAre.len ik,lk]; exact AI) fun out ms a1 a2 a3=>⟨_,rfl,?_⟩) (args_list_sort _)))
 have lt1:∀ b o,s.heap.get? b = some o→b < s1.heap.objs.size:=fun b o e=>Heap.lt_size (k1 b o e)
 obtain ⟨e,he⟩:=sortedHeap_at (out:=out) E3
 refine wpAny_pure ⟨_,rfl,hQ _ ms _ out e ?_ (fun t=>(a2.mem_iff).trans (mem t)) (fun b o z=>?_) eg eo he a1 ?_⟩
 ·refine (List.Pairwise.and a3 (a2.nodup_iff.mpr nk)).imp fun {x y} ⟨h1,h2⟩=>?_
  omega
 ·have lb:=lt1 b o z
  show (sortedHeap (s1.heap.push (seqObj "list" vals.toArray 0)) s1.heap.objs.size vals out).get? b = some o
  rw [sortedHeap_old (Nat.ne_of_lt lb) (by rw [Heap.size_push]; exact Nat.lt_succ_of_lt lb)]
  exact Heap.get?_push_of_some _ (k1 b o z)
 ·exact Nat.le_of_lt zs
end
end lM
namespace lM
theorem wz {α:Type} [DecidableEq α]:∀ {l m:List α},l.Nodup→(∀ x ∈ l,x ∈ m)→l.length ≤ m.length
 | [],m,_,_=>Nat.zero_le _
 | x :: l,m,nd,hs=>by
  have hx:=hs x List.mem_cons_self
  obtain ⟨n1,n2⟩:=List.nodup_cons.mp nd
  have:=wz (m:=m.erase x) n2 fun y hy=>(List.mem_erase_of_ne fun (e:y = x)=>n1 (e ▸ hy)).mpr (hs y (List.mem_cons_of_mem _ hy))
  rw [List.length_erase_of_mem hx] at this
  have:0 < m.length:=List.length_pos_of_mem hx
  rw [List.length_cons]
  omega
end lM
namespace lM
open PySem PyProof.Rows
theorem zM:isSubtype (.type "tuple") (.type "set") = pure false:=by rw [isSubtype_type]; kernel_rfl
theorem xM:isSubtype (.type "tuple") (.type "frozenset") = pure false:=by rw [isSubtype_type]; kernel_rfl
section
variable {prog:Program} {w:World} {A:Around} {E:Value→Shared→Prop} {s:Shared}
theorem B2 {l:Addr} {items:Array Value} {ns:List Int} {Q:Value→Shared→Prop} (hh:A.handled = none) (hl:s.heap.IsTuple l items) (hi:IntsAre items.toList ns) (hb:items.size + 1 < scanBound)
  (h:∀ (h':Heap) (tk:Nat),jE prog w h' s.heap.objs.size (seen (fun i=>ns.getD i 0) items.size) (firstMet (fun i=>ns.getD i 0) items.size).length (!nI w) →
   (∀ b o,s.heap.get? b = some o→h'.get? b = some o)→Q (.ref s.heap.objs.size) { s with heap:=h',toks:=tk }) :
  wpAny (model prog w) A (call (.type "set") [.ref l]) Q E s:=by
 obtain ⟨c,tl,Ue⟩:=F.called_set.mro
 have PY:=F.called_set.made
 have PX:=F.called_set.sub
 refine wpAny_call (codeAny_of_tree ?_)
 show wpAny _ _ (callAny (.type "set") _) _ _ _
 refine wpAny_pure ⟨Code.quiet_builtin _ (by decide +kernel),codeAny_builtin F.entry_type_call ?_⟩
 rw [Around.under_plain (weight_type_call_type "set" [.ref l] []) rfl]
 have h1:=F.called_set.notType
 have h2:=F.called_set.canCreate
 have hct:=PySem.F.typeCall_set_1 (.ref l)
 repeat (any_goals (first | assumption | wp_step))
 refine codeAny_mono (Lp (.ref l) (E:=E) (Q₁:=fun obj s₁=>obj = .ref s.heap.objs.size∧s₁ = { s with heap:=s.heap.push { cls:=.type "set",dict:=none,data:=.set #[] 0 (.fresh 0 0 (!nI w)) } }) ⟨rfl,rfl⟩) fun r s₁ hr=>?_
 cases r with
 | error e=>exact hr
 | ok fl =>
  cases fl with
  | ret obj =>
   obtain ⟨rfl,rfl⟩:=hr
   have g0:(s.heap.push { cls:=.type "set",dict:=none,data:=.set #[] 0 (.fresh 0 0 (!nI w)) }).get? s.heap.objs.size = some { cls:=.type "set",dict:=none,data:=.set #[] 0 (.fresh 0 0 (!nI w)) }:=Heap.get?_push_size _ rfl
   generalize hH:s.heap.push { cls:=.type "set",dict:=none,data:=.set #[] 0 (.fresh 0 0 (!nI w)) } = H1 at g0
   have up1:∀ b o,s.heap.get? b = some o→H1.get? b = some o:=fun b o e=>by rw [← hH]; exact Heap.get?_push_of_some _ e
   have E6:H1.objs.size = s.heap.objs.size + 1:=by rw [← hH,Heap.size_push]
   have hT:Shared.TypeIs { s with heap:=H1 } (.ref s.heap.objs.size) "set":=⟨_,g0,rfl⟩
   have hli:=F.called_set.init.lookup
   have hbi:=F.called_set.init.bind (.ref s.heap.objs.size)
   repeat (any_goals (first | assumption | wp_step))
   refine codeAny_mono (codeAny_call_builtin (R:=wants (fun r s₂=>r = .none∧∃ h' tk,s₂ = { s with heap:=h',toks:=tk } ∧
     jE prog w h' s.heap.objs.size (seen (fun i=>ns.getD i 0) items.size) (firstMet (fun i=>ns.getD i 0) items.size).length (!nI w) ∧
     (∀ b o,s.heap.get? b = some o→h'.get? b = some o)) E) F.called_set.init.plain F.entry_set_init (check_set_init_1 hT ?_)) fun r₂ s₂ hr₂=>?_
   ·obtain ⟨⟨Ug,PZ,P0,Nf⟩,P1,Nh,nl,P2⟩:=hl
    simp only at Nh P2
    subst Nh P2
    have hol':=up1 _ _ P1
    have Uh:=zM
    have Ui:=xM
    have A5:(Value.type "tuple" == Value.type "dict") = false:=by decide
    have P4:H1.IsTuple l items:=⟨_,hol',rfl,nl,rfl⟩
    unfold Builtin.«set.__init__» noKeywords Builtin.Frozenset.updateFrom
    generalize Uj:pyIter = PI
    wp_walk
    subst Uj
    refine wpAny_pyIter_tuple P4 (wpAny_bind (wpAny_runValue ?_))
    have P5:l < s.heap.objs.size:=Heap.lt_size P1
    have Ni:l ≠ H1.objs.size:=by rw [E6]; exact Nat.ne_of_lt (Nat.lt_succ_of_lt P5)
    have HC:∀ (i:Nat) (v:Value),items[i]? = some v→∃ t,v = .int ((fun i=>ns.getD i 0) i) t:=fun i v hv=>IntsAre.int_at hi i v (by rw [Array.getElem?_toList]; exact hv)
    refine HB (b:=!nI w) ((Walks.tuple (by simp [hh]) _ l Ni items).toS) s.heap.objs.size (by simp only [List.mem_cons,List.not_mem_nil,or_false,not_or]; exact ⟨by rw [E6]; exact Nat.ne_of_lt (Nat.lt_succ_self _),Nat.ne_of_gt P5⟩) (fun i=>ns.getD i 0) HC hb items.size 0 _ (by omega)
     ⟨⟨_,Heap.get?_push_size _ rfl,rfl,rfl⟩,(P4.push _)⟩ ?_ fun s' hm hS'=>?_
    ·refine ⟨_,#[],0,.fresh 0 0 (!nI w),Heap.get?_push_of_some _ g0,⟨rfl,rfl,rfl⟩,rfl,fun e he=>absurd he (by simp),fun k=>?_,by unfold scanBound; decide,rfl,rfl,TI.fresh _ _ _⟩
     simp [seen,firstMet]
    ·obtain ⟨h',g',d',tk',os'⟩:=s'
     have eg:g' = s.gens:=hm.gens
     have ed:d' = s.drawn:=hm.drawn
     have eo:os' = s.os:=hm.os
     subst eg ed eo
     refine wpAny_pure (wpAny_pure ⟨rfl,h',tk',rfl,hS',fun b o e=>?_⟩)
     have lt:=Heap.lt_size e
     exact hm.heap b o (by simp only [List.mem_cons,List.not_mem_nil,or_false,not_or]; exact ⟨Nat.ne_of_lt lt,by rw [E6]; exact Nat.ne_of_lt (Nat.lt_succ_of_lt lt)⟩) (Heap.get?_push_of_some _ (up1 b o e))
   ·cases r₂ with
    | error e=>exact hr₂
    | ok fl₂ =>
     cases fl₂ with
     | ret r =>
      obtain ⟨rfl,h',tk,rfl,hS',hk'⟩:=hr₂
      repeat (any_goals (first | assumption | wp_step))
      exact h _ _ hS' hk'
     | _=>exact hr₂.elim
  | _=>exact hr.elim
end
end lM
namespace Dl
open PySem PySem.Spec PyProof.Rows L2
noncomputable def Di (P:Program) (w:World) (p:Addr) (ns:List Int):HO:=.ext fun h=>lM.jE P w h p (lM.seen (fun i=>ns.getD i 0) ns.length) (firstMet (fun i=>ns.getD i 0) ns.length).length (!lM.nI w)
section
variable {X:Cx} {pos p:Pos}
noncomputable def P7 (P:Program) (w:World) (K:PySem.W.Frag):List V→Hp→VK→Prop:=fun xs H Q=>∃ (p:Addr) (ns:List Int),xs = [.ref p]∧(gG K H p (ns.map V.int)∨kT K H p (ns.map V.int))∧ns.length < 64∧∀ l:Addr,H l = none→Q (.ref l) (upd H l (Di P w l ns))
theorem EN (hc:X.calm = true):dq X (.type "set") (P7 X.prog X.w X.K):=by
 rintro pins s σ H xs us Q I r ⟨p,ns,rfl,hq,AI,q⟩
 obtain ⟨u,rfl,ru⟩:=r.one
 cases ru
 have fin:∀ (its:List Value),Vals (ns.map V.int) its→IntsAre its.toArray.toList ns∧its.toArray.size = ns.length:=fun its rv=>⟨intsAre_of rv,by have el:=rv.length; rw [List.length_map] at el; rw [List.size_toArray,el]⟩
 have end':∀ (h':Heap) (tk:Nat),lM.jE X.prog X.w h' s.heap.objs.size (lM.seen (fun i=>ns.getD i 0) ns.length) (firstMet (fun i=>ns.getD i 0) ns.length).length (!lM.nI X.w)→(∀ b o,s.heap.get? b = some o→h'.get? b = some o) →
   EP X pins σ Q (.ref s.heap.objs.size) { s with heap:=h',toks:=tk }:=fun h' tk hS hk=>by
  refine ⟨.ref _,_,I.laid (a:=s.heap.objs.size) (o:=Di X.prog X.w s.heap.objs.size ns) (t':=tk) hk (Nat.le_refl _) ⟨hS,?_,fun h1 h2 z k=>z.at fun o e=>k _ e⟩,rfl,q _ I.fresh⟩
  obtain ⟨o,_,_,_,ho,_⟩:=hS
  exact ⟨o,ho⟩
 rcases hq with hq | hq
 ·obtain ⟨its,rv,pl,hz⟩:=I.list hq
  obtain ⟨hi,es⟩:=fin its rv
  refine lM.EH (I.ok.hd hc) pl.isList hi (by rw [es]; unfold scanBound; omega) fun h' tk hS hk=>?_
  rw [es] at hS
  exact end' h' tk hS hk
 ·obtain ⟨its,rv,pl,hz⟩:=I.tuple hq
  obtain ⟨hi,es⟩:=fin its rv
  refine lM.B2 (I.ok.hd hc) pl hi (by rw [es]; unfold scanBound; omega) fun h' tk hS hk=>?_
  rw [es] at hS
  exact end' h' tk hS hk
noncomputable def Nm (P:Program) (w:World):List V→Hp→VK→Prop:=fun xs H Q=>∃ (p:Addr) (ns:List Int),xs = [.ref p]∧H p = some (Di P w p ns)∧ns.length < 64 ∧
 ∀ ms:List Int,ms.Pairwise (· < ·)→(∀ t,t ∈ ms ↔ t ∈ ns)→∀ l,H l = none→Q (.ref l) (upd H l (.lst (ms.map V.int)))
theorem B3 (hc:X.calm = true):dq X (.builtin "sorted") (Nm X.prog X.w):=by
 rintro pins s σ H xs us Q I r ⟨p,ns,rfl,hp,AI,q⟩
 obtain ⟨u,rfl,ru⟩:=r.one
 cases ru
 obtain ⟨hJ,_,_⟩:=I.bE p _ hp
 have lf:=firstMet_length_le (fun i=>ns.getD i 0) ns.length
 refine lM.HF (I.ok.hd hc) hJ (t6 _ _) (fun k=>?_) rfl (by omega) fun s' ms D out e p1 p2 k eg eo he hi hD=>?_
 ·unfold lM.seen
  rw [List.any_eq_true]
  constructor
  ·rintro ⟨x,hx,ex⟩; rw [beq_iff_eq] at ex; exact ex ▸ hx
  ·exact fun z=>⟨k,z,by simp⟩
 ·have lm:ms.length ≤ 64:=by
   have nd:ms.Nodup:=p1.imp fun {x y} (z:x < y)=>by omega
   have:=lM.wz nd fun x hx=>(p2 x).mp hx
   omega
  have new:cG X.prog X.w (upd H D (.lst (ms.map V.int))) s'.heap D (.lst (ms.map V.int)):=⟨by rw [List.length_map]; exact Nat.le_trans lm (by decide),out.toList,e,g9 hi,by rw [he]⟩
  exact ⟨.ref D,_,I.call' (ch:=[]) eo (Un.laid k hD (I.bE.fresh hD)) (I.bE.laid k hD new) (eg ▸ I.bare) (fun b hb=>absurd hb (by simp)),rfl,q ms p1 (fun t=>(p2 t).trans (MK ns t)) D (I.bE.fresh hD)⟩
theorem vo {a:Expr} {ta:lK} {q cp:Pos} (hc:X.calm = true) (hl:X.mg "sorted" = none) (hr:X.mg "set" = none) (ha:DA X [a] ta) (hg:Gl X "sorted":=by rfl) (Tz:Gl X "set":=by rfl)
  (h1:starEach [a] X.env = (false,eval a X.env) :: starEach [] X.env:=by rfl) (h2:(backTo cp (starEach [] X.env)).any (·.1) = false:=by rfl)
  (h3:starEach [Expr.Call (.Name "set" q) [a] [] cp] X.env = (false,eval (Expr.Call (.Name "set" q) [a] [] cp) X.env) :: starEach [] X.env:=by rfl) (h4:(backTo pos (starEach [] X.env)).any (·.1) = false:=by rfl) :
  DE X (.Call (.Name "sorted" p) [.Call (.Name "set" q) [a] [] cp] [] pos) (ay pD ta) :=
 bx (tI (B3 hc) hg hl (by rfl) (jX (ng (EN hc) Tz hr (by rfl) ha (by decide) (by decide) h1 h2) oo h3) (by decide) (by decide) h3 h4) fun σ H Q2 hx=>hx.el fun n δ G Q R h k =>
  ⟨n,δ,G,_,R,h,fun vs G1 H1 ds δ1 R1 s1 d1 h1=>by
   unfold pD at h1
   split at h1
   ·rename_i d
    obtain ⟨l,e0,ns,e,AI,hq⟩:=h1
    obtain ⟨v,rfl,dv⟩:=rh d1
    have both:∃ b,v = .ref b∧(gG X.K H1 b (ns.map V.int)∨kT X.K H1 b (ns.map V.int)):=by
     rcases jA e0 with rfl | rfl
     ·obtain ⟨b,ws,rfl,hb,lb⟩:=dv.lst_inv
      rw [kg e] at lb
      have ev:ws = ns.map V.int:=aH.pC lb
      subst ev
      exact ⟨b,rfl,.inl (R1.sub.seq hb)⟩
     ·obtain ⟨b,ws,rfl,hb,lb⟩:=dv.gA
      rw [kg e] at lb
      have ev:ws = ns.map V.int:=aH.pC lb
      subst ev
      exact ⟨b,rfl,.inr (av.tupS R1.sub hb)⟩
    obtain ⟨b,rfl,hb⟩:=both
    refine ⟨b,ns,rfl,hb,AI,fun r hr'=>?_⟩
    have hG:G1 r = none:=R1.sub.free hr'
    have R2:Rel X.K n δ1 σ G1 (upd H1 r (Di X.prog X.w r ns)):=R1.other hG (R1.al _ hr') (R1.xb hr') _
    refine ⟨r,ns,rfl,aq,AI,fun ms p1 p2 l hl'=>?_⟩
    exact k _ _ _ _ δ1 (R2.laid hl' _) (s1.trans (aC (R2.sub.free hl') _)) (.lst (gG.of aq) ((aH.ints ms).up (aC (R2.sub.free hl') _))) (hq ms p1 p2)
   ·exact h1.elim⟩
end
end Dl
local macro_rules | `(tactic| simp! only [$as,*] $[$loc]?) => `(tactic| simp only [$as,*, Dl.EA, Dl.bH, Dl.Hr, Dl.Lj, Dl.xH, Dl.kj, Dl.km, Dl.Hn, Dl.Ha, Dl.CZ, Dl.v9, Dl.Hc, Dl.JS, Dl.nu, Dl.N5, Dl.hC, Dl.J0, Dl.vZ, Dl.GS, Dl.fZ, Dl.N0, Dl.dX, Dl.GU, Dl.uc, Dl.rk, Dl.CU, Dl.putAt, Dl.zq, Dl.t7, Dl.Ph, Dl.fE, Dl.xB, Dl.TB, Dl.fX, Dl.ML, List.tail_cons, List.head?_cons, eq_self, decide_true, Bool.and_self, and_self, Dl.au, Dl.b8, Dl.fA, Dl.dB, Dl.aD, Dl.ae, Dl.dC, Dl.o7, Dl.tQ, Dl.aw, Dl.af, Dl.bF, Dl.ay, Dl.Js, Dl.yH, Dl.Gk, Dl.xk, Dl.jy, Dl.bw, Dl.FT, Dl.D9, Dl.FU, Dl.A7, Dl.Jk, Dl.FQ, Dl.yE, Dl.NW, Dl.tS, Dl.Mj, Dl.CL, Dl.qr, Dl.jV, Dl.Ed, Dl.gY, Dl.ve, Dl.Bd, Dl.lY, Dl.Jr, Dl.Gh, Dl.xi, Dl.SR, Dl.Gn, Dl.xx, Dl.jo, Dl.JK, Dl.MI, Dl.pD, Dl.vY, Dl.CT, Dl.JL, Dl.xA, Dl.xu, Dl.jY, Dl.jz, Dl.o8, Dl.cK, Dl.bu, List.map_cons, List.map_nil, List.length_cons, List.length_nil, List.cons_append, List.nil_append, List.replicate_zero, List.replicate_succ, Nat.reduceAdd, Nat.reduceSub, List.getElem?_cons_zero, List.getElem?_cons_succ, List.set_cons_zero, List.set_cons_succ, Bool.not_true, Bool.not_false, if_true, if_false, ite_true, ite_false, reduceCtorEq, Bool.false_eq_true, Dl.rF, Dl.Bg, Dl.ph, Dl.ni, Dl.dw, Dl.nG, Option.some.injEq, Dl.yN, Dl.Bh, Dl.yO, Dl.yP, Dl.yQ, Dl.yR, Dl.Bi, Dl.Ef, Dl.Bj, Dl.Bk, Dl.Bl, Dl.Bm, Dl.yS, Dl.Bn, Dl.ri, Dl.yT, Dl.yU, Dl.yV, Dl.yW, Dl.Bo, Dl.yX, Dl.yY, Dl.yZ, Dl.y8, Dl.y9, Dl.Bp, Dl.za, Dl.zb, Dl.zc, Dl.zd, Dl.ze, Dl.Bq, Dl.zf, Dl.zg, Dl.zh, Dl.zi, Dl.xr, Dl.vf, Dl.vg, Dl.tZ, Dl.Br, Dl.Bs, Dl.Eg, Dl.Bt, Dl.Bu, Dl.Bv, Dl.Gu, Dl.Gv, Dl.Gw, Dl.Gx, Dl.Jw, Dl.Jx, Dl.Gy, Dl.Gz, Dl.GL, Dl.GA, Dl.Jy, Dl.GB, Dl.GC, Dl.GD, Dl.Jz, Dl.JA, exists_eq_left', Dl.O2, Dl.O3, Dl.O4, Dl.O5, Dl.O6, Dl.O7, false_and, exists_false, decide_eq_true_eq, Bool.not_eq_true, true_and, and_true, Bool.true_and, Bool.false_and, Bool.and_true, Bool.and_false, Dl.xl, Dl.yI, Dl.xm, Dl.yJ, Dl.Bf, Dl.yK, Dl.xn, Dl.yL, Dl.xo, beq_iff_eq, beq_self_eq_true, beq_eq_false_iff_ne, Bool.not_eq_true', ne_eq, ite_not, decide_eq_false_iff_not, Dl.sz0, Dl.E6, Dl.O1, Dl.sz3, Dl.sz4, Dl.sz5, Dl.sz6, Dl.sz7, Dl.sz8, Dl.sz9, Dl.SS, Dl.SU, Dl.SV, Dl.SW, Dl.SX, Dl.SY, Dl.S0, Dl.S1, Dl.S2, Dl.S3, Dl.S4, Dl.S5, Dl.S6, Dl.S8, Dl.S9, Dl.Ta, Dl.Tb, Dl.Tc, Dl.Td, Dl.Te, Dl.Tf] $[$loc]?)
namespace rV
open PySem L2 Dl
theorem uo:∀ ns:List Int,D.FX (ns.map D.int) = true
 | []=>rfl
 | _ :: r=>uo r
theorem Kk {α:Type} {xs:List α} {i:Int} (f:α→D) (h0:0 ≤ i) (h1:i < xs.length):oV (xs.map f) i = some (f (xs[i.toNat]'(by omega))):=by
 have e:i = ((i.toNat:Nat):Int):=by omega
 have q:oV (xs.map f) ((i.toNat:Nat):Int) = some (f (xs[i.toNat]'(by omega))):=il (by rw [List.getElem?_map,List.getElem?_eq_getElem (by omega)]; rfl)
 rw [← e] at q
 exact q
noncomputable def cell (ns:List Int) (k:Int):Int:=if ns = [] then 7 * k else ns.getD (k % ns.length).toNat 0 + 6553 * (k / ns.length)
noncomputable def drawn (ns:List Int) (k m:Int):Int :=
 (((cell ns k % 2147483563 * 69069 + 104723 * (k + 1)) % 2147483563 * ((cell ns k % 2147483563 * 69069 + 104723 * (k + 1)) % 2147483563) + (cell ns k % 2147483563 * 69069 + 104723 * (k + 1)) % 2147483563 / 3) % 2147483399 *
  (((cell ns k % 2147483563 * 69069 + 104723 * (k + 1)) % 2147483563 * ((cell ns k % 2147483563 * 69069 + 104723 * (k + 1)) % 2147483563) + (cell ns k % 2147483563 * 69069 + 104723 * (k + 1)) % 2147483563 / 3) % 2147483399) +
  ((cell ns k % 2147483563 * 69069 + 104723 * (k + 1)) % 2147483563 * ((cell ns k % 2147483563 * 69069 + 104723 * (k + 1)) % 2147483563) + (cell ns k % 2147483563 * 69069 + 104723 * (k + 1)) % 2147483563 / 3) % 2147483399 / 7) % 2147483647 / 11 % m
theorem fI {ns:List Int} {k m:Int} (hm:0 < m):0 ≤ drawn ns k m:=Int.emod_nonneg _ (by omega)
theorem fJ {ns:List Int} {k m:Int} (hm:0 < m):drawn ns k m < m:=Int.emod_lt_of_pos _ hm
noncomputable abbrev Nn (ns:List Int):D:=.lst (ns.map D.int)
noncomputable def iS:qm:=fun ds Q=>∃ (ns:List Int) (k:Int),ds = [Nn ns,.int k]∧ns.length ≤ 63∧0 ≤ k∧Q (.int (cell ns k))
theorem B4:∀ ds Q,iS ds Q→ds.length = 2:=by rintro ds Q ⟨ns,k,rfl,_⟩; rfl
noncomputable def aO:qm:=fun ds Q=>∃ (ns:List Int) (k m:Int),ds = [Nn ns,.int k,.int m]∧ns.length ≤ 63∧0 ≤ k∧0 < m∧Q (.int (drawn ns k m))
theorem zN:∀ ds Q,aO ds Q→ds.length = 3:=by rintro ds Q ⟨ns,k,m,rfl,_⟩; rfl
noncomputable def ko:bC:=au (fA (dB (aD gY ((ae 0)) ((o7 (aw))))) (bF ((aD (jV lz fun i j=>.int (i * j)) (dC (.int 7)) ((ae 1))))) (b8)) (bF ((aD (rF bD) ((aD (rF eC) ((ae 0)) ((aD (jV (fun _ j=>0 < j) fun i j=>.int (i % j)) ((ae 1)) ((ay ph ((af ((ae 0)) (aw))))))))) ((aD (jV lz fun i j=>.int (i * j)) (dC (.int 6553)) ((aD (jV tB fun i j=>.int (i / j)) ((ae 1)) ((ay ph ((af ((ae 0)) (aw))))))))))))
theorem B5:∀ ds Q,iS ds Q→ko { nx:=fun _=>Q .aU,rt:=fun d _=>Q d } (bu ["_law_script","_law_k"] ds):=by
 rintro ds Q ⟨ns,k,rfl,hl,hk,q⟩
 have he:j5 (Nn ns) (.lst []):=⟨uo ns,rfl,by show min _ 1 ≤ 60; omega⟩
 cases ns with
 | nil =>
  simp only [cell,if_true] at q
  simp! only [ko]
  exact ⟨he,.inl (by decide),q⟩
 | cons n r =>
  have hp:(0:Int) < ((n :: r).length:Int):=by simp only [List.length_cons]; omega
  have h0:0 ≤ k % ((n :: r).length:Int):=Int.emod_nonneg _ (by omega)
  have h1:k % ((n :: r).length:Int) < ((n :: r).length:Int):=Int.emod_lt_of_pos _ hp
  have e:oV ((n :: r).map D.int) (k % (((n :: r).map D.int).length:Int)) = some (.int ((n :: r).getD (k % ((n :: r).length:Int)).toNat 0)):=by
   rw [List.length_map,Kk D.int h0 h1]
   rw [List.getD_eq_getElem?_getD,List.getElem?_eq_getElem (by omega)]
   rfl
  simp only [cell,if_neg (List.cons_ne_nil n r)] at q
  have hs:((n :: r).length:Int) ≤ 63:=by omega
  simp! only [ko,List.length_map] at e q hs hp ⊢
  exact ⟨he,hp,_,e,⟨hp,by omega⟩,.inl ⟨by decide,by decide⟩,_,rfl,q⟩
noncomputable def mn:bC:=au (bw 3 ((aD (jV (fun _ j=>0 < j) fun i j=>.int (i % j)) ((aD (rF bD) ((aD (jV lz fun i j=>.int (i * j)) ((aD (jV (fun _ j=>0 < j) fun i j=>.int (i % j)) ((ay iS ((af ((ae 0)) ((af ((ae 1)) (aw))))))) (dC (.int 2147483563)))) (dC (.int 69069)))) ((aD (jV lz fun i j=>.int (i * j)) (dC (.int 104723)) ((aD (rF bD) ((ae 1)) (dC (.int 1)))))))) (dC (.int 2147483563))))) (au (bw 3 ((aD (jV (fun _ j=>0 < j) fun i j=>.int (i % j)) ((aD (rF bD) ((aD (jV lz fun i j=>.int (i * j)) ((ae 3)) ((ae 3)))) ((aD (jV tB fun i j=>.int (i / j)) ((ae 3)) (dC (.int 3)))))) (dC (.int 2147483399))))) (bF ((aD (jV (fun _ j=>0 < j) fun i j=>.int (i % j)) ((aD (jV tB fun i j=>.int (i / j)) ((aD (jV (fun _ j=>0 < j) fun i j=>.int (i % j)) ((aD (rF bD) ((aD (jV lz fun i j=>.int (i * j)) ((ae 3)) ((ae 3)))) ((aD (jV tB fun i j=>.int (i / j)) ((ae 3)) (dC (.int 7)))))) (dC (.int 2147483647)))) (dC (.int 11)))) ((ae 2))))))
theorem B6 {i m:Int} (h0:0 < m) (h1:m < 2 ^ 64):-(2 ^ 64) < i % m∧i % m < 2 ^ 64:=by
 have a:=Int.emod_nonneg i (show m ≠ 0 by omega)
 have b:=Int.emod_lt_of_pos i h0
 omega
theorem zO:∀ ds Q,aO ds Q→mn { nx:=fun _=>Q .aU,rt:=fun d _=>Q d } (bu ["_law_script","_law_k","_law_many","_law_cell_here"] ds):=by
 rintro ds Q ⟨ns,k,m,rfl,hl,hk,hm,q⟩
 simp! only [mn]
 refine ⟨ns,k,rfl,hl,hk,by decide,.inl (B6 (by decide) (by decide)),.inl ⟨by decide,by decide⟩,by decide,.inl (B6 (by decide) (by decide)),⟨by decide,by decide⟩,by decide,
  .inl (B6 (by decide) (by decide)),⟨by decide,by decide⟩,by decide,⟨by decide,by decide⟩,hm,?_⟩
 exact q
noncomputable def uq:qm:=fun ds Q=>∃ ns:List Int,ds = [Nn ns]∧ns.length ≤ 63∧Q (.bl true)
theorem P8:∀ ds Q,uq ds Q→ds.length = 1:=by rintro ds Q ⟨_,rfl,_⟩; rfl
theorem B7 {lo:Int} {n i:Nat} {d:D} (h:(bU lo n)[i]? = some d):d = .int (lo + i)∧i < n:=by
 unfold bU at h
 rw [List.getElem?_map] at h
 cases q:(List.range n)[i]? with
 | none=>rw [q] at h; cases h
 | some j =>
  rw [q] at h
  have hj:=List.getElem?_eq_some_iff.mp q
  obtain ⟨h1,h2⟩:=hj
  rw [List.length_range] at h1
  rw [List.getElem_range] at h2
  subst h2
  exact ⟨(Option.some.inj h).symm,h1⟩
theorem ZQ {d e:D} (h:(d.ok && e.ok && Nat.ble (min d.dep e.dep) 60) = true):j5 d e:=by
 rw [Bool.and_eq_true,Bool.and_eq_true] at h
 exact ⟨h.1.1,h.1.2,Nat.le_of_ble_eq_true h.2⟩
noncomputable def oi:Option Int→D
 | none=>.aU
 | some s=>.int s
theorem aZ:oi none = .aU:=rfl
theorem ba {s:Int}:oi (some s) = .int s:=rfl
end rV
namespace Rg
inductive Ck where
 | tm (size left:Int) (o:Option Int)
 | ev (b f:Int) (m:Option Int)
 | al (mi:Int) (days still:List Int)
noncomputable def fB (l:List Int):Prop:=l.Pairwise (· < ·)
noncomputable def below (m:Option Int) (i:Int):Prop:=∀ k,m = some k→i < k
noncomputable def rg:Ck→Int→Prop
 | .tm _ left o,t=>∃ s,o = some s∧t = s + left
 | .ev b f m,t=>∃ i,0 ≤ i∧t = b + i * f∧below m i
 | .al mi days still,t=>0 ≤ t∧t % 1440 = mi∧t / 1440 % 7 ∈ days∧t ∉ still
noncomputable def Ok:Ck→Prop
 | .tm size left o=>0 ≤ left∧left ≤ 100000000∧∀ s,o = some s→0 ≤ s∧s ≤ 100000000
 | .ev b f m=>0 ≤ b∧b ≤ 100000000∧1 ≤ f∧f ≤ 100000000∧∀ k,m = some k→0 ≤ k∧k ≤ 100000000
 | .al mi days still=>0 ≤ mi∧mi < 1440∧fB days∧(∀ d ∈ days,0 ≤ d∧d < 7)∧fB still∧still.length ≤ 1000∧∀ t ∈ still,0 ≤ t∧t ≤ 100000000
theorem P9 {c:Ck} (h:Ok c) {t:Int} (r:rg c t):0 ≤ t:=by
 cases c with
 | tm size left o=>obtain ⟨s,e,rfl⟩:=r; have:=h.2.2 s e; have:=h.1; omega
 | ev b f m=>obtain ⟨i,hi,rfl,_⟩:=r; have:=Int.mul_nonneg hi (show (0 : Int) ≤ f by have:=h.2.2.1; omega); have:=h.1; omega
 | al mi days still=>exact r.1
structure bb (c:Ck) (a e:Int) (l:List Int):Prop where
 rise:fB l
 mem:∀ t,t ∈ l ↔ a < t∧t ≤ e∧rg c t
structure cy (c:Ck) (now:Int) (r:Option Int):Prop where
 none:r = .none→∀ t,now < t→¬ rg c t
 some:∀ t,r = .some t→now < t∧rg c t∧∀ t',now < t'→t' < t→¬ rg c t'
noncomputable def Np (c:Ck) (t n:Int):Prop:=∀ l,bb c (-1) t l→n = l.length
theorem pN:∀ {l m:List Int},fB l→fB m→(∀ t,t ∈ l ↔ t ∈ m)→l = m
 | [],[],_,_,_=>rfl
 | [],y :: m,_,_,h=>absurd ((h y).mpr List.mem_cons_self) (by simp)
 | x :: l,[],_,_,h=>absurd ((h x).mp List.mem_cons_self) (by simp)
 | x :: l,y :: m,hl,hm,h=>by
  have hl':=List.pairwise_cons.mp hl
  have hm':=List.pairwise_cons.mp hm
  have e:x = y:=by
   rcases List.mem_cons.mp ((h x).mp List.mem_cons_self) with z | z
   ·exact z
   ·rcases List.mem_cons.mp ((h y).mpr List.mem_cons_self) with w | w
    ·exact w.symm
    ·have:=hl'.1 y w; have:=hm'.1 x z; omega
  subst e
  congr 1
  refine pN hl'.2 hm'.2 fun t=>⟨fun z=>?_,fun z=>?_⟩
  ·rcases List.mem_cons.mp ((h t).mp (List.mem_cons_of_mem _ z)) with w | w
   ·have:=hl'.1 t z; omega
   ·exact w
  ·rcases List.mem_cons.mp ((h t).mpr (List.mem_cons_of_mem _ z)) with w | w
   ·have:=hm'.1 t z; omega
   ·exact w
theorem bb.unique {c:Ck} {a e:Int} {l m:List Int} (h:bb c a e l) (k:bb c a e m):l = m:=pN h.rise k.rise fun t=>by rw [h.mem,k.mem]
theorem bb.append {c:Ck} {a b e:Int} {l m:List Int} (h:bb c a b l) (k:bb c b e m) (h1:a ≤ b) (h2:b ≤ e):bb c a e (l ++ m):=by
 refine ⟨List.pairwise_append.mpr ⟨h.rise,k.rise,fun x hx y hy=>?_⟩,fun t=>?_⟩
 ·have:=(h.mem x).mp hx; have:=(k.mem y).mp hy; omega
 ·rw [List.mem_append,h.mem,k.mem]
  constructor
  ·rintro (⟨x,y,z⟩ | ⟨x,y,z⟩)
   ·exact ⟨x,by omega,z⟩
   ·exact ⟨by omega,y,z⟩
  ·rintro ⟨x,y,z⟩
   by_cases q:t ≤ b
   ·exact .inl ⟨x,q,z⟩
   ·exact .inr ⟨by omega,y,z⟩
theorem bb.none {c:Ck} {a e:Int} (h:e ≤ a):bb c a e []:=⟨.nil,fun t=>⟨fun z=>absurd z (by simp),fun z=>by omega⟩⟩
theorem cy.rings {c:Ck} {a e t:Int} {l:List Int} (h:cy c a (.some t)) (hl:bb c t e l) (ht:t ≤ e):bb c a e (t :: l):=by
 obtain ⟨h1,h2,h3⟩:=h.some t rfl
 refine ⟨List.pairwise_cons.mpr ⟨fun y hy=>((hl.mem y).mp hy).1,hl.rise⟩,fun y=>?_⟩
 rw [List.mem_cons,hl.mem]
 constructor
 ·rintro (rfl | ⟨x,y,z⟩)
  ·exact ⟨h1,ht,h2⟩
  ·exact ⟨by omega,y,z⟩
 ·rintro ⟨x,y',z⟩
  rcases Int.lt_trichotomy y t with q | q | q
  ·exact absurd z (h3 y x q)
  ·exact .inl q
  ·exact .inr ⟨q,y',z⟩
theorem cy.nothing {c:Ck} {a e:Int} {r:Option Int} (h:cy c a r) (hr:∀ t,r = .some t→e < t):bb c a e []:=by
 refine ⟨.nil,fun t=>⟨fun z=>absurd z (by simp),fun ⟨x,y,z⟩=>?_⟩⟩
 cases r with
 | none=>exact absurd z (h.none rfl t x)
 | some u=>have:=hr u rfl; exact absurd z ((h.some u rfl).2.2 t x (by omega))
theorem cy.unique {c:Ck} {a:Int} {r q:Option Int} (h:cy c a r) (k:cy c a q):r = q:=by
 cases r with
 | none=>cases q with
  | none=>rfl
  | some u=>have:=k.some u rfl; exact absurd this.2.1 (h.none rfl u this.1)
 | some t=>cases q with
  | none=>have:=h.some t rfl; exact absurd this.2.1 (k.none rfl t this.1)
  | some u =>
   have h1:=h.some t rfl
   have h2:=k.some u rfl
   have:t = u:=by
    rcases Int.lt_trichotomy t u with z | z | z
    ·exact absurd h1.2.1 (h2.2.2 t h1.1 z)
    ·exact z
    ·exact absurd h2.2.1 (h1.2.2 u h2.1 z)
   rw [this]
theorem cH {l:List Int} (h:fB l) (p:Int→Bool):fB (l.filter p):=h.sublist List.filter_sublist
theorem Kl {size left:Int} {o:Option Int} {now:Int}:cy (.tm size left o) now (match o with | .none=>.none | .some s=>if s + left ≤ now then .none else .some (s + left)):=by
 cases o with
 | none=>exact ⟨fun _ t _ ⟨s,e,_⟩=>(nomatch e),fun t e=>(nomatch e)⟩
 | some s =>
  by_cases h:s + left ≤ now
  ·simp only [if_pos h]
   exact ⟨fun _ t ht ⟨s',e,z⟩=>by cases e; omega,fun t e=>nomatch e⟩
  ·simp only [if_neg h]
   exact ⟨fun e=>(nomatch e),fun t e=>by cases e; exact ⟨by omega,⟨s,rfl,rfl⟩,fun t' h1 h2 ⟨s',e,z⟩=>by cases e; omega⟩⟩
theorem HG {size left:Int} {o:Option Int} {t:Int} (h:Ok (.tm size left o)):Np (.tm size left o) t (match o with | .none=>0 | .some s=>if s + left ≤ t then 1 else 0):=by
 intro l hl
 cases o with
 | none =>
  have:l = []:=hl.unique ⟨.nil,fun t=>⟨fun z=>absurd z (by simp),fun ⟨_,_,s,e,_⟩=>nomatch e⟩⟩
  subst this; rfl
 | some s =>
  have h0:=h.2.2 s rfl
  have h1:=h.1
  by_cases q:s + left ≤ t
  ·have:l = [s + left]:=hl.unique ⟨List.pairwise_singleton ..,fun u=>⟨fun z=>by rw [List.mem_singleton] at z; subst z; exact ⟨by omega,q,s,rfl,rfl⟩,fun ⟨_,_,s',e,z⟩=>by cases e; rw [z]; exact List.mem_singleton.mpr rfl⟩⟩
   subst this; simp only [if_pos q]; rfl
  ·have:l = []:=hl.unique ⟨.nil,fun u=>⟨fun z=>absurd z (by simp),fun ⟨_,y,s',e,z⟩=>by cases e; omega⟩⟩
   subst this; simp only [if_neg q]; rfl
noncomputable def aT (b f:Int) (m:Option Int) (t:Int):Int:=match m with
 | .none=>max 0 ((t - b) / f + 1)
 | .some k=>min (max 0 ((t - b) / f + 1)) k
theorem Nq {t b f i:Int} (hf:0 < f):b + i * f ≤ t ↔ i ≤ (t - b) / f:=by
 rw [Int.le_ediv_iff_mul_le hf]; omega
theorem bP {b f:Int} {m:Option Int} {t i:Int} (hf:0 < f) (hi:0 ≤ i):i < aT b f m t ↔ b + i * f ≤ t∧below m i:=by
 rw [Nq hf]
 unfold aT below
 cases m with
 | none=>simp; omega
 | some k=>simp; omega
theorem jF {b f:Int} {m:Option Int} {t:Int} (hm:∀ k,m = some k→0 ≤ k):0 ≤ aT b f m t:=by
 unfold aT
 cases m with
 | none=>simp; omega
 | some k=>have:=hm k rfl; simp; omega
noncomputable def listE (b f:Int) (i:Int) (n:Nat):List Int:=(List.range n).map fun j=>b + (i + (j:Nat)) * f
theorem B8 {b f i:Int} {n:Nat} (hf:0 < f):fB (listE b f i n):=by
 unfold listE fB
 rw [List.pairwise_map]
 refine List.pairwise_lt_range.imp fun {x y} h=>?_
 have:(i + (x:Nat)) * f < (i + (y:Nat)) * f:=Int.mul_lt_mul_of_pos_right (by omega) hf
 omega
theorem EO {b f i:Int} {n:Nat} {t:Int}:t ∈ listE b f i n ↔ ∃ j,i ≤ j∧j < i + n∧t = b + j * f:=by
 unfold listE
 rw [List.mem_map]
 constructor
 ·rintro ⟨j,hj,rfl⟩
  rw [List.mem_range] at hj
  exact ⟨i + (j:Nat),by omega,by omega,rfl⟩
 ·rintro ⟨j,h1,h2,rfl⟩
  exact ⟨(j - i).toNat,by rw [List.mem_range]; omega,by rw [show i + ((j - i).toNat:Int) = j by omega]⟩
theorem zP {b f:Int} {m:Option Int} {a e:Int} (h:Ok (.ev b f m)):bb (.ev b f m) a e (listE b f (aT b f m a) (aT b f m e - aT b f m a).toNat):=by
 obtain ⟨h1,h2,h3,h4,h5⟩:=h
 have hf:0 < f:=by omega
 have na:=jF (b:=b) (f:=f) (t:=a) fun k e=>(h5 k e).1
 refine ⟨B8 hf,fun t=>?_⟩
 rw [EO]
 constructor
 ·rintro ⟨j,j1,j2,rfl⟩
  have k1:=bP (b:=b) (m:=m) (t:=e) hf (show 0 ≤ j by omega)
  have k2:=bP (b:=b) (m:=m) (t:=a) hf (show 0 ≤ j by omega)
  have k3:=k1.mp (by omega)
  refine ⟨?_,k3.1,j,by omega,rfl,k3.2⟩
  by_cases q:b + j * f ≤ a
  ·have:=k2.mpr ⟨q,k3.2⟩; omega
  ·omega
 ·rintro ⟨t1,t2,j,hj,rfl,hb⟩
  have k1:=(bP (b:=b) (m:=m) (t:=e) hf hj).mpr ⟨t2,hb⟩
  have k2:¬ j < aT b f m a:=fun z=>by have:=(bP (b:=b) (m:=m) (t:=a) hf hj).mp z; omega
  exact ⟨j,by omega,by omega,rfl⟩
theorem HH {b f:Int} {m:Option Int} {t:Int} (h:Ok (.ev b f m)):Np (.ev b f m) t (aT b f m t):=by
 intro l hl
 have e:=hl.unique (zP h)
 have h0:aT b f m (-1) = 0:=by
  have nn:=jF (b:=b) (f:=f) (t:=-1) fun k e=>(h.2.2.2.2 k e).1
  by_cases q:0 < aT b f m (-1)
  ·have:=(bP (b:=b) (m:=m) (t:=-1) (show 0 < f by have:=h.2.2.1; omega) (Int.le_refl 0)).mp q
   have:=h.1
   omega
  ·omega
 have nn:=jF (b:=b) (f:=f) (t:=t) fun k e=>(h.2.2.2.2 k e).1
 rw [e,h0]
 simp only [listE,List.length_map,List.length_range]
 omega
theorem Dj {b f:Int} {m:Option Int} {now:Int} (h:Ok (.ev b f m)) :
  cy (.ev b f m) now (if m = .some (aT b f m now) then .none else .some (b + aT b f m now * f)):=by
 obtain ⟨h1,h2,h3,h4,h5⟩:=h
 have hf:0 < f:=by omega
 have nn:=jF (b:=b) (f:=f) (t:=now) fun k e=>(h5 k e).1
 have all:∀ j,0 ≤ j→below m j→now < b + j * f→aT b f m now ≤ j:=fun j j0 jb jn=>by
  by_cases q:j < aT b f m now
  ·have:=(bP (b:=b) (m:=m) (t:=now) hf j0).mp q; omega
  ·omega
 by_cases q:m = .some (aT b f m now)
 ·rw [if_pos q]
  refine ⟨fun _ t ht ⟨j,j0,e,jb⟩=>?_,fun t e=>nomatch e⟩
  have:=all j j0 jb (by omega)
  have:=jb _ q
  omega
 ·rw [if_neg q]
  have bl:below m (aT b f m now):=fun k e=>by
   have:aT b f m now ≤ k:=by subst e; unfold aT; simp; omega
   have:aT b f m now ≠ k:=fun z=>q (e.trans (by rw [z]))
   omega
  refine ⟨fun e=>(nomatch e),fun t e=>?_⟩
  cases e
  refine ⟨?_,⟨_,nn,rfl,bl⟩,fun t' t1 t2 ⟨j,j0,e,jb⟩=>?_⟩
  ·by_cases z:b + aT b f m now * f ≤ now
   ·have:=(bP (b:=b) (m:=m) (t:=now) hf nn).mpr ⟨z,bl⟩; omega
   ·omega
  ·have h1:=all j j0 jb (by omega)
   have:aT b f m now * f ≤ j * f:=Int.mul_le_mul_of_nonneg_right h1 (by omega)
   omega
end Rg
namespace Rg
noncomputable def dg (mi t:Int):Int:=max 0 ((t - mi) / 1440 + 1)
theorem mq {mi t d:Int} (hd:0 ≤ d):d * 1440 + mi ≤ t ↔ d < dg mi t:=by unfold dg; omega
theorem rq {mi:Int} {days still:List Int} {t:Int} (h0:0 ≤ mi) (h1:mi < 1440):rg (.al mi days still) t ↔ ∃ d,0 ≤ d∧t = d * 1440 + mi∧d % 7 ∈ days∧t ∉ still:=by
 constructor
 ·rintro ⟨a,b,c,e⟩
  exact ⟨t / 1440,by omega,by omega,c,e⟩
 ·rintro ⟨d,d0,rfl,dm,ds⟩
  exact ⟨by omega,by omega,by rw [show (d * 1440 + mi) / 1440 = d by omega]; exact dm,ds⟩
noncomputable def week (days:List Int) (g:Int):List Int:=((List.range 7).map fun i=>g + (i:Nat)).filter fun d=>decide (d % 7 ∈ days)
theorem pO {days:List Int} {g d:Int}:d ∈ week days g ↔ g ≤ d∧d < g + 7∧d % 7 ∈ days:=by
 unfold week
 rw [List.mem_filter,List.mem_map,decide_eq_true_eq]
 constructor
 ·rintro ⟨⟨i,hi,rfl⟩,h⟩
  rw [List.mem_range] at hi
  exact ⟨by omega,by omega,h⟩
 ·rintro ⟨a,b,c⟩
  exact ⟨⟨(d - g).toNat,by rw [List.mem_range]; omega,by omega⟩,c⟩
theorem ER {days:List Int} {g:Int}:fB (week days g):=by
 refine cH ?_ _
 unfold fB
 rw [List.pairwise_map]
 exact List.pairwise_lt_range.imp fun {x y} h=>by omega
theorem ES {x:Int} {l:List Int} (h:fB (x :: l)) {y:Int} (hy:y ∈ x :: l):x ≤ y:=by
 rcases List.mem_cons.mp hy with rfl | hy
 ·exact Int.le_refl _
 ·have:=(List.pairwise_cons.mp h).1 y hy; omega
theorem HI {mi:Int} {days:List Int} {now:Int} (h0:0 ≤ mi) (h1:mi < 1440) (hd:∀ d ∈ days,0 ≤ d∧d < 7) :
  cy (.al mi days []) now ((week days (dg mi now)).head?.map fun d=>d * 1440 + mi):=by
 have g0:0 ≤ dg mi now:=by unfold dg; omega
 cases q:week days (dg mi now) with
 | nil =>
  refine ⟨fun _ t ht r=>?_,fun t e=>(nomatch e)⟩
  obtain ⟨d,d0,rfl,dm,_⟩:=(rq h0 h1).mp r
  have hg:¬ d < dg mi now:=fun z=>by have:=(mq d0).mpr z; omega
  have:(dg mi now + (d - dg mi now) % 7) ∈ week days (dg mi now):=pO.mpr ⟨by omega,by omega,by rw [show (dg mi now + (d - dg mi now) % 7) % 7 = d % 7 by omega]; exact dm⟩
  rw [q] at this
  simp at this
 | cons x l =>
  refine ⟨fun e=>(nomatch e),fun t e=>?_⟩
  have et:t = x * 1440 + mi:=(Option.some.inj e).symm
  subst et
  have hx:x ∈ week days (dg mi now):=by rw [q]; exact List.mem_cons_self
  obtain ⟨x1,x2,x3⟩:=pO.mp hx
  refine ⟨?_,(rq h0 h1).mpr ⟨x,by omega,rfl,x3,by simp⟩,fun t' t1 t2 r=>?_⟩
  ·by_cases z:x * 1440 + mi ≤ now
   ·have:=(mq (show 0 ≤ x by omega)).mp z; omega
   ·omega
  ·obtain ⟨d,d0,rfl,dm,_⟩:=(rq h0 h1).mp r
   have hg:¬ d < dg mi now:=fun z=>by have:=(mq d0).mpr z; omega
   have hm:d ∈ week days (dg mi now):=pO.mpr ⟨by omega,by omega,dm⟩
   have hr:=ER (days:=days) (g:=dg mi now)
   rw [q] at hm hr
   have:=ES hr hm
   omega
theorem Km {mi:Int} {days still:List Int} (h:Ok (.al mi days still)) (hn:days ≠ []) (now:Int):∃ t,now < t∧rg (.al mi days still) t:=by
 obtain ⟨h0,h1,h2,h3,h4,h5,h6⟩:=h
 obtain ⟨x,hx⟩:=List.exists_mem_of_ne_nil days hn
 obtain ⟨x0,x1⟩:=h3 x hx
 refine ⟨(7 * (max 0 now + 100000001) + x) * 1440 + mi,by omega,(rq h0 h1).mpr ⟨7 * (max 0 now + 100000001) + x,by omega,rfl,?_,fun z=>?_⟩⟩
 ·rw [show (7 * (max 0 now + 100000001) + x) % 7 = x by omega]; exact hx
 ·have:=h6 _ z; omega
structure pP (mi:Int) (days still:List Int) (now:Int) (r:Option Int):Prop where
 no:∀ t,now < t→(∀ u,r = .some u→t < u)→¬ rg (.al mi days still) t
 set:∀ u,r = .some u→now < u∧rg (.al mi days []) u
theorem oH {mi:Int} {days still:List Int} {t:Int}:rg (.al mi days still) t ↔ rg (.al mi days []) t∧t ∉ still:=by
 constructor
 ·rintro ⟨a,b,c,d⟩; exact ⟨⟨a,b,c,by simp⟩,d⟩
 ·rintro ⟨⟨a,b,c,_⟩,d⟩; exact ⟨a,b,c,d⟩
theorem pP.start {mi:Int} {days still:List Int} {now:Int} {r:Option Int} (h:cy (.al mi days []) now r):pP mi days still now r:=by
 refine ⟨fun t h1 h2 h3=>?_,fun u e=>⟨(h.some u e).1,(h.some u e).2.1⟩⟩
 have h4:=(oH.mp h3).1
 cases r with
 | none=>exact h.none rfl t h1 h4
 | some u=>exact (h.some u rfl).2.2 t h1 (h2 u rfl) h4
theorem pP.step {mi:Int} {days still:List Int} {now u:Int} {r:Option Int} (h:pP mi days still now (.some u)) (hs:u ∈ still) (k:cy (.al mi days []) u r):pP mi days still now r:=by
 obtain ⟨u1,u2⟩:=h.set u rfl
 refine ⟨fun t t1 t2 t3=>?_,fun w e=>⟨by have:=(k.some w e).1; omega,(k.some w e).2.1⟩⟩
 rcases Int.lt_trichotomy t u with z | z | z
 ·exact h.no t t1 (fun _ e=>by cases e; exact z) t3
 ·subst z; exact (oH.mp t3).2 hs
 ·exact (pP.start k).no t z t2 t3
theorem pP.fin {mi:Int} {days still:List Int} {now:Int} {r:Option Int} (h:pP mi days still now r) (hs:∀ u,r = .some u→u ∉ still):cy (.al mi days still) now r:=by
 refine ⟨fun e t t1=>h.no t t1 (fun u z=>by rw [e] at z; cases z),fun u e=>?_⟩
 obtain ⟨u1,u2⟩:=h.set u e
 exact ⟨u1,oH.mpr ⟨u2,hs u e⟩,fun t t1 t2=>h.no t t1 fun w z=>by rw [e] at z; cases z; exact t2⟩
noncomputable def upTo (l:List Int) (t:Int):Nat:=(l.filter fun x=>decide (x ≤ t)).length
theorem sS {l:List Int} {t:Int}:upTo l t ≤ l.length:=List.length_filter_le ..
theorem pQ:∀ {l:List Int} {t:Int} {i:Nat} {x:Int},fB l→l[i]? = some x→(x ≤ t ↔ i < upTo l t)
 | [],_,_,_,_,e=>by simp at e
 | y :: l,t,i,x,h,e=>by
  have h':=List.pairwise_cons.mp h
  unfold upTo
  by_cases q:y ≤ t
  ·rw [List.filter_cons_of_pos (by simpa using q),List.length_cons]
   cases i with
   | zero=>simp at e; subst e; exact ⟨fun _=>by omega,fun _=>q⟩
   | succ i =>
    have:=pQ (t:=t) (i:=i) h'.2 (by simpa using e)
    unfold upTo at this
    omega
  ·rw [List.filter_cons_of_neg (by simpa using q)]
   have hn:∀ z ∈ l,¬ z ≤ t:=fun z hz=>by have:=h'.1 z hz; omega
   have e0:(l.filter fun x=>decide (x ≤ t)) = []:=List.filter_eq_nil_iff.mpr fun z hz=>by simpa using hn z hz
   rw [e0]
   cases i with
   | zero=>simp at e; subst e; simp; omega
   | succ i=>have:=hn x (List.mem_of_getElem? (i:=i) (by simpa using e)); simp; omega
theorem ET {l:List Int} {t:Int} (h:fB l):l.take (upTo l t) = l.filter fun x=>decide (x ≤ t):=by
 induction l with
 | nil=>rfl
 | cons y l ih =>
  have h':=List.pairwise_cons.mp h
  unfold upTo at ih ⊢
  by_cases q:y ≤ t
  ·rw [List.filter_cons_of_pos (by simpa using q),List.length_cons,List.take_succ_cons,ih h'.2]
  ·rw [List.filter_cons_of_neg (by simpa using q)]
   have e0:(l.filter fun x=>decide (x ≤ t)) = []:=List.filter_eq_nil_iff.mpr fun z hz=>by have:=h'.1 z hz; simp; omega
   rw [e0]; rfl
theorem B9 {l:List Int} {t:Int} (h:fB l):t ∈ l ↔ 0 < upTo l t∧l[upTo l t - 1]? = some t:=by
 constructor
 ·intro ht
  obtain ⟨i,hi,e⟩:=List.mem_iff_getElem.mp ht
  have e':l[i]? = some t:=by rw [List.getElem?_eq_getElem hi,e]
  have h1:=(pQ h e').mp (Int.le_refl t)
  refine ⟨by omega,?_⟩
  have h2:upTo l t - 1 < l.length:=by have:=sS (l:=l) (t:=t); omega
  have e2:l[upTo l t - 1]? = some l[upTo l t - 1]:=List.getElem?_eq_getElem h2
  have h3:=(pQ h e2).mpr (show upTo l t - 1 < upTo l t by omega)
  by_cases q:i = upTo l t - 1
  ·rw [← q]; exact e'
  ·have xw:i < upTo l t - 1:=by omega
   have:=List.pairwise_iff_getElem.mp h i (upTo l t - 1) hi h2 xw
   omega
 ·rintro ⟨_,e⟩
  exact List.mem_of_getElem? e
noncomputable def EU (days:List Int) (g:Nat):Nat:=((List.range g).filter fun d=>decide (((d:Nat):Int) % 7 ∈ days)).length
theorem Kn {days:List Int} (h:fB days) (r:Int):(days.filter fun x=>decide (x ≤ r)).length = (days.filter fun x=>decide (x ≤ r - 1)).length + if r ∈ days then 1 else 0:=by
 induction days with
 | nil=>rfl
 | cons y l ih =>
  have h':=List.pairwise_cons.mp h
  have ih:=ih h'.2
  by_cases q:y ≤ r - 1
  ·rw [List.filter_cons_of_pos (by simp; omega),List.filter_cons_of_pos (by simpa using q),List.length_cons,List.length_cons,ih]
   have:(r ∈ y :: l) ↔ r ∈ l:=by simp; omega
   simp only [this]; omega
  ·rw [List.filter_cons_of_neg (a:=y) (p:=fun x=>decide (x ≤ r - 1)) (by simpa using q)]
   by_cases q2:y = r
   ·subst q2
    rw [List.filter_cons_of_pos (by simp),List.length_cons,ih]
    have:y ∉ l:=fun z=>by have:=h'.1 y z; omega
    simp [this]
   ·rw [List.filter_cons_of_neg (by simp; omega),ih]
    have:(r ∈ y :: l) ↔ r ∈ l:=by simp; omega
    simp only [this]
theorem Dk {days:List Int} (h:fB days) (hd:∀ d ∈ days,0 ≤ d∧d < 7):∀ g:Nat,EU days g = g / 7 * days.length + upTo days (((g % 7:Nat):Int) - 1)
 | 0=>by
  unfold EU upTo
  have e0:(days.filter fun x=>decide (x ≤ ((0 % 7:Nat):Int) - 1)) = []:=List.filter_eq_nil_iff.mpr fun z hz=>by have:=hd z hz; simp; omega
  rw [e0]; simp
 | g + 1=>by
  have ih:=Dk h hd g
  have e1:EU days (g + 1) = EU days g + if ((g:Nat):Int) % 7 ∈ days then 1 else 0:=by
   unfold EU
   rw [List.range_succ,List.filter_append,List.length_append]
   by_cases q:((g:Nat):Int) % 7 ∈ days
   ·simp [q]
   ·simp [q]
  rw [e1,ih]
  have hs:=Kn h (((g % 7:Nat):Int))
  have ec:((g:Nat):Int) % 7 = ((g % 7:Nat):Int):=by omega
  rw [ec]
  by_cases q:g % 7 = 6
  ·have e2:(g + 1) / 7 = g / 7 + 1:=by omega
   have e3:(g + 1) % 7 = 0:=by omega
   rw [e2,e3]
   have e4:upTo days (((0:Nat):Int) - 1) = 0:=by
    unfold upTo
    have e0:(days.filter fun x=>decide (x ≤ ((0:Nat):Int) - 1)) = []:=List.filter_eq_nil_iff.mpr fun z hz=>by have:=hd z hz; simp; omega
    rw [e0]; rfl
   have e5:(days.filter fun x=>decide (x ≤ ((g % 7:Nat):Int))).length = days.length:=by
    have:(days.filter fun x=>decide (x ≤ ((g % 7:Nat):Int))) = days:=List.filter_eq_self.mpr fun z hz=>by have:=hd z hz; simp; omega
    rw [this]
   rw [e4,Nat.add_mul,Nat.one_mul]
   unfold upTo
   omega
  ·have e2:(g + 1) / 7 = g / 7:=by omega
   have e3:(g + 1) % 7 = g % 7 + 1:=by omega
   rw [e2,e3,show (((g % 7 + 1:Nat):Int) - 1) = ((g % 7:Nat):Int) by omega]
   unfold upTo
   omega
theorem EV {mi:Int} {days:List Int} {t:Int} (h0:0 ≤ mi) (h1:mi < 1440) :
  bb (.al mi days []) (-1) t (((List.range (dg mi t).toNat).filter fun d=>decide (((d:Nat):Int) % 7 ∈ days)).map fun d=>((d:Nat):Int) * 1440 + mi):=by
 have g0:0 ≤ dg mi t:=by unfold dg; omega
 refine ⟨?_,fun u=>?_⟩
 ·unfold fB
  rw [List.pairwise_map]
  exact (List.pairwise_lt_range.sublist List.filter_sublist).imp fun {x y} h=>by omega
 ·rw [List.mem_map,rq h0 h1]
  constructor
  ·rintro ⟨d,hd,rfl⟩
   rw [List.mem_filter,List.mem_range,decide_eq_true_eq] at hd
   have:=(mq (mi:=mi) (t:=t) (d:=(d:Nat)) (by omega)).mpr (by omega)
   exact ⟨by omega,this,(d:Nat),by omega,rfl,hd.2,by simp⟩
  ·rintro ⟨_,u2,d,d0,rfl,dm,_⟩
   have:=(mq d0).mp u2
   refine ⟨d.toNat,?_,by rw [show ((d.toNat:Nat):Int) = d by omega]⟩
   rw [List.mem_filter,List.mem_range,decide_eq_true_eq]
   exact ⟨by omega,by rw [show ((d.toNat:Nat):Int) = d by omega]; exact dm⟩
noncomputable def isSet (mi:Int) (days:List Int) (t:Int):Bool:=decide (t % 1440 = mi∧t / 1440 % 7 ∈ days)
theorem Nr {mi:Int} {days still:List Int} {t:Int} (h:Ok (.al mi days still)) :
  Np (.al mi days still) t (dg mi t / 7 * days.length + upTo days (dg mi t % 7 - 1) - ((still.take (upTo still t)).filter (isSet mi days)).length):=by
 obtain ⟨h0,h1,h2,h3,h4,h5,h6⟩:=h
 intro l hl
 have g0:0 ≤ dg mi t:=by unfold dg; omega
 have S:=EV (days:=days) (t:=t) h0 h1
 have len:((((List.range (dg mi t).toNat).filter fun d=>decide (((d:Nat):Int) % 7 ∈ days)).map fun d=>((d:Nat):Int) * 1440 + mi).length:Int) = dg mi t / 7 * days.length + upTo days (dg mi t % 7 - 1):=by
  have e:=Dk h2 h3 (dg mi t).toNat
  unfold EU at e
  rw [List.length_map,e,show (((dg mi t).toNat % 7:Nat):Int) = dg mi t % 7 by omega]
  have:(((dg mi t).toNat / 7:Nat):Int) = dg mi t / 7:=by omega
  rw [Int.natCast_add,Int.natCast_mul,this]
 rw [← len]
 generalize ((List.range (dg mi t).toNat).filter fun d=>decide (((d:Nat):Int) % 7 ∈ days)).map (fun d=>((d:Nat):Int) * 1440 + mi) = L at S
 have e1:l = L.filter fun u=>decide (u ∉ still):=hl.unique ⟨cH S.rise _,fun u=>by
  rw [List.mem_filter,S.mem,decide_eq_true_eq,oH (still:=still)]
  exact ⟨fun ⟨⟨a,b,c⟩,d⟩=>⟨a,b,c,d⟩,fun ⟨a,b,c,d⟩=>⟨⟨a,b,c⟩,d⟩⟩⟩
 have e2:L.filter (fun u=>decide (u ∈ still)) = (still.take (upTo still t)).filter (isSet mi days):=by
  rw [ET h4]
  refine pN (cH S.rise _) (cH (cH h4 _) _) fun u=>?_
  rw [List.mem_filter,List.mem_filter,List.mem_filter,S.mem,decide_eq_true_eq,decide_eq_true_eq]
  constructor
  ·rintro ⟨⟨a,b,c,d,e,_⟩,f⟩
   exact ⟨⟨f,b⟩,by unfold isSet; rw [decide_eq_true_eq]; exact ⟨d,e⟩⟩
  ·rintro ⟨⟨a,b⟩,c⟩
   unfold isSet at c
   rw [decide_eq_true_eq] at c
   have:=h6 u a
   exact ⟨⟨by omega,b,by omega,c.1,c.2,by simp⟩,a⟩
 have e3:L.length = (L.filter fun u=>decide (u ∈ still)).length + (L.filter fun u=>decide (u ∉ still)).length:=by
  clear S e1 e2 len hl
  induction L with
  | nil=>rfl
  | cons x L ih =>
   by_cases q:x ∈ still
   ·rw [List.filter_cons_of_pos (by simpa using q),List.filter_cons_of_neg (by simpa using q)]; simp only [List.length_cons]; omega
   ·rw [List.filter_cons_of_neg (by simpa using q),List.filter_cons_of_pos (by simpa using q)]; simp only [List.length_cons]; omega
 rw [e1,← e2]
 omega
end Rg
namespace rV
open PySem L2 Dl
theorem eF (items:List D) (F:D→Option D) {k:Nat} {ti:oW} {g:sP} {tt:lB} {te:cx} {δ:Ev} {Q:D→Ev→Prop} (h0:∀ Q:List D→Ev→Prop,Q items δ→ti δ Q)
  (hF:∀ d ∈ items,g d (jY δ ++ List.replicate k .no) fun δ2=>tt δ2 fun b δ3=>if b = true then te δ3 fun y _=>F d = some y else F d = none)
  (hl:(items.filterMap F).length ≤ sizeLine) (q:Q (.lst (items.filterMap F)) δ):dz k ti g tt te δ Q:=h0 _ ⟨F,hF,hl,q⟩
theorem ur {α β:Type} {g:α→Option β} {h:α→β}:∀ {l:List α},(∀ a ∈ l,g a = some (h a))→l.filterMap g = l.map h
 | [],_=>rfl
 | x :: l,H=>by rw [List.filterMap_cons_some (H x List.mem_cons_self),ur fun a ha=>H a (List.mem_cons_of_mem _ ha)]; rfl
theorem zQ {α:Type} [DecidableEq α]:∀ {l m:List α},l.Nodup→(∀ x ∈ l,x ∈ m)→l.length ≤ m.length
 | [],_,_,_=>Nat.zero_le _
 | x :: l,m,h,hs=>by
  have h':=List.nodup_cons.mp h
  have:=zQ (l:=l) (m:=m.erase x) h'.2 fun y hy=>(List.mem_erase_of_ne (fun z=>by subst z; exact h'.1 hy)).mpr (hs y (List.mem_cons_of_mem _ hy))
  rw [List.length_erase_of_mem (hs x List.mem_cons_self)] at this
  have:0 < m.length:=List.length_pos_of_mem (hs x List.mem_cons_self)
  rw [List.length_cons]
  omega
theorem HJ {α:Type} {l:List α} {x:α} (h:l[l.length - 1]? = some x):oV l (-1) = some x:=by
 have hl:l.length - 1 < l.length:=(List.getElem?_eq_some_iff.mp h).1
 unfold oV KZ
 rw [if_neg (by decide),if_pos (by omega),show (-1 + (l.length:Int)).toNat = l.length - 1 by omega]
 exact h
end rV
namespace rV
open PySem L2 Dl Rg
noncomputable abbrev iL (l:List Int):List D:=l.map D.int
noncomputable def cR:Ck→D
 | .tm size left o=>.tup [.str "timer",.int size,.int left,oi o]
 | .ev b f m=>.tup [.str "every",.int b,.int f,oi m]
 | .al mi days still=>.tup [.str "alarm",.int mi,.tup (iL days),.tup (iL still)]
theorem Ko:(("every":Str) == ("timer":Str)) = false:=by decide +kernel
theorem Nt:(("alarm":Str) == ("timer":Str)) = false:=by decide +kernel
theorem Nu:(("alarm":Str) == ("every":Str)) = false:=by decide +kernel
theorem Uk:(("timer":Str) == ("alarm":Str)) = false:=by decide +kernel
theorem Ul:(("every":Str) == ("alarm":Str)) = false:=by decide +kernel
theorem vp {x y:Str} (h1:PyData.strOk x = true) (h2:PyData.strOk y = true):j5 (.str x) (.str y):=⟨h1,h2,Nat.zero_le _⟩
theorem lC:PyData.strOk "timer" = true:=by decide +kernel
theorem pR:PyData.strOk "every" = true:=by decide +kernel
theorem vq:PyData.strOk "alarm" = true:=by decide +kernel
theorem zR {l:List Int} {i:Nat} {x:Int} (h:l[i]? = some x):oV (iL l) (i:Int) = some (.int x):=il (by rw [List.getElem?_map,h]; rfl)
theorem pS {x:Int}:∀ {l:List Int},inD (.int x) (iL l) = decide (x ∈ l)
 | []=>by simp [inD]
 | y :: l=>by
  show (gX (.int y) (.int x) || inD (.int x) (iL l)) = _
  rw [pS,ri]
  by_cases h:y = x
  ·subst h; simp
  ·have h1:(y == x) = false:=by simpa using h
   have h2:¬ x = y:=fun z=>h z.symm
   simp [h1,h2]
theorem qA {x:Int} {l:List Int}:okIn (.int x) (iL l):=⟨rfl,uo l,by show min _ 0 ≤ 60; omega⟩
theorem Nv {l:List D} {n:Nat} (h:n ≤ l.length):cutD l none (some ((n:Nat):Int)) = l.take n:=by
 unfold cutD HT.eB
 simp only [List.drop_zero,Nat.sub_zero]
 rw [if_neg (by omega)]
 congr 1
 omega
theorem pU:∀ {l:List Int} {a b:Int},fB l→(∀ x ∈ l,a ≤ x∧x < b)→l.length ≤ (b - a).toNat
 | [],_,_,_,_=>Nat.zero_le _
 | x :: l,a,b,h,hx=>by
  have h':=List.pairwise_cons.mp h
  have:=hx x List.mem_cons_self
  have:=pU (l:=l) (a:=x + 1) (b:=b) h'.2 fun y hy=>⟨by have:=h'.1 y hy; omega,(hx y (List.mem_cons_of_mem _ hy)).2⟩
  rw [List.length_cons]
  omega
noncomputable def nJ (p:Int→Bool):D→Option D
 | .int x=>if p x = true then some (.int x) else none
 | _=>none
theorem jG {p:Int→Bool} {x:Int} (h:p x = true):nJ p (.int x) = some (.int x):=by show (if p x = true then some (D.int x) else none) = _; rw [if_pos h]
theorem jH {p:Int→Bool} {x:Int} (h:p x = false):nJ p (.int x) = none:=by show (if p x = true then some (D.int x) else none) = _; rw [if_neg (by rw [h]; exact Bool.false_ne_true)]
theorem gj {p:Int→Bool}:∀ {l:List Int},(iL l).filterMap (nJ p) = iL (l.filter p)
 | []=>rfl
 | x :: l=>by
  show (D.int x :: iL l).filterMap (nJ p) = _
  by_cases h:p x = true
  ·rw [List.filterMap_cons_some (jG h),List.filter_cons_of_pos h,gj]; rfl
  ·rw [List.filterMap_cons_none (jH (by simpa using h)),List.filter_cons_of_neg h,gj]
noncomputable def HK (g:Int→D):D→Option D
 | .int x=>some (g x)
 | _=>none
theorem ny {g:Int→D}:∀ {l:List Int},(iL l).filterMap (HK g) = l.map g
 | []=>rfl
 | x :: l=>by
  show (D.int x :: iL l).filterMap (HK g) = _
  rw [List.filterMap_cons_some (show HK g (.int x) = some (g x) from rfl),ny]; rfl
theorem b9 {lo:Int} {n:Nat}:bU lo n = iL ((List.range n).map fun i=>lo + ((i:Nat):Int)):=by
 unfold bU iL; rw [List.map_map]; rfl
noncomputable def cb:qm:=fun ds Q=>∃ l t,ds = [.tup (iL l),.int t]∧fB l∧l.length ≤ 100000∧Q (.int (upTo l t))
noncomputable def dE:qm:=fun ds Q=>∃ l t,ds = [.tup (iL l),.int t]∧fB l∧l.length ≤ 100000∧Q (.bl (decide (t ∈ l)))
noncomputable def cc:qm:=fun ds Q=>∃ mi days still t,ds = [cR (.al mi days still),.int t]∧Q (.int (dg mi t))
noncomputable def gk:qm:=fun ds Q=>∃ mi days still t,ds = [cR (.al mi days still),.int t]∧Ok (.al mi days still)∧t ≤ 1000000000000∧∀ r,cy (.al mi days []) t r→(∀ u,r = some u→u ≤ max 0 t + 20000)→Q (oi r)
noncomputable def bI:qm:=fun ds Q=>∃ mi days still t,ds = [cR (.al mi days still),.int t]∧Ok (.al mi days still)∧t ≤ 1000000000∧∀ r,cy (.al mi days still) t r→Q (oi r)
noncomputable def cS:qm:=fun ds Q=>∃ size left o t,ds = [cR (.tm size left o),.int t]∧∀ r,cy (.tm size left o) t r→Q (oi r)
noncomputable def bJ:qm:=fun ds Q=>∃ b f m t,ds = [cR (.ev b f m),.int t]∧Ok (.ev b f m)∧Q (.int (aT b f m t))
noncomputable def cT:qm:=fun ds Q=>∃ b f m t,ds = [cR (.ev b f m),.int t]∧Ok (.ev b f m)∧Q (oi (if m = some (aT b f m t) then none else some (b + aT b f m t * f)))
noncomputable def dF:qm:=fun ds Q=>∃ c t,ds = [cR c,.int t]∧Ok c∧t ≤ 1000000000∧∀ r,cy c t r→Q (oi r)
noncomputable def fK:qm:=fun ds Q=>∃ mi days still t,ds = [cR (.al mi days still),.int t]∧Q (.bl (isSet mi days t))
noncomputable def cU:qm:=fun ds Q=>∃ mi days still t,ds = [cR (.al mi days still),.int t]∧Ok (.al mi days still)∧∀ n,Np (.al mi days still) t n→Q (.int n)
noncomputable def fc:qm:=fun ds Q=>∃ c t,ds = [cR c,.int t]∧Ok c∧∀ n,Np c t n→Q (.int n)
theorem xN:∀ ds Q,cb ds Q→ds.length = 2:=by rintro ds Q ⟨_,_,rfl,_⟩; rfl
theorem zS:∀ ds Q,dE ds Q→ds.length = 2:=by rintro ds Q ⟨_,_,rfl,_⟩; rfl
theorem zT:∀ ds Q,cc ds Q→ds.length = 2:=by rintro ds Q ⟨_,_,_,_,rfl,_⟩; rfl
theorem Ca:∀ ds Q,gk ds Q→ds.length = 2:=by rintro ds Q ⟨_,_,_,_,rfl,_⟩; rfl
theorem rW:∀ ds Q,bI ds Q→ds.length = 2:=by rintro ds Q ⟨_,_,_,_,rfl,_⟩; rfl
theorem rX:∀ ds Q,cS ds Q→ds.length = 2:=by rintro ds Q ⟨_,_,_,_,rfl,_⟩; rfl
theorem rY:∀ ds Q,bJ ds Q→ds.length = 2:=by rintro ds Q ⟨_,_,_,_,rfl,_⟩; rfl
theorem rZ:∀ ds Q,cT ds Q→ds.length = 2:=by rintro ds Q ⟨_,_,_,_,rfl,_⟩; rfl
theorem zU:∀ ds Q,dF ds Q→ds.length = 2:=by rintro ds Q ⟨_,_,rfl,_⟩; rfl
theorem xO:∀ ds Q,fK ds Q→ds.length = 2:=by rintro ds Q ⟨_,_,_,_,rfl,_⟩; rfl
theorem r8:∀ ds Q,cU ds Q→ds.length = 2:=by rintro ds Q ⟨_,_,_,_,rfl,_⟩; rfl
theorem EW:∀ ds Q,fc ds Q→ds.length = 2:=by rintro ds Q ⟨_,_,rfl,_⟩; rfl
noncomputable def kq:bC:=au (bw 2 (dC (.int 0))) (au (bw 3 ((ay ph ((af ((ae 0)) (aw)))))) (au (tW (dB (aD (qr fun i j=>.bl (decide (i < j))) ((ae 2)) ((ae 3)))) (au (bw 4 ((aD (jV tB fun i j=>.int (i / j)) ((aD (rF bD) ((ae 2)) ((ae 3)))) (dC (.int 2))))) (fA (dB (aD (qr fun i j=>.bl (decide (i ≤ j))) ((aD (rF eC) ((ae 0)) ((ae 4)))) ((ae 1)))) (bw 2 ((aD (rF bD) ((ae 4)) (dC (.int 1))))) (bw 3 ((ae 4)))))) (bF ((ae 2)))))
theorem xP:∀ ds Q,cb ds Q→kq { nx:=fun _=>Q .aU,rt:=fun d _=>Q d } (bu ["rising","most","low","high","middle"] ds):=by
 rintro ds Q ⟨l,t,rfl,hr,hl,q⟩
 simp! only [kq,List.length_map]
 refine ⟨fun m δ=>∃ (lo hi:Nat) (s:Sl),δ = [.sh (.tup (iL l)),.sh (.int t),.sh (.int (lo:Nat)),.sh (.int (hi:Nat)),s]∧m = hi - lo∧lo ≤ upTo l t∧upTo l t ≤ hi∧hi ≤ l.length,⟨_,0,l.length,.no,rfl,rfl,Nat.zero_le _,sS,Nat.le_refl _⟩,?_⟩
 rintro m δ ⟨lo,hi,s,rfl,rfl,h1,h2,h3⟩
 simp! only [Dl.au]
 refine fC (fun hc=>?_) (fun hc=>?_)
 ·have hm:(lo + hi) / 2 < l.length:=by omega
  have hx:l[(lo + hi) / 2]? = some l[(lo + hi) / 2]:=List.getElem?_eq_getElem hm
  have hu:=pQ (t:=t) hr hx
  have he:((lo:Nat):Int) + ((hi:Nat):Int) = ((lo + hi:Nat):Int):=by omega
  refine ⟨⟨by decide,by decide⟩,.int l[(lo + hi) / 2],?_,?_⟩
  ·rw [show (((lo:Nat):Int) + ((hi:Nat):Int)) / 2 = (((lo + hi) / 2:Nat):Int) by omega]
   exact zR hx
  ·simp! only [Dl.au]
   refine fC (fun A1=>?_) (fun A1=>?_)
   ·have:=hu.mp A1
    exact ⟨_,(show hi - ((lo + hi) / 2 + 1) < hi - lo by omega),(lo + hi) / 2 + 1,hi,_,by rw [show (((lo:Nat):Int) + ((hi:Nat):Int)) / 2 + 1 = (((lo + hi) / 2 + 1:Nat):Int) by omega],rfl,by omega,h2,h3⟩
   ·have:¬ (lo + hi) / 2 < upTo l t:=fun z=>A1 (hu.mpr z)
    exact ⟨_,(show (lo + hi) / 2 - lo < hi - lo by omega),lo,(lo + hi) / 2,_,by rw [show (((lo:Nat):Int) + ((hi:Nat):Int)) / 2 = (((lo + hi) / 2:Nat):Int) by omega],rfl,h1,by omega,by omega⟩
 ·rw [show lo = upTo l t by omega]
  exact q
noncomputable def mr:bC:=au (bw 2 ((ay cb ((af ((ae 0)) ((af ((ae 1)) (aw)))))))) (bF ((yE ((aD (qr fun i j=>.bl (decide (j < i))) ((ae 2)) (dC (.int 0)))) ((aD gY ((aD (rF eC) ((ae 0)) ((aD (qr fun i j=>.int (i - j)) ((ae 2)) (dC (.int 1)))))) ((ae 1)))))))
theorem zV:∀ ds Q,dE ds Q→mr { nx:=fun _=>Q .aU,rt:=fun d _=>Q d } (bu ["rising","number","place"] ds):=by
 rintro ds Q ⟨l,t,rfl,hr,hl,q⟩
 simp! only [mr]
 refine ⟨l,t,rfl,hr,hl,?_⟩
 simp! only [Dl.au]
 have hs:=B9 (t:=t) hr
 refine fC (fun hc=>?_) (fun hc=>?_)
 ·have xw:upTo l t - 1 < l.length:=by have:=sS (l:=l) (t:=t); omega
  have hx:l[upTo l t - 1]? = some l[upTo l t - 1]:=List.getElem?_eq_getElem xw
  refine ⟨.int l[upTo l t - 1],?_,?_⟩
  ·rw [show ((upTo l t:Nat):Int) - 1 = ((upTo l t - 1:Nat):Int) by omega]
   exact zR hx
  ·simp! only [Dl.au]
   have e:(l[upTo l t - 1] == t) = decide (t ∈ l):=by
    rw [Bool.eq_iff_iff,beq_iff_eq,decide_eq_true_eq,hs,hx,Option.some.injEq]
    exact ⟨fun z=>⟨by omega,z⟩,fun z=>z.2⟩
   rw [e]
   exact q
 ·have e:decide (t ∈ l) = false:=decide_eq_false fun z=>hc (by have:=(hs.mp z).1; omega)
  rw [e] at q
  exact q
noncomputable def mv:bC:=bF ((ay yH ((af (dC (.int 0)) ((af ((aD (rF bD) ((aD (jV tB fun i j=>.int (i / j)) ((aD (qr fun i j=>.int (i - j)) ((ae 1)) ((aD (rF eC) ((ae 0)) (dC (.int 1)))))) ((dC (.int 1440))))) (dC (.int 1)))) (aw)))))))
theorem zW:∀ ds Q,cc ds Q→mv { nx:=fun _=>Q .aU,rt:=fun d _=>Q d } (bu ["clock","moment"] ds):=by
 rintro ds Q ⟨mi,days,still,t,rfl,q⟩
 simp! only [mv,cR]
 exact ⟨⟨by decide,by decide⟩,q⟩
noncomputable def eJ:bC:=au (fA (Jk (dB (aD Bd ((aD (rF eC) ((ae 0)) (dC (.int 3)))) (dC .aU))) (dB (aD (qr fun i j=>.bl (decide (i ≤ j))) ((aD (rF bD) ((aD (rF eC) ((ae 0)) (dC (.int 3)))) ((aD (rF eC) ((ae 0)) (dC (.int 2)))))) ((ae 1))))) (bF (dC .aU)) (b8)) (bF ((aD (rF bD) ((aD (rF eC) ((ae 0)) (dC (.int 3)))) ((aD (rF eC) ((ae 0)) (dC (.int 2)))))))
theorem r9:∀ ds Q,cS ds Q→eJ { nx:=fun _=>Q .aU,rt:=fun d _=>Q d } (bu ["clock","now"] ds):=by
 rintro ds Q ⟨size,left,o,t,rfl,q⟩
 have q:=q _ Kl
 cases o with
 | none=>simp! only [eJ,cR,aZ,ba]; exact q
 | some s =>
  simp! only [eJ,cR,aZ,ba]
  refine fC (fun h=>?_) (fun h=>?_)
  ·simp only [if_pos h] at q; exact q
  ·simp only [if_neg h] at q; exact q
noncomputable def eK:bC:=au (bw 2 ((ay yH ((af (dC (.int 0)) ((af ((aD (rF bD) ((aD (jV tB fun i j=>.int (i / j)) ((aD (qr fun i j=>.int (i - j)) ((ae 1)) ((aD (rF eC) ((ae 0)) (dC (.int 1)))))) ((aD (rF eC) ((ae 0)) (dC (.int 2)))))) (dC (.int 1)))) (aw)))))))) (bF ((NW (dB (aD Bd ((aD (rF eC) ((ae 0)) (dC (.int 3)))) (dC .aU))) ((ae 2)) ((ay Gk ((af ((ae 2)) ((af ((aD (rF eC) ((ae 0)) (dC (.int 3)))) (aw))))))))))
theorem sd:∀ ds Q,bJ ds Q→eK { nx:=fun _=>Q .aU,rt:=fun d _=>Q d } (bu ["clock","moment","rung"] ds):=by
 rintro ds Q ⟨b,f,m,t,rfl,ok,q⟩
 obtain ⟨h1,h2,h3,h4,h5⟩:=ok
 cases m with
 | none=>simp! only [eK,cR,aZ,ba]; exact ⟨⟨by omega,by omega⟩,q⟩
 | some k=>simp! only [eK,cR,aZ,ba]; exact ⟨⟨by omega,by omega⟩,q⟩
noncomputable def eL:bC:=au (bw 2 ((ay bJ ((af ((ae 0)) ((af ((ae 1)) (aw)))))))) (au (fA (A7 (dB (aD lY ((aD (rF eC) ((ae 0)) (dC (.int 3)))) (dC .aU))) (dB (aD gY ((ae 2)) ((aD (rF eC) ((ae 0)) (dC (.int 3))))))) (bF (dC .aU)) (b8)) (bF ((aD (rF bD) ((aD (rF eC) ((ae 0)) (dC (.int 1)))) ((aD (jV lz fun i j=>.int (i * j)) ((ae 2)) ((aD (rF eC) ((ae 0)) (dC (.int 2))))))))))
theorem se:∀ ds Q,cT ds Q→eL { nx:=fun _=>Q .aU,rt:=fun d _=>Q d } (bu ["clock","now","rung"] ds):=by
 rintro ds Q ⟨b,f,m,t,rfl,ok,q⟩
 have mf:∀ i:Int,lz i f:=fun i=>.inr ⟨by have:=ok.2.2.1; omega,by have:=ok.2.2.2.1; omega⟩
 cases m with
 | none =>
  simp! only [eL,cR,aZ,ba]
  refine ⟨b,f,none,t,rfl,ok,?_⟩
  simp! only [aZ,ba]
  exact ⟨mf _,q⟩
 | some k =>
  simp! only [eL,cR,aZ,ba]
  refine ⟨b,f,some k,t,rfl,ok,?_⟩
  simp! only [aZ,ba]
  refine fC (fun h=>?_) (fun h=>?_)
  ·rw [if_pos (congrArg some h.symm)] at q; exact q
  ·rw [if_neg fun z=>h (Option.some.inj z).symm] at q; exact ⟨mf _,q⟩
noncomputable def ku:bC:=bF ((yE ((aD gY ((aD (jV (fun _ j=>0 < j) fun i j=>.int (i % j)) ((ae 1)) ((dC (.int 1440))))) ((aD (rF eC) ((ae 0)) (dC (.int 1)))))) ((aD (Bg false) ((aD (jV (fun _ j=>0 < j) fun i j=>.int (i % j)) ((aD (jV tB fun i j=>.int (i / j)) ((ae 1)) ((dC (.int 1440))))) ((dC (.int 7))))) ((aD (rF eC) ((ae 0)) (dC (.int 2))))))))
theorem xQ:∀ ds Q,fK ds Q→ku { nx:=fun _=>Q .aU,rt:=fun d _=>Q d } (bu ["clock","moment"] ds):=by
 rintro ds Q ⟨mi,days,still,t,rfl,q⟩
 simp! only [ku,cR,pS]
 unfold isSet at q
 refine ⟨by decide,?_⟩
 refine fC (fun h=>?_) (fun h=>?_)
 ·refine ⟨⟨by decide,by decide⟩,by decide,qA,?_⟩
  simpa [h] using q
 ·simpa [h] using q
noncomputable def hI:bC:=au (bw 2 ((ay cc ((af ((ae 0)) ((af ((ae 1)) (aw)))))))) (au (bw 3 ((aD (rF bD) ((aD (jV lz fun i j=>.int (i * j)) ((aD (jV tB fun i j=>.int (i / j)) ((ae 2)) ((dC (.int 7))))) ((ay ph ((af ((aD (rF eC) ((ae 0)) (dC (.int 2)))) (aw))))))) ((ay cb ((af ((aD (rF eC) ((ae 0)) (dC (.int 2)))) ((af ((aD (qr fun i j=>.int (i - j)) ((aD (jV (fun _ j=>0 < j) fun i j=>.int (i % j)) ((ae 2)) ((dC (.int 7))))) (dC (.int 1)))) (aw)))))))))) (au (bw 4 ((MI ((aD (rF eC) ((ae 0)) (dC (.int 3)))) (xi) (Gh ((ay cb ((af ((aD (rF eC) ((ae 0)) (dC (.int 3)))) ((af ((ae 1)) (aw))))))))))) (bF ((aD (qr fun i j=>.int (i - j)) ((ae 3)) ((ay ph ((af ((dz 1 (dw ((ae 4))) (cK 5) (nG ((ay fK ((af ((ae 0)) ((af ((ae 5)) (aw)))))))) ((ae 5)))) (aw))))))))))
theorem sf:∀ ds Q,cU ds Q→hI { nx:=fun _=>Q .aU,rt:=fun d _=>Q d } (bu ["clock","moment","days","set_for","still"] ds):=by
 rintro ds Q ⟨mi,days,still,t,rfl,ok,q⟩
 have q:=q _ (Nr ok)
 obtain ⟨h0,h1,h2,h3,h4,h5,h6⟩:=id ok
 have dl:days.length ≤ 7:=by have:=pU h2 (a:=0) (b:=7) (fun x hx=>h3 x hx); omega
 simp! only [hI,cR,List.length_map]
 refine ⟨mi,days,still,t,rfl,?_⟩
 simp! only [Dl.au]
 refine ⟨⟨by decide,by decide⟩,.inr ⟨by omega,by omega⟩,by decide,days,_,rfl,h2,by omega,?_⟩
 simp! only [Dl.au]
 refine ⟨still,t,rfl,h4,by omega,?_⟩
 simp! only [Dl.au]
 rw [Nv (by rw [List.length_map]; exact sS),← List.map_take]
 refine ⟨_,rfl,nJ (isSet mi days),?_,?_,?_⟩
 ·intro d hd
  obtain ⟨x,hx,rfl⟩:=List.mem_map.mp hd
  refine ⟨mi,days,still,x,rfl,?_⟩
  simp! only [Dl.au]
  refine fC (fun h=>jG h) (fun h=>jH (by simpa using h))
 ·refine Nat.le_trans (List.length_filterMap_le ..) ?_
  rw [List.length_map,List.length_take]
  exact Nat.le_trans (Nat.min_le_right ..) (Nat.le_trans h5 (by decide))
 ·rw [gj]
  refine ⟨_,rfl,?_⟩
  rw [List.length_map]
  exact q
noncomputable def oI:bC:=au (bw 2 ((ay cc ((af ((ae 0)) ((af ((ae 1)) (aw)))))))) (au (bw 3 ((dz 1 (o8 ((af ((ae 2)) ((af ((aD (rF bD) ((ae 2)) ((dC (.int 7))))) (aw)))))) (cK 4) (dB (aD (Bg false) ((aD (jV (fun _ j=>0 < j) fun i j=>.int (i % j)) ((ae 4)) ((dC (.int 7))))) ((aD (rF eC) ((ae 0)) (dC (.int 2)))))) ((ae 4))))) (bF ((NW (nG ((ae 3))) ((aD (rF bD) ((aD (jV lz fun i j=>.int (i * j)) ((aD (rF eC) ((ae 3)) (dC (.int 0)))) ((dC (.int 1440))))) ((aD (rF eC) ((ae 0)) (dC (.int 1)))))) (dC .aU)))))
theorem Cb:∀ ds Q,gk ds Q→oI { nx:=fun _=>Q .aU,rt:=fun d _=>Q d } (bu ["clock","now","first","days"] ds):=by
 rintro ds Q ⟨mi,days,still,t,rfl,ok,ht,q⟩
 obtain ⟨h0,h1,h2,h3,h4,h5,h6⟩:=id ok
 have nx:=HI (now:=t) h0 h1 h3
 have g0:0 ≤ dg mi t:=by unfold dg; omega
 have g1:dg mi t ≤ 1000000000000:=by unfold dg; omega
 simp! only [oI,cR]
 refine ⟨mi,days,still,t,rfl,?_⟩
 simp! only [dz]
 refine ⟨⟨by omega,by omega,by omega,by omega⟩,nJ (fun d=>decide (d % 7 ∈ days)),?_,?_,?_⟩
 ·intro d hd
  rw [b9] at hd
  obtain ⟨x,hx,rfl⟩:=List.mem_map.mp hd
  simp! only [pS]
  refine ⟨by decide,qA,?_⟩
  refine fC (fun h=>jG (by simpa using h)) (fun h=>jH (by simpa using h))
 ·refine Nat.le_trans (List.length_filterMap_le ..) ?_
  unfold bU
  rw [List.length_map,List.length_range]
  exact Nat.le_trans (show _ ≤ 7 by omega) (by decide)
 ·have ew:(bU (dg mi t) (dg mi t + 7 - dg mi t).toNat).filterMap (nJ fun d=>decide (d % 7 ∈ days)) = iL (week days (dg mi t)):=by
   rw [b9,gj,show (dg mi t + 7 - dg mi t).toNat = 7 by omega]; rfl
  rw [ew]
  cases qw:week days (dg mi t) with
  | nil =>
   rw [qw] at nx
   simp! only [iL,List.isEmpty_nil]
   exact q _ nx fun u e=>nomatch e
  | cons x l =>
   rw [qw] at nx
   have hx:=pO.mp (show x ∈ week days (dg mi t) by rw [qw]; exact List.mem_cons_self)
   simp! only [iL,List.isEmpty_cons]
   refine ⟨.inr ⟨by decide,by decide⟩,?_⟩
   refine q _ nx fun u e=>?_
   have:u = x * 1440 + mi:=(Option.some.inj e).symm
   subst this
   have:dg mi t * 1440 ≤ max 0 t + 1440:=by unfold dg; omega
   omega
noncomputable def hU:bC:=au (bw 2 ((ay gk ((af ((ae 0)) ((af ((ae 1)) (aw)))))))) (au (tW (A7 (dB (aD lY ((ae 2)) (dC .aU))) (nG ((ay dE ((af ((aD (rF eC) ((ae 0)) (dC (.int 3)))) ((af ((ae 2)) (aw))))))))) (bw 2 ((ay gk ((af ((ae 0)) ((af ((ae 2)) (aw))))))))) (bF ((ae 2))))
theorem wA {still:List Int} {u:Int} (hs:u ∈ still) {v:Int} (huv:u < v):(still.filter fun x=>decide (v ≤ x)).length < (still.filter fun x=>decide (u ≤ x)).length:=by
 induction still with
 | nil=>simp at hs
 | cons y l ih =>
  have mono:(l.filter fun x=>decide (v ≤ x)).length ≤ (l.filter fun x=>decide (u ≤ x)).length:=by
   have:(l.filter fun x=>decide (v ≤ x)) = (l.filter fun x=>decide (u ≤ x)).filter fun x=>decide (v ≤ x):=by
    rw [List.filter_filter]
    congr 1
    funext x
    by_cases z:v ≤ x
    ·simp [z]; omega
    ·simp [z]
   rw [this]
   exact List.length_filter_le ..
  rcases List.mem_cons.mp hs with rfl | hs
  ·rw [List.filter_cons_of_neg (by simp; omega),List.filter_cons_of_pos (by simp),List.length_cons]; omega
  ·have:=ih hs
   by_cases z:v ≤ y
   ·rw [List.filter_cons_of_pos (by simpa using z),List.filter_cons_of_pos (by simp; omega),List.length_cons,List.length_cons]; omega
   ·rw [List.filter_cons_of_neg (by simpa using z)]
    by_cases z2:u ≤ y
    ·rw [List.filter_cons_of_pos (by simpa using z2),List.length_cons]; omega
    ·rw [List.filter_cons_of_neg (by simpa using z2)]; omega
theorem si:∀ ds Q,bI ds Q→hU { nx:=fun _=>Q .aU,rt:=fun d _=>Q d } (bu ["clock","now","moment"] ds):=by
 rintro ds Q ⟨mi,days,still,t,rfl,ok,ht,q⟩
 obtain ⟨h0,h1,h2,h3,h4,h5,h6⟩:=id ok
 simp! only [hU]
 refine ⟨mi,days,still,t,rfl,ok,by omega,fun r nx hr=>?_⟩
 refine ⟨fun m δ=>∃ r,δ = [.sh (cR (.al mi days still)),.sh (.int t),.sh (oi r)]∧pP mi days still t r∧(∀ u,r = some u→u ≤ 1000020000 + 200000000)∧m = match r with | none=>0 | some u=>(still.filter fun x=>decide (u ≤ x)).length,⟨_,r,rfl,.start nx,fun u e=>by have:=hr u e; omega,rfl⟩,?_⟩
 rintro m δ ⟨r,rfl,inv,hb,rfl⟩
 cases r with
 | none =>
  simp! only [aZ,ba]
  exact q _ (inv.fin fun u e=>nomatch e)
 | some u =>
  simp! only [cR,aZ,ba]
  refine ⟨still,u,rfl,h4,by omega,?_⟩
  simp! only [aZ,ba]
  refine fC (fun hs=>?_) (fun hs=>?_)
  ·have hu6:=h6 u hs
   refine ⟨mi,days,still,u,rfl,ok,by omega,fun r' nx' hr'=>?_⟩
   refine ⟨_,?_,r',rfl,inv.step hs nx',fun w e=>by have:=hr' w e; omega,rfl⟩
   cases r' with
   | none=>exact Nat.lt_of_le_of_lt (Nat.zero_le _) (wA hs (v:=u + 1) (by omega))
   | some v=>exact wA hs (nx'.some v rfl).1
  ·exact q _ (inv.fin fun w e=>by cases e; exact hs)
noncomputable def gI:bC:=au (fA (dB (aD gY ((aD (rF eC) ((ae 0)) (dC (.int 0)))) (dC (.str "timer")))) (bF ((ay cS ((af ((ae 0)) ((af ((ae 1)) (aw)))))))) (b8)) (au (fA (dB (aD gY ((aD (rF eC) ((ae 0)) (dC (.int 0)))) (dC (.str "every")))) (bF ((ay cT ((af ((ae 0)) ((af ((ae 1)) (aw)))))))) (b8)) (bF ((ay bI ((af ((ae 0)) ((af ((ae 1)) (aw)))))))))
theorem zX:∀ ds Q,dF ds Q→gI { nx:=fun _=>Q .aU,rt:=fun d _=>Q d } (bu ["clock","now"] ds):=by
 rintro ds Q ⟨c,t,rfl,ok,ht,q⟩
 cases c with
 | tm size left o =>
  simp! only [gI,cR]
  exact ⟨vp lC lC,size,left,o,t,rfl,q⟩
 | ev b f m =>
  simp! only [gI,cR,Ko]
  exact ⟨vp pR lC,vp pR pR,b,f,m,t,rfl,ok,q _ (Dj ok)⟩
 | al mi days still =>
  simp! only [gI,cR,Nt,Nu]
  exact ⟨vp vq lC,vp vq pR,mi,days,still,t,rfl,ok,ht,q⟩
noncomputable def iI:bC:=au (fA (dB (aD gY ((aD (rF eC) ((ae 0)) (dC (.int 0)))) (dC (.str "timer")))) (bF ((NW (A7 (dB (aD lY ((aD (rF eC) ((ae 0)) (dC (.int 3)))) (dC .aU))) (dB (aD (qr fun i j=>.bl (decide (i ≤ j))) ((aD (rF bD) ((aD (rF eC) ((ae 0)) (dC (.int 3)))) ((aD (rF eC) ((ae 0)) (dC (.int 2)))))) ((ae 1))))) (dC (.int 1)) (dC (.int 0))))) (b8)) (au (fA (dB (aD gY ((aD (rF eC) ((ae 0)) (dC (.int 0)))) (dC (.str "every")))) (bF ((ay bJ ((af ((ae 0)) ((af ((ae 1)) (aw)))))))) (b8)) (bF ((ay cU ((af ((ae 0)) ((af ((ae 1)) (aw)))))))))
theorem EX:∀ ds Q,fc ds Q→iI { nx:=fun _=>Q .aU,rt:=fun d _=>Q d } (bu ["clock","moment"] ds):=by
 rintro ds Q ⟨c,t,rfl,ok,q⟩
 cases c with
 | tm size left o =>
  have q:=q _ (HG ok)
  cases o with
  | none =>
   simp! only [iI,cR,aZ,ba]
   exact ⟨vp lC lC,q⟩
  | some s =>
   simp! only [iI,cR,aZ,ba]
   refine ⟨vp lC lC,?_⟩
   refine fC (fun h=>?_) (fun h=>?_)
   ·simp only [if_pos h] at q; exact q
   ·simp only [if_neg h] at q; exact q
 | ev b f m =>
  simp! only [iI,cR,Ko]
  exact ⟨vp pR lC,vp pR pR,b,f,m,t,rfl,ok,q _ (HH ok)⟩
 | al mi days still =>
  simp! only [iI,cR,Nt,Nu]
  exact ⟨vp vq lC,vp vq pR,mi,days,still,t,rfl,ok,q⟩
end rV
namespace Rg
structure fL (c:Ck) (now:Int) (r:Option Int):Prop where
 none:r = .none→∀ t,t ≤ now→¬ rg c t
 some:∀ t,r = .some t→t ≤ now∧rg c t∧∀ t',t < t'→t' ≤ now→¬ rg c t'
theorem fL.unique {c:Ck} {now:Int} {r s:Option Int} (h:fL c now r) (k:fL c now s):r = s:=by
 cases r with
 | none=>cases s with
  | none=>rfl
  | some v=>obtain ⟨a,b,_⟩:=k.some v rfl; exact absurd b (h.none rfl v a)
 | some u=>obtain ⟨a,b,c⟩:=h.some u rfl; cases s with
  | none=>exact absurd b (k.none rfl u a)
  | some v =>
   obtain ⟨a',b',c'⟩:=k.some v rfl
   rcases Int.lt_trichotomy u v with z | z | z
   ·exact absurd b' (c v z a')
   ·rw [z]
   ·exact absurd b (c' u z a)
noncomputable def nK (days:List Int) (g:Int):List Int:=((List.range (g - max 0 (g - 7)).toNat).map fun i=>max 0 (g - 7) + ((i:Nat):Int)).filter fun d=>decide (d % 7 ∈ days)
theorem qB {days:List Int} {g d:Int}:d ∈ nK days g ↔ max 0 (g - 7) ≤ d∧d < g∧d % 7 ∈ days:=by
 unfold nK
 rw [List.mem_filter,List.mem_map,decide_eq_true_eq]
 constructor
 ·rintro ⟨⟨i,hi,rfl⟩,h⟩
  rw [List.mem_range] at hi
  exact ⟨by omega,by omega,h⟩
 ·rintro ⟨a,b,c⟩
  exact ⟨⟨(d - max 0 (g - 7)).toNat,by rw [List.mem_range]; omega,by omega⟩,c⟩
theorem Cc {days:List Int} {g:Int}:fB (nK days g):=by
 refine cH ?_ _
 unfold fB
 rw [List.pairwise_map]
 exact List.pairwise_lt_range.imp fun {x y} h=>by omega
theorem wB {x:Int} {l:List Int} (h:fB (l ++ [x])) {y:Int} (hy:y ∈ l ++ [x]):y ≤ x:=by
 rcases List.mem_append.mp hy with hy | hy
 ·have:=(List.pairwise_append.mp h).2.2 y hy x (by simp); omega
 ·simp at hy; omega
theorem HL {mi:Int} {days:List Int} {now:Int} (h0:0 ≤ mi) (h1:mi < 1440) :
  (nK days (dg mi now) = []∧fL (.al mi days []) now .none)∨∃ l x,nK days (dg mi now) = l ++ [x]∧fL (.al mi days []) now (.some (x * 1440 + mi)):=by
 have g0:0 ≤ dg mi now:=by unfold dg; omega
 rcases List.eq_nil_or_concat (nK days (dg mi now)) with q | ⟨l,x,q⟩
 ·refine .inl ⟨q,⟨fun _ t ht r=>?_,fun t e=>(nomatch e)⟩⟩
  obtain ⟨d,d0,rfl,dm,_⟩:=(rq h0 h1).mp r
  have hg:d < dg mi now:=(mq d0).mp ht
  have:(dg mi now - 1 - (dg mi now - 1 - d) % 7) ∈ nK days (dg mi now):=qB.mpr ⟨by omega,by omega,by rw [show (dg mi now - 1 - (dg mi now - 1 - d) % 7) % 7 = d % 7 by omega]; exact dm⟩
  rw [q] at this
  simp at this
 ·rw [List.concat_eq_append] at q
  refine .inr ⟨l,x,q,⟨fun e=>(nomatch e),fun t e=>?_⟩⟩
  have et:t = x * 1440 + mi:=(Option.some.inj e).symm
  subst et
  have hx:x ∈ nK days (dg mi now):=by rw [q]; simp
  obtain ⟨x1,x2,x3⟩:=qB.mp hx
  refine ⟨(mq (by omega)).mpr x2,(rq h0 h1).mpr ⟨x,by omega,rfl,x3,by simp⟩,fun t' t1 t2 r=>?_⟩
  obtain ⟨d,d0,rfl,dm,_⟩:=(rq h0 h1).mp r
  have hg:d < dg mi now:=(mq d0).mp t2
  have hm:d ∈ nK days (dg mi now):=qB.mpr ⟨by omega,hg,dm⟩
  have hr:=Cc (days:=days) (g:=dg mi now)
  rw [q] at hm hr
  have:=wB hr hm
  omega
structure pV (mi:Int) (days still:List Int) (now:Int) (r:Option Int):Prop where
 no:∀ t,t ≤ now→(∀ u,r = .some u→u < t)→¬ rg (.al mi days still) t
 set:∀ u,r = .some u→u ≤ now∧rg (.al mi days []) u
theorem pV.start {mi:Int} {days still:List Int} {now:Int} {r:Option Int} (h:fL (.al mi days []) now r):pV mi days still now r:=by
 refine ⟨fun t h1 h2 h3=>?_,fun u e=>⟨(h.some u e).1,(h.some u e).2.1⟩⟩
 have h4:=(oH.mp h3).1
 cases r with
 | none=>exact h.none rfl t h1 h4
 | some u=>exact (h.some u rfl).2.2 t (h2 u rfl) h1 h4
theorem pV.step {mi:Int} {days still:List Int} {now u:Int} {r:Option Int} (h:pV mi days still now (.some u)) (hs:u ∈ still) (k:fL (.al mi days []) (u - 1) r):pV mi days still now r:=by
 obtain ⟨u1,u2⟩:=h.set u rfl
 refine ⟨fun t t1 t2 t3=>?_,fun w e=>⟨by have:=(k.some w e).1; omega,(k.some w e).2.1⟩⟩
 rcases Int.lt_trichotomy t u with z | z | z
 ·exact (pV.start k).no t (by omega) t2 t3
 ·subst z; exact (oH.mp t3).2 hs
 ·exact h.no t t1 (fun _ e=>by cases e; exact z) t3
theorem pV.fin {mi:Int} {days still:List Int} {now:Int} {r:Option Int} (h:pV mi days still now r) (hs:∀ u,r = .some u→u ∉ still):fL (.al mi days still) now r:=by
 refine ⟨fun e t t1=>h.no t t1 (fun u z=>by rw [e] at z; cases z),fun u e=>?_⟩
 obtain ⟨u1,u2⟩:=h.set u e
 exact ⟨u1,oH.mpr ⟨u2,hs u e⟩,fun t t1 t2=>h.no t t2 fun w z=>by rw [e] at z; cases z; exact t1⟩
theorem Kp {size left:Int} {o:Option Int} {now:Int}:fL (.tm size left o) now (match o with | .none=>.none | .some s=>if s + left ≤ now then .some (s + left) else .none):=by
 cases o with
 | none=>exact ⟨fun _ t _ ⟨s,e,_⟩=>(nomatch e),fun t e=>(nomatch e)⟩
 | some s =>
  dsimp only
  by_cases h:s + left ≤ now
  ·rw [if_pos h]
   exact ⟨fun e=>(nomatch e),fun t e=>by cases e; exact ⟨h,⟨s,rfl,rfl⟩,fun t' t1 _ ⟨s',e,e2⟩=>by cases e; omega⟩⟩
  ·rw [if_neg h]
   exact ⟨fun _ t ht ⟨s',e,e2⟩=>by cases e; omega,fun t e=>(nomatch e)⟩
theorem Dm {b f:Int} {m:Option Int} {now:Int} (h:Ok (.ev b f m)):fL (.ev b f m) now (if aT b f m now = 0 then .none else .some (b + (aT b f m now - 1) * f)):=by
 obtain ⟨o1,o2,o3,o4,o5⟩:=id h
 have hf:0 < f:=by omega
 have nn:=jF (b:=b) (f:=f) (m:=m) (t:=now) fun k e=>(o5 k e).1
 by_cases z:aT b f m now = 0
 ·rw [if_pos z]
  refine ⟨fun _ t ht ⟨i,i0,ie,ib⟩=>?_,fun t e=>(nomatch e)⟩
  have:=(bP (b:=b) (m:=m) (t:=now) hf i0).mpr ⟨by omega,ib⟩
  omega
 ·rw [if_neg z]
  have hle:=(bP (b:=b) (m:=m) (t:=now) hf (show 0 ≤ aT b f m now - 1 by omega)).mp (by omega)
  refine ⟨fun e=>(nomatch e),fun t e=>?_⟩
  cases e
  refine ⟨hle.1,⟨_,by omega,rfl,hle.2⟩,fun t' t1 t2 ⟨i,i0,ie,ib⟩=>?_⟩
  have h3:=(bP (b:=b) (m:=m) (t:=now) hf i0).mpr ⟨by omega,ib⟩
  have:i * f ≤ (aT b f m now - 1) * f:=Int.mul_le_mul_of_nonneg_right (by omega) (by omega)
  omega
end Rg
namespace rV
open PySem L2 Dl Rg
theorem uu {still:List Int} {u:Int} (hs:u ∈ still) {v:Int} (huv:v < u):(still.filter fun x=>decide (x ≤ v)).length < (still.filter fun x=>decide (x ≤ u)).length:=by
 induction still with
 | nil=>simp at hs
 | cons y l ih =>
  have mono:(l.filter fun x=>decide (x ≤ v)).length ≤ (l.filter fun x=>decide (x ≤ u)).length:=by
   have:(l.filter fun x=>decide (x ≤ v)) = (l.filter fun x=>decide (x ≤ u)).filter fun x=>decide (x ≤ v):=by
    rw [List.filter_filter]
    congr 1
    funext x
    by_cases z:x ≤ v
    ·simp [z]; omega
    ·simp [z]
   rw [this]
   exact List.length_filter_le ..
  rcases List.mem_cons.mp hs with rfl | hs
  ·rw [List.filter_cons_of_neg (by simp; omega),List.filter_cons_of_pos (by simp),List.length_cons]; omega
  ·have:=ih hs
   by_cases z:y ≤ v
   ·rw [List.filter_cons_of_pos (by simpa using z),List.filter_cons_of_pos (by simp; omega),List.length_cons,List.length_cons]; omega
   ·rw [List.filter_cons_of_neg (by simpa using z)]
    by_cases z2:y ≤ u
    ·rw [List.filter_cons_of_pos (by simpa using z2),List.length_cons]; omega
    ·rw [List.filter_cons_of_neg (by simpa using z2)]; omega
noncomputable def gm:qm:=fun ds Q=>∃ mi days still t,ds = [cR (.al mi days still),.int t]∧Ok (.al mi days still)∧t ≤ 1000000000000∧∀ r,fL (.al mi days []) t r→Q (oi r)
noncomputable def cV:qm:=fun ds Q=>∃ mi days still t,ds = [cR (.al mi days still),.int t]∧Ok (.al mi days still)∧t ≤ 1000000000∧∀ r,fL (.al mi days still) t r→Q (oi r)
theorem Cd:∀ ds Q,gm ds Q→ds.length = 2:=by rintro ds Q ⟨_,_,_,_,rfl,_⟩; rfl
theorem sj:∀ ds Q,cV ds Q→ds.length = 2:=by rintro ds Q ⟨_,_,_,_,rfl,_⟩; rfl
noncomputable def oJ:bC:=au (bw 2 ((ay cc ((af ((ae 0)) ((af ((ae 1)) (aw)))))))) (au (bw 3 ((dz 1 (o8 ((af ((ay yH ((af (dC (.int 0)) ((af ((aD (qr fun i j=>.int (i - j)) ((ae 2)) ((dC (.int 7))))) (aw))))))) ((af ((ae 2)) (aw)))))) (cK 4) (dB (aD (Bg false) ((aD (jV (fun _ j=>0 < j) fun i j=>.int (i % j)) ((ae 4)) ((dC (.int 7))))) ((aD (rF eC) ((ae 0)) (dC (.int 2)))))) ((ae 4))))) (bF ((NW (nG ((ae 3))) ((aD (rF bD) ((aD (jV lz fun i j=>.int (i * j)) ((aD (rF eC) ((ae 3)) ((SR Gn (dC (.int 1)))))) ((dC (.int 1440))))) ((aD (rF eC) ((ae 0)) (dC (.int 1)))))) (dC .aU)))))
theorem Ce:∀ ds Q,gm ds Q→oJ { nx:=fun _=>Q .aU,rt:=fun d _=>Q d } (bu ["clock","now","gone","days"] ds):=by
 rintro ds Q ⟨mi,days,still,t,rfl,ok,ht,q⟩
 obtain ⟨h0,h1,h2,h3,h4,h5,h6⟩:=id ok
 have nx:=HL (days:=days) (now:=t) h0 h1
 have g0:0 ≤ dg mi t:=by unfold dg; omega
 have g1:dg mi t ≤ 1000000000000:=by unfold dg; omega
 simp! only [oJ,cR]
 refine ⟨mi,days,still,t,rfl,?_⟩
 simp! only [dz]
 refine ⟨⟨by omega,by omega,by omega,by omega⟩,nJ (fun d=>decide (d % 7 ∈ days)),?_,?_,?_⟩
 ·intro d hd
  rw [b9] at hd
  obtain ⟨x,hx,rfl⟩:=List.mem_map.mp hd
  simp! only [pS]
  refine ⟨by decide,qA,?_⟩
  refine fC (fun h=>jG (by simpa using h)) (fun h=>jH (by simpa using h))
 ·refine Nat.le_trans (List.length_filterMap_le ..) ?_
  unfold bU
  rw [List.length_map,List.length_range]
  exact Nat.le_trans (show _ ≤ 7 by omega) (by decide)
 ·have ew:(bU (max 0 (dg mi t - 7)) (dg mi t - max 0 (dg mi t - 7)).toNat).filterMap (nJ fun d=>decide (d % 7 ∈ days)) = iL (nK days (dg mi t)):=by
   rw [b9,gj]; rfl
  rw [ew]
  rcases nx with ⟨qw,nx⟩ | ⟨l,x,qw,nx⟩
  ·rw [qw]
   simp! only [iL,List.isEmpty_nil]
   exact q _ nx
  ·rw [qw]
   have ne:(iL (l ++ [x])).isEmpty = false:=by simp [iL]
   simp! only [ne]
   refine ⟨_,HJ (l:=iL (l ++ [x])) (x:=.int x) (by simp [iL]),?_⟩
   simp! only [Dl.au]
   exact ⟨.inr ⟨by decide,by decide⟩,q _ nx⟩
noncomputable def hV:bC:=au (bw 2 ((ay gm ((af ((ae 0)) ((af ((ae 1)) (aw)))))))) (au (tW (A7 (dB (aD lY ((ae 2)) (dC .aU))) (nG ((ay dE ((af ((aD (rF eC) ((ae 0)) (dC (.int 3)))) ((af ((ae 2)) (aw))))))))) (bw 2 ((ay gm ((af ((ae 0)) ((af ((aD (qr fun i j=>.int (i - j)) ((ae 2)) (dC (.int 1)))) (aw))))))))) (bF ((ae 2))))
theorem sk:∀ ds Q,cV ds Q→hV { nx:=fun _=>Q .aU,rt:=fun d _=>Q d } (bu ["clock","now","moment"] ds):=by
 rintro ds Q ⟨mi,days,still,t,rfl,ok,ht,q⟩
 obtain ⟨h0,h1,h2,h3,h4,h5,h6⟩:=id ok
 simp! only [hV]
 refine ⟨mi,days,still,t,rfl,ok,by omega,fun r nx=>?_⟩
 refine ⟨fun m δ=>∃ r,δ = [.sh (cR (.al mi days still)),.sh (.int t),.sh (oi r)]∧pV mi days still t r∧m = match r with | none=>0 | some u=>(still.filter fun x=>decide (x ≤ u)).length,⟨_,r,rfl,.start nx,rfl⟩,?_⟩
 rintro m δ ⟨r,rfl,inv,rfl⟩
 cases r with
 | none =>
  simp! only [aZ,ba]
  exact q _ (inv.fin fun u e=>nomatch e)
 | some u =>
  have hu:=(inv.set u rfl).1
  simp! only [cR,aZ,ba]
  refine ⟨still,u,rfl,h4,by omega,?_⟩
  simp! only [aZ,ba]
  refine fC (fun hs=>?_) (fun hs=>?_)
  ·refine ⟨mi,days,still,u - 1,rfl,ok,by omega,fun r' nx'=>?_⟩
   refine ⟨_,?_,r',rfl,inv.step hs nx',rfl⟩
   cases r' with
   | none=>exact Nat.lt_of_le_of_lt (Nat.zero_le _) (uu hs (v:=u - 1) (by omega))
   | some v=>exact uu hs (by have:=(nx'.some v rfl).1; omega)
  ·exact q _ (inv.fin fun w e=>by cases e; exact hs)
end rV
namespace rV
open PySem L2 Dl Rg
theorem fe (c:Ck) (a e:Int):∃ l,bb c a e l:=by
 classical
 refine ⟨((List.range (e - a).toNat).map fun i=>a + 1 + ((i:Nat):Int)).filter fun t=>decide (rg c t),cH ?_ _,fun t=>?_⟩
 ·unfold fB
  rw [List.pairwise_map]
  exact List.pairwise_lt_range.imp fun {x y} h=>by omega
 ·rw [List.mem_filter,List.mem_map,decide_eq_true_eq]
  constructor
  ·rintro ⟨⟨i,hi,rfl⟩,h⟩
   rw [List.mem_range] at hi
   exact ⟨by omega,by omega,h⟩
  ·rintro ⟨x,y,z⟩
   exact ⟨⟨(t - a - 1).toNat,by rw [List.mem_range]; omega,by omega⟩,z⟩
theorem HM {c:Ck} {a e n m:Int} {l:List Int} (hm:Np c a m) (hn:Np c e n) (hl:bb c a e l) (h1:-1 ≤ a) (h2:a ≤ e):n - m = l.length:=by
 obtain ⟨l0,r0⟩:=fe c (-1) a
 have e1:=hm l0 r0
 have e2:=hn _ (r0.append hl h1 h2)
 rw [List.length_append] at e2
 omega
theorem wC {c:Ck} {a e:Int} {l:List Int} (h:bb c a e l):l.length ≤ (e - a).toNat:=by
 have:=pU h.rise (a:=a + 1) (b:=e + 1) fun x hx=>by have:=(h.mem x).mp hx; omega
 omega
noncomputable def dG:qm:=fun ds Q=>∃ c t,ds = [cR c,.int t]∧Ok c∧t ≤ 1000000000∧∀ r,fL c t r→Q (oi r)
noncomputable def cz:qm:=fun ds Q=>∃ mi days still u e,ds = [cR (.al mi days still),.int u,.int e]∧Ok (.al mi days still)∧rg (.al mi days still) u∧u ≤ e∧e ≤ 10000000∧∀ l,bb (.al mi days still) (u - 1) e l→Q (.lst (iL l))
noncomputable def pW:qm:=fun ds Q=>∃ c a e,ds = [cR c,.int a,.int e]∧Ok c∧a ≤ 10000000∧e ≤ 10000000∧∀ l,bb c a e l→Q (.lst (iL l))
noncomputable def iT:qm:=fun ds Q=>∃ c a e,ds = [cR c,.int a,.int e]∧Ok c∧-1 ≤ a∧a ≤ e∧∀ l,bb c a e l→Q (.int l.length)
theorem zY:∀ ds Q,dG ds Q→ds.length = 2:=by rintro ds Q ⟨_,_,rfl,_⟩; rfl
theorem qC:∀ ds Q,cz ds Q→ds.length = 3:=by rintro ds Q ⟨_,_,_,_,_,rfl,_⟩; rfl
theorem Kq:∀ ds Q,pW ds Q→ds.length = 3:=by rintro ds Q ⟨_,_,_,rfl,_⟩; rfl
theorem Cf:∀ ds Q,iT ds Q→ds.length = 3:=by rintro ds Q ⟨_,_,_,rfl,_⟩; rfl
noncomputable def gJ:bC:=au (fA (dB (aD gY ((aD (rF eC) ((ae 0)) (dC (.int 0)))) (dC (.str "alarm")))) (bF ((ay cV ((af ((ae 0)) ((af ((ae 1)) (aw)))))))) (b8)) (au (bw 2 ((ay fc ((af ((ae 0)) ((af ((ae 1)) (aw)))))))) (au (fA (dB (aD gY ((ae 2)) (dC (.int 0)))) (bF (dC .aU)) (b8)) (au (fA (dB (aD gY ((aD (rF eC) ((ae 0)) (dC (.int 0)))) (dC (.str "timer")))) (bF ((aD (rF bD) ((aD (rF eC) ((ae 0)) (dC (.int 3)))) ((aD (rF eC) ((ae 0)) (dC (.int 2))))))) (b8)) (bF ((aD (rF bD) ((aD (rF eC) ((ae 0)) (dC (.int 1)))) ((aD (jV lz fun i j=>.int (i * j)) ((aD (qr fun i j=>.int (i - j)) ((ae 2)) (dC (.int 1)))) ((aD (rF eC) ((ae 0)) (dC (.int 2))))))))))))
theorem zZ:∀ ds Q,dG ds Q→gJ { nx:=fun _=>Q .aU,rt:=fun d _=>Q d } (bu ["clock","now","rung"] ds):=by
 rintro ds Q ⟨c,t,rfl,ok,ht,q⟩
 cases c with
 | al mi days still =>
  simp! only [gJ,cR]
  exact ⟨vp vq vq,mi,days,still,t,rfl,ok,ht,q⟩
 | ev b f m =>
  simp! only [gJ,cR,Ul,Ko]
  refine ⟨vp pR vq,.ev b f m,t,rfl,ok,fun n hn=>?_⟩
  obtain ⟨l0,r0⟩:=fe (.ev b f m) (-1) t
  have en:n = aT b f m t:=(hn l0 r0).trans (HH ok l0 r0).symm
  subst en
  have la:=q _ (Dm (now:=t) ok)
  simp! only [Dl.au]
  refine fC (fun h=>?_) fun h=>?_
  ·rw [if_pos h] at la; exact la
  ·rw [if_neg h] at la
   exact ⟨vp pR lC,.inr ⟨by have:=ok.2.2.1; omega,by have:=ok.2.2.2.1; omega⟩,la⟩
 | tm size left o =>
  simp! only [gJ,cR,Uk]
  refine ⟨vp lC vq,.tm size left o,t,rfl,ok,fun n hn=>?_⟩
  obtain ⟨l0,r0⟩:=fe (.tm size left o) (-1) t
  have en:=(hn l0 r0).trans (HG ok l0 r0).symm
  have la:=q _ (Kp (size:=size) (left:=left) (o:=o) (now:=t))
  cases o with
  | none =>
   have en:n = 0:=en
   subst en
   simp! only [Dl.au]
   exact la
  | some s =>
   dsimp only at en la
   by_cases h:s + left ≤ t
   ·rw [if_pos h] at en la
    subst en
    simp! only [aZ,ba]
    rw [if_neg (by decide)]
    exact ⟨vp lC lC,la⟩
   ·rw [if_neg h] at en la
    subst en
    simp! only [aZ,ba]
    exact la
noncomputable def gn:bC:=au (FT 3 (aw)) (au (bw 4 ((ae 1))) (au (tW (dB (aD (qr fun i j=>.bl (decide (i ≤ j))) ((ae 4)) ((ae 2)))) (au (FU 3 ((ae 4))) (bw 4 ((ay bI ((af ((ae 0)) ((af ((ae 4)) (aw)))))))))) (D9 3 (bF ((ae 3))))))
theorem qD:∀ ds Q,cz ds Q→gn { nx:=fun _=>Q .aU,rt:=fun d _=>Q d } (bu ["clock","first","end","told","moment"] ds):=by
 rintro ds Q ⟨mi,days,still,u,e,rfl,ok,hu,hue,he,q⟩
 have u0:=P9 ok hu
 have hn:days ≠ []:=fun z=>by subst z; exact absurd hu.2.2.1 (by simp)
 simp! only [gn]
 refine ⟨fun m δ=>∃ l w,δ = [.sh (cR (.al mi days still)),.sh (.int u),.sh (.int e),.ow (iL l),.sh (.int w)]∧m = (e + 1 - w).toNat∧bb (.al mi days still) (u - 1) (w - 1) l∧rg (.al mi days still) w∧u ≤ w∧(∀ x ∈ l,x ≤ e),⟨_,[],u,rfl,rfl,.none (by omega),hu,Int.le_refl _,fun x hx=>absurd hx (by simp)⟩,?_⟩
 rintro m δ ⟨l,w,rfl,rfl,hl,hw,huw,hle⟩
 simp! only [Dl.au]
 have len:l.length ≤ 10000001:=by
  have:=pU hl.rise (a:=u) (b:=e + 1) fun x hx=>by have:=(hl.mem x).mp hx; have:=hle x hx; omega
  omega
 refine fC (fun hc=>?_) (fun hc=>?_)
 ·refine ⟨by rw [List.length_map]; exact Nat.lt_of_le_of_lt len (by decide),mi,days,still,w,rfl,ok,by omega,fun r nx=>?_⟩
  cases r with
  | none =>
   obtain ⟨t,t1,t2⟩:=Km ok hn w
   exact absurd t2 (nx.none rfl t t1)
  | some v =>
   obtain ⟨v1,v2,v3⟩:=nx.some v rfl
   refine ⟨_,(show (e + 1 - v).toNat < (e + 1 - w).toNat by omega),l ++ [w],v,?_,rfl,?_,v2,by omega,fun x hx=>?_⟩
   ·rw [show iL (l ++ [w]) = iL l ++ [.int w] by simp [iL]]; rfl
   ·refine hl.append ?_ (by omega) (by omega)
    refine ⟨List.pairwise_singleton ..,fun t=>?_⟩
    rw [List.mem_singleton]
    constructor
    ·rintro rfl; exact ⟨by omega,by omega,hw⟩
    ·rintro ⟨t1,t2,t3⟩
     by_cases z:t = w
     ·exact z
     ·exact absurd t3 (v3 t (by omega) (by omega))
   ·rcases List.mem_append.mp hx with hx | hx
    ·exact hle x hx
    ·rw [List.mem_singleton] at hx; omega
 ·refine q l ⟨hl.rise,fun t=>?_⟩
  rw [hl.mem]
  constructor
  ·rintro ⟨a,b,c⟩; exact ⟨a,hle t ((hl.mem t).mpr ⟨a,b,c⟩),c⟩
  ·rintro ⟨a,b,c⟩; exact ⟨a,by omega,c⟩
noncomputable def xR:bC:=au (bw 3 ((ay dF ((af ((ae 0)) ((af ((ae 1)) (aw)))))))) (au (fA (Jk (dB (aD Bd ((ae 3)) (dC .aU))) (dB (aD (qr fun i j=>.bl (decide (j < i))) ((ae 3)) ((ae 2))))) (bF ((o7 (aw)))) (b8)) (au (fA (dB (aD gY ((aD (rF eC) ((ae 0)) (dC (.int 0)))) (dC (.str "timer")))) (bF ((o7 ((af ((ae 3)) (aw)))))) (b8)) (au (fA (dB (aD gY ((aD (rF eC) ((ae 0)) (dC (.int 0)))) (dC (.str "every")))) (bF ((xA ((af ((ae 3)) ((af ((aD (rF bD) ((ay dG ((af ((ae 0)) ((af ((ae 2)) (aw))))))) (dC (.int 1)))) ((af ((aD (rF eC) ((ae 0)) (dC (.int 2)))) (aw)))))))))) (b8)) (bF ((ay cz ((af ((ae 0)) ((af ((ae 3)) ((af ((ae 2)) (aw)))))))))))))
theorem EY {b f i:Int} {n:Nat}:ma (b + i * f) f n = listE b f i n:=by
 unfold ma listE
 refine List.map_congr_left fun j _=>?_
 rw [Int.add_mul]; omega
theorem Ks:∀ ds Q,pW ds Q→xR { nx:=fun _=>Q .aU,rt:=fun d _=>Q d } (bu ["clock","start","end","first"] ds):=by
 rintro ds Q ⟨c,a,e,rfl,ok,ha,he,q⟩
 simp! only [xR]
 refine ⟨c,a,rfl,ok,by omega,fun r nx=>?_⟩
 cases r with
 | none =>
  simp! only [aZ,ba]
  exact q [] (nx.nothing fun t e=>nomatch e)
 | some u =>
  obtain ⟨u1,u2,u3⟩:=nx.some u rfl
  simp! only [aZ,ba]
  refine fC (fun h=>q [] (nx.nothing fun t z=>by cases z; exact h)) (fun h=>?_)
  cases c with
  | tm size left o =>
   simp! only [cR]
   refine ⟨vp lC lC,q [u] (nx.rings ⟨.nil,fun t=>⟨fun z=>absurd z (by simp),fun ⟨t1,t2,t3⟩=>?_⟩⟩ (by omega))⟩
   obtain ⟨s,e1,e2⟩:=u2
   obtain ⟨s',e3,e4⟩:=t3
   rw [e1] at e3; cases e3
   omega
  | ev b f m =>
   have Rt:=nx.unique (Dj ok)
   obtain ⟨o1,o2,o3,o4,o5⟩:=id ok
   have hf:0 < f:=by omega
   have A5:¬ m = some (aT b f m a):=fun z=>by rw [if_pos z] at Rt; cases Rt
   rw [if_neg A5] at Rt
   cases Rt
   have na:=jF (b:=b) (f:=f) (m:=m) (t:=a) fun k e=>(o5 k e).1
   obtain ⟨i,i0,ie,ib⟩:=u2
   have xw:aT b f m a < aT b f m e:=by
    have h2:i < aT b f m e:=(bP hf i0).mpr ⟨by omega,ib⟩
    have h3:aT b f m a ≤ i:=by
     by_cases z:i < aT b f m a
     ·have:=(bP (t:=a) hf i0).mp z; omega
     ·omega
    omega
   have hle:=(bP (b:=b) (m:=m) (t:=e) hf (show 0 ≤ aT b f m e - 1 by omega)).mp (by omega)
   have hmul:aT b f m a * f ≤ (aT b f m e - 1) * f:=Int.mul_le_mul_of_nonneg_right (by omega) (by omega)
   have hpos:0 ≤ aT b f m a * f:=Int.mul_nonneg na (by omega)
   simp! only [cR,Ko]
   refine ⟨vp pR lC,vp pR pR,.ev b f m,e,rfl,ok,by omega,fun r hr=>?_⟩
   rw [hr.unique (Dm ok),if_neg (by omega)]
   simp! only [aZ,ba]
   have cnt:t5 (b + aT b f m a * f) (b + (aT b f m e - 1) * f + 1) f = (aT b f m e - aT b f m a).toNat:=by
    unfold t5
    rw [if_pos (by omega)]
    have:b + (aT b f m e - 1) * f + 1 - (b + aT b f m a * f) - 1 = (aT b f m e - 1 - aT b f m a) * f:=by rw [Int.sub_mul (aT b f m e - 1)]; omega
    rw [this,Int.mul_ediv_cancel _ (by omega)]
    congr 1; omega
   have small:(aT b f m e - aT b f m a).toNat ≤ 2 ^ 24:=by
    have h4:(aT b f m e - 1) * 1 ≤ (aT b f m e - 1) * f:=Int.mul_le_mul_of_nonneg_left o3 (by omega)
    have:aT b f m e - 1 ≤ 10000000:=by omega
    have:(2:Nat) ^ 24 = 16777216:=by decide
    omega
   refine ⟨hf,by omega,by omega,by omega,by omega,by omega,by rw [cnt]; exact small,?_⟩
   rw [cnt,EY]
   exact q _ (zP ok)
  | al mi days still =>
   simp! only [cR,Nt,Nu]
   refine ⟨vp vq lC,vp vq pR,mi,days,still,u,e,rfl,ok,u2,by omega,he,fun l hl=>q l ?_⟩
   refine ⟨hl.rise,fun t=>?_⟩
   rw [hl.mem]
   constructor
   ·rintro ⟨x,y,z⟩; exact ⟨by omega,y,z⟩
   ·rintro ⟨x,y,z⟩
    refine ⟨?_,y,z⟩
    by_cases w:t < u
    ·exact absurd z (u3 t x w)
    ·omega
noncomputable def oK:bC:=bF ((ay yH ((af (dC (.int 0)) ((af ((aD (qr fun i j=>.int (i - j)) ((ay fc ((af ((ae 0)) ((af ((ae 2)) (aw))))))) ((ay fc ((af ((ae 0)) ((af ((ae 1)) (aw))))))))) (aw)))))))
theorem Cg:∀ ds Q,iT ds Q→oK { nx:=fun _=>Q .aU,rt:=fun d _=>Q d } (bu ["clock","start","end"] ds):=by
 rintro ds Q ⟨c,a,e,rfl,ok,ha,hae,q⟩
 simp! only [oK]
 refine ⟨c,e,rfl,ok,fun n hn=>⟨c,a,rfl,ok,fun m hm=>?_⟩⟩
 simp! only [Dl.au]
 obtain ⟨l,hl⟩:=fe c a e
 have:=HM hm hn hl ha hae
 rw [this,show max 0 ((l.length:Nat):Int) = (l.length:Nat) by omega]
 exact q l hl
end rV
namespace rV
open PySem L2 Dl Rg
noncomputable def Ru:Ck→Prop
 | .tm size left o=>0 ≤ size∧size < 40∧0 ≤ left∧left < 40∧∀ s,o = some s→0 ≤ s∧s < 9
 | .ev b f m=>0 ≤ b∧b < 40∧1 ≤ f∧f ≤ 12∧∀ k,m = some k→0 ≤ k∧k < 9
 | .al mi days still=>0 ≤ mi∧mi < 40∧fB days∧(∀ d ∈ days,0 ≤ d∧d < 7)∧fB still∧still.length ≤ 3∧∀ t ∈ still,0 ≤ t∧t ≤ 20000
theorem Ru.ok {c:Ck} (h:Ru c):Ok c:=by
 cases c with
 | tm size left o=>obtain ⟨a,b,c,d,e⟩:=h; exact ⟨c,by omega,fun s z=>by have:=e s z; omega⟩
 | ev b f m=>obtain ⟨a,b,c,d,e⟩:=h; exact ⟨a,by omega,c,by omega,fun s z=>by have:=e s z; omega⟩
 | al mi days still=>obtain ⟨a,b,c,d,e,f,g⟩:=h; exact ⟨a,by omega,c,d,e,by omega,fun t z=>by have:=g t z; omega⟩
theorem Ci (n:Nat):fB ((List.range n).map fun i=>0 + ((i:Nat):Int)):=by
 unfold fB
 rw [List.pairwise_map]
 exact List.pairwise_lt_range.imp fun {x y} h=>by omega
noncomputable def uv (ns:List Int) (k:Int):List Int:=(List.range (drawn ns (k + 4) 4).toNat).map fun i=>drawn ns (k + 12 + (0 + ((i:Nat):Int))) 14 * 1440 + drawn ns (k + 1) 40
noncomputable def HN (ns:List Int) (k:Int):List Int:=((List.range 7).map fun i=>0 + ((i:Nat):Int)).filter fun d=>decide (drawn ns (k + 5 + d) 3 = 0)
noncomputable def rz (ns:List Int) (k:Int):Option Int:=if drawn ns (k + 4) 2 = 0 then none else some (drawn ns (k + 3) 9)
noncomputable def rA (ns:List Int) (k:Int) (c:Ck):Prop:=(drawn ns k 3 = 0∧c = .tm (drawn ns (k + 1) 40) (drawn ns (k + 2) 40) (rz ns k))∨(drawn ns k 3 = 1∧c = .ev (drawn ns (k + 1) 40) (1 + drawn ns (k + 2) 12) (rz ns k)) ∨
 (drawn ns k 3 ≠ 0∧drawn ns k 3 ≠ 1∧∃ ms,fB ms∧(∀ t,t ∈ ms ↔ t ∈ uv ns k)∧c = .al (drawn ns (k + 1) 40) (HN ns k) ms)
theorem rA.unique {ns:List Int} {k:Int} {c d:Ck} (h:rA ns k c) (g:rA ns k d):c = d:=by
 rcases h with ⟨h1,h2⟩ | ⟨h1,h2⟩ | ⟨h1,h2,ms,h3,h4,h5⟩ <;> rcases g with ⟨g1,g2⟩ | ⟨g1,g2⟩ | ⟨g1,g2,ns',g3,g4,g5⟩
 ·rw [h2,g2]
 ·omega
 ·exact absurd h1 g1
 ·omega
 ·rw [h2,g2]
 ·exact absurd h1 g2
 ·exact absurd g1 h1
 ·exact absurd g1 h2
 ·rw [h5,g5,pN h3 g3 fun t=>(h4 t).trans (g4 t).symm]
theorem z8 {ns:List Int} {k:Int}:∀ s,rz ns k = some s→0 ≤ s∧s < 9:=fun s e=>by
 unfold rz at e
 split at e
 ·cases e
 ·cases e; exact ⟨fI (by decide),fJ (by decide)⟩
theorem rA.drn {ns:List Int} {k:Int} {c:Ck} (h:rA ns k c):Ru c:=by
 have o0:=fI (ns:=ns) (k:=k + 1) (m:=40) (by decide)
 have o1:=fJ (ns:=ns) (k:=k + 1) (m:=40) (by decide)
 rcases h with ⟨h1,rfl⟩ | ⟨h1,rfl⟩ | ⟨h1,h2,ms,h3,h4,rfl⟩
 ·exact ⟨o0,o1,fI (by decide),fJ (by decide),z8⟩
 ·have a0:=fI (ns:=ns) (k:=k + 2) (m:=12) (by decide)
  have a1:=fJ (ns:=ns) (k:=k + 2) (m:=12) (by decide)
  exact ⟨o0,o1,by omega,by omega,z8⟩
 ·have n40:=fI (ns:=ns) (k:=k + 4) (m:=4) (by decide)
  have n41:=fJ (ns:=ns) (k:=k + 4) (m:=4) (by decide)
  refine ⟨o0,o1,cH (Ci 7) _,fun d hd=>?_,h3,?_,fun t ht=>?_⟩
  ·unfold HN at hd
   rw [List.mem_filter] at hd
   obtain ⟨i,hi,rfl⟩:=List.mem_map.mp hd.1
   rw [List.mem_range] at hi
   omega
  ·have nd:ms.Nodup:=h3.imp fun {a b} h=>by omega
   refine Nat.le_trans (zQ nd fun t ht=>(h4 t).mp ht) ?_
   unfold uv; rw [List.length_map,List.length_range]; omega
  ·obtain ⟨i,hi,rfl⟩:=List.mem_map.mp ((h4 t).mp ht)
   have h1:=fI (ns:=ns) (k:=k + 12 + (0 + ((i:Nat):Int))) (m:=14) (by decide)
   have h2:=fJ (ns:=ns) (k:=k + 12 + (0 + ((i:Nat):Int))) (m:=14) (by decide)
   omega
open Classical in
noncomputable def xS (ns:List Int) (k:Int):Ck:=if h:∃ c,rA ns k c then choose h else .tm 0 0 none
theorem xT {ns:List Int} {k:Int} {c:Ck} (h:rA ns k c):c = xS ns k:=by
 unfold xS; rw [dif_pos ⟨c,h⟩]; exact h.unique (Classical.choose_spec (⟨c,h⟩:∃ c,rA ns k c))
theorem HP (ns:List Int) (k:Int):Ru (xS ns k):=by
 unfold xS
 split
 ·rename_i h; exact (Classical.choose_spec h).drn
 ·exact ⟨by decide,by decide,by decide,by decide,fun s e=>nomatch e⟩
theorem jq {ns:List Int} {k m:Int} {Q:D→Prop} (hl:ns.length ≤ 63) (hk:0 ≤ k) (hm:0 < m) (q:∀ x,x = drawn ns k m→0 ≤ x→x < m→Q (.int x)):aO [Nn ns,.int k,.int m] Q :=
 ⟨ns,k,m,rfl,hl,hk,hm,q _ rfl (fI hm) (fJ hm)⟩
noncomputable def gK:qm:=fun ds Q=>∃ ns k,ds = [Nn ns,.int k]∧ns.length ≤ 63∧0 ≤ k∧Q (cR (xS ns k))
theorem z9:∀ ds Q,gK ds Q→ds.length = 2:=by rintro ds Q ⟨_,_,rfl,_⟩; rfl
noncomputable def nL:bC:=bF ((tQ ((af (dC (.str "alarm")) ((af ((ae 3)) ((af ((ae 5)) ((af ((ay ni ((af ((ay pD ((af ((ae 6)) (aw))))) (aw))))) (aw)))))))))))
noncomputable def nN:bC:=au (bw 6 ((dz 1 (jz ((af ((ay aO ((af ((ae 0)) ((af ((aD (rF bD) ((ae 1)) (dC (.int 4)))) ((af (dC (.int 4)) (aw))))))))) (aw)))) (cK 7) (xu) ((aD (rF bD) ((aD (jV lz fun i j=>.int (i * j)) ((ay aO ((af ((ae 0)) ((af ((aD (rF bD) ((aD (rF bD) ((ae 1)) (dC (.int 12)))) ((ae 7)))) ((af (dC (.int 14)) (aw))))))))) (dC (.int 1440)))) ((ae 3))))))) (nL)
noncomputable def nO:bC:=au (bw 5 ((ay ni ((af ((dz 1 (jz ((af (dC (.int 7)) (aw)))) (cK 7) (dB (aD gY ((ay aO ((af ((ae 0)) ((af ((aD (rF bD) ((aD (rF bD) ((ae 1)) (dC (.int 5)))) ((ae 7)))) ((af (dC (.int 3)) (aw))))))))) (dC (.int 0)))) ((ae 7)))) (aw)))))) (nN)
noncomputable def nP:bC:=au (fA (dB (aD gY ((ae 2)) (dC (.int 1)))) (bF ((tQ ((af (dC (.str "every")) ((af ((ae 3)) ((af ((aD (rF bD) (dC (.int 1)) ((ay aO ((af ((ae 0)) ((af ((aD (rF bD) ((ae 1)) (dC (.int 2)))) ((af (dC (.int 12)) (aw))))))))))) ((af ((ae 4)) (aw)))))))))))) (b8)) (nO)
noncomputable def nQ:bC:=au (fA (dB (aD gY ((ae 2)) (dC (.int 0)))) (bF ((tQ ((af (dC (.str "timer")) ((af ((ae 3)) ((af ((ay aO ((af ((ae 0)) ((af ((aD (rF bD) ((ae 1)) (dC (.int 2)))) ((af (dC (.int 40)) (aw))))))))) ((af ((ae 4)) (aw)))))))))))) (b8)) (nP)
noncomputable def nR:bC:=au (bw 4 ((aD (rF eC) ((o7 ((af (dC .aU) ((af ((ay aO ((af ((ae 0)) ((af ((aD (rF bD) ((ae 1)) (dC (.int 3)))) ((af (dC (.int 9)) (aw))))))))) (aw))))))) ((ay aO ((af ((ae 0)) ((af ((aD (rF bD) ((ae 1)) (dC (.int 4)))) ((af (dC (.int 2)) (aw)))))))))))) (nQ)
noncomputable def nT:bC:=au (bw 3 ((ay aO ((af ((ae 0)) ((af ((aD (rF bD) ((ae 1)) (dC (.int 1)))) ((af (dC (.int 40)) (aw)))))))))) (nR)
noncomputable def mB:bC:=au (bw 2 ((ay aO ((af ((ae 0)) ((af ((ae 1)) ((af (dC (.int 3)) (aw)))))))))) (nT)
theorem Qa {x:D} {z:Int} (h0:0 ≤ z) (h1:z < 2):oV [D.aU,x] z = some (if z = 0 then D.aU else x):=by
 by_cases h:z = 0
 ·subst h; rfl
 ·have:z = 1:=by omega
  subst this; rfl
theorem Aa:∀ ds Q,gK ds Q→mB { nx:=fun _=>Q .aU,rt:=fun d _=>Q d } (bu ["_law_script","_law_at","_law_way","_law_one","_law_last","_law_days","_law_still"] ds):=by
 rintro ds Q ⟨ns,k,rfl,hl,hk,q⟩
 simp! only [mB,nT,nR,nQ]
 refine jq hl hk (by decide) fun way ew w0 w1=>?_
 refine jq hl (by omega) (by decide) fun one Kt o0 o1=>?_
 refine jq hl (by omega) (by decide) fun la ela l0 l1=>?_
 refine jq hl (by omega) (by decide) fun z ez z0 z1=>?_
 simp! only [Dl.au]
 refine ⟨_,Qa z0 z1,?_⟩
 have eo:(if z = 0 then D.aU else D.int la) = oi (rz ns k):=by
  unfold rz
  rw [← ez,← ela]
  by_cases h:z = 0
  ·rw [if_pos h,if_pos h]; rfl
  ·rw [if_neg h,if_neg h]; rfl
 rw [eo]
 refine fC (fun hw=>?_) (fun hw=>?_)
 ·refine jq hl (by omega) (by decide) fun left el a0 a1=>?_
  have:=xT (ns:=ns) (k:=k) (c:=.tm one left (rz ns k)) (.inl ⟨by omega,by rw [Kt,el]⟩)
  rw [← this] at q
  exact q
 simp! only [nP]
 refine fC (fun hw2=>?_) (fun hw2=>?_)
 ·refine jq hl (by omega) (by decide) fun far el a0 a1=>?_
  simp! only [Dl.au]
  have:=xT (ns:=ns) (k:=k) (c:=.ev one (1 + far) (rz ns k)) (.inr (.inl ⟨by omega,by rw [Kt,el]⟩))
  rw [← this] at q
  exact q
 simp! only [nO,nN]
 refine eF (bU 0 7) (nJ fun d=>decide (drawn ns (k + 5 + d) 3 = 0)) (fun Q h=>?_) (fun d hd=>?_) ?_ ?_
 ·simp! only [Dl.au]
  exact ⟨by decide,by decide,h⟩
 ·rw [b9] at hd
  obtain ⟨x,hx,rfl⟩:=List.mem_map.mp hd
  obtain ⟨i,hi,rfl⟩:=List.mem_map.mp hx
  simp! only [Dl.au]
  refine ⟨ns,_,_,rfl,hl,by omega,by decide,?_⟩
  simp! only [Dl.au]
  exact fC (fun h=>jG (by simpa using h)) (fun h=>jH (by simpa using h))
 ·refine Nat.le_trans (List.length_filterMap_le ..) ?_
  simp only [bU,List.length_map,List.length_range]
  decide
 rw [b9,gj]
 simp! only [Dl.au]
 obtain ⟨n4,e4⟩ : ∃ n,n = drawn ns (k + 4) 4:=⟨_,rfl⟩
 have n40:0 ≤ n4:=by rw [e4]; exact fI (by decide)
 have n41:n4 < 4:=by rw [e4]; exact fJ (by decide)
 refine eF (bU 0 n4.toNat) (HK fun j=>.int (drawn ns (k + 12 + j) 14 * 1440 + one)) (fun Q h=>?_) (fun d hd=>?_) ?_ ?_
 ·simp! only [Dl.au]
  refine ⟨ns,_,_,rfl,hl,by omega,by decide,?_⟩
  simp! only [← e4]
  exact ⟨by omega,by omega,h⟩
 ·rw [b9] at hd
  obtain ⟨x,hx,rfl⟩:=List.mem_map.mp hd
  obtain ⟨i,hi,rfl⟩:=List.mem_map.mp hx
  simp! only [Dl.au]
  refine ⟨ns,_,_,rfl,hl,by omega,by decide,?_⟩
  simp! only [Dl.au]
  exact ⟨.inr ⟨by decide,by decide⟩,rfl⟩
 ·refine Nat.le_trans (List.length_filterMap_le ..) ?_
  simp only [bU,List.length_map,List.length_range]
  exact Nat.le_trans (show n4.toNat ≤ 4 by omega) (by decide)
 rw [b9,ny]
 have es:List.map (fun j=>D.int (drawn ns (k + 12 + j) 14 * 1440 + one)) ((List.range n4.toNat).map fun i=>0 + ((i:Nat):Int)) = iL ((List.range n4.toNat).map fun i=>drawn ns (k + 12 + (0 + ((i:Nat):Int))) 14 * 1440 + one):=by
  unfold iL; rw [List.map_map,List.map_map]; rfl
 rw [es]
 have ZR:((List.range n4.toNat).map fun i=>drawn ns (k + 12 + (0 + ((i:Nat):Int))) 14 * 1440 + one) = uv ns k:=by rw [e4,Kt]; rfl
 have Rv:(uv ns k).length ≤ 3:=by rw [← ZR,List.length_map,List.length_range]; omega
 rw [ZR]
 simp! only [nL]
 refine ⟨uv ns k,nr _,by omega,fun ms r1 r2=>?_⟩
 have:=xT (ns:=ns) (k:=k) (c:=.al one (HN ns k) ms) (.inr (.inr ⟨by omega,by omega,ms,r1,r2,by rw [Kt]⟩))
 rw [← this] at q
 exact q
end rV
namespace rV
open PySem L2 Dl
noncomputable def Um (o:Option Int) (now:Int):Prop:=∀ s,o = some s→s ≤ now
noncomputable def bS:qm:=fun ds Q=>∃ o now,ds = [oi o,.int now]∧Um o now∧Q .aU
theorem uw:∀ ds Q,bS ds Q→ds.length = 2:=by rintro ds Q ⟨_,_,rfl,_⟩; rfl
noncomputable def fM:bC:=fA (A7 (dB (aD lY ((ae 0)) (dC .aU))) (dB (aD (qr fun i j=>.bl (decide (i < j))) ((ae 1)) ((ae 0))))) (tS) (b8)
theorem ux:∀ ds Q,bS ds Q→fM { nx:=fun _=>Q .aU,rt:=fun d _=>Q d } (bu ["earlier","now"] ds):=by
 rintro ds Q ⟨o,now,rfl,h,q⟩
 cases o with
 | none=>simp! only [fM,aZ,ba]; exact q
 | some s =>
  have:=h s rfl
  simp! only [fM,aZ,ba]
  rw [if_neg (by simpa using this)]
  exact q
end rV
namespace rV
open PySem L2 Dl Rg
theorem Uo (i:Nat):([i]:List Nat).Nodup = True:=eq_true (by simp)
theorem bA {n:Nat} (h:n ≤ 10000000):n < sizeLine:=by rw [sizeLine_eq]; omega
structure Hs where
 re:Int
 cl:List (Str × Ck)
 sl:Bool
noncomputable def kc (p:Str × Ck):Key × D:=(Sum.inr p.1,cR p.2)
noncomputable def Hs.fs (h:Hs):List (Str × Fl):=[("reached",.sh (.int h.re)),("clocks",.dc (h.cl.map kc)),("asleep",.sh (.bl h.sl))]
noncomputable def Hs.fz (h:Hs) (q:Nat):List (Str × Fl):=[("reached",.sh (.int h.re)),("clocks",.fz q (h.cl.map kc)),("asleep",.sh (.bl h.sl))]
section
variable (h:Hs) (q:Nat)
theorem Hs.Nw:h.fs.lookup ("reached":Str) = some (.sh (.int h.re)):=rfl
theorem Hs.HQ:h.fs.lookup ("clocks":Str) = some (.dc (h.cl.map kc)):=rfl
theorem Hs.Qb:h.fs.lookup ("asleep":Str) = some (.sh (.bl h.sl)):=rfl
theorem Hs.Nx:(h.fz q).lookup ("reached":Str) = some (.sh (.int h.re)):=rfl
theorem Hs.EZ:(h.fz q).lookup ("clocks":Str) = some (.fz q (h.cl.map kc)):=rfl
theorem Hs.Uq:(h.fs.length < 999) = True:=eq_true (by show 3 < 999; decide)
theorem Hs.Ur (l:List (Str × Ck)):eE "clocks" (.dc (l.map kc)) h.fs = Hs.fs { h with cl:=l }:=rfl
theorem Hs.Ny:eE "clocks" (.fz q (h.cl.map kc)) h.fs = h.fz q:=rfl
theorem Hs.HR:eE "clocks" (.dc (h.cl.map kc)) (h.fz q) = h.fs:=rfl
theorem Hs.Qc (x:Int):eE "reached" (.sh (.int x)) h.fs = Hs.fs { h with re:=x }:=rfl
theorem Hs.Nz:h.fs.lookup ("refuse_asleep":Str) = none:=rfl
theorem Hs.Qe (x:Bool):eE "asleep" (.sh (.bl x)) h.fs = Hs.fs { h with sl:=x }:=rfl
end
noncomputable def HS (l:List (Str × Ck)) (x:Str) (c:Ck):List (Str × Ck):=if (l.any fun p=>decide (p.1 = x)) = true then l.map (fun p=>if p.1 = x then (p.1,c) else p) else l ++ [(x,c)]
theorem Dn {x y:Str}:((Sum.inr x:Key) = Sum.inr y) ↔ x = y:=⟨fun h=>by injection h,fun h=>by rw [h]⟩
theorem HU (x:Str):∀ l:List (Str × Ck),((l.map kc).any fun kv=>decide (kv.1 = .inr x)) = l.any fun p=>decide (p.1 = x)
 | []=>rfl
 | p :: r=>by
  rw [List.map_cons,List.any_cons,List.any_cons,HU x r]
  congr 1
  exact decide_eq_decide.mpr Dn
theorem Ku (x:Str) (c:Ck) (l:List (Str × Ck)):putD (l.map kc) (.inr x) (cR c) = (HS l x c).map kc:=by
 unfold putD HS
 rw [HU]
 split
 ·rw [List.map_map,List.map_map]
  refine List.map_congr_left fun p _=>?_
  show (if (kc p).1 = Sum.inr x then _ else _) = kc (if p.1 = x then _ else _)
  have e:(kc p).1 = Sum.inr x ↔ p.1 = x:=Dn
  by_cases h:p.1 = x
  ·rw [if_pos h,if_pos (e.mpr h)]; rfl
  ·rw [if_neg h,if_neg (fun z=>h (e.mp z))]
 ·rw [List.map_append]; rfl
noncomputable def dH (c:Ck) (a e:Int):List Int:=Classical.choose (fe c a e)
theorem jI (c:Ck) (a e:Int):bb c a e (dH c a e):=Classical.choose_spec (fe c a e)
theorem qE {c:Ck} {a e:Int} {l:List Int} (h:bb c a e l):l = dH c a e:=h.unique (jI c a e)
open Classical in
noncomputable def cv (c:Ck) (t:Int):Option Int:=if h:∃ r,cy c t r then choose h else none
theorem HV {c:Ck} {t:Int} {r:Option Int} (h:cy c t r):r = cv c t:=by
 unfold cv
 rw [dif_pos ⟨r,h⟩]
 exact h.unique (Classical.choose_spec (⟨r,h⟩:∃ r,cy c t r))
noncomputable def KS (ms:List (List Key)):Prop:=ms.Pairwise fun a b=>klt b a = false
noncomputable def cA (cl:List (Str × Ck)) (a e:Int):List (List Key):=cl.flatMap fun p=>(dH p.2 a e).map fun t=>[.inl t,.inr p.1]
noncomputable def nU (a e:Int) (p:Str × Ck):Option (List Key):=(dH p.2 a e).getLast?.map fun t=>[.inr p.1,.inl t,.inl ((dH p.2 a e).length:Nat)]
noncomputable def fN (cl:List (Str × Ck)) (a e:Int):List (List Key):=cl.filterMap (nU a e)
theorem mC {cl:List (Str × Ck)} {a e:Int}:∀ k ∈ cA cl a e,u5 k = [false,true]:=fun k hk=>by
 obtain ⟨p,_,hk⟩:=List.mem_flatMap.mp hk
 obtain ⟨t,_,rfl⟩:=List.mem_map.mp hk
 rfl
theorem mD {cl:List (Str × Ck)} {a e:Int}:∀ k ∈ fN cl a e,u5 k = [true,false,false]:=fun k hk=>by
 obtain ⟨p,_,hk⟩:=List.mem_filterMap.mp hk
 unfold nU at hk
 cases q:(dH p.2 a e).getLast? with
 | none=>rw [q] at hk; cases hk
 | some t=>rw [q] at hk; cases hk; rfl
theorem jJ {sh:List Bool}:∀ {l m:List (List Key)},l.Perm m→(∀ k ∈ l,u5 k = sh)→KS l→KS m→l = m
 | [],m,h,_,_,_=>by rw [List.nil_perm.mp h]
 | a :: l,[],h,_,_,_=>by cases h.length_eq
 | a :: l,b :: m,h,hs,h1,h2=>by
  have g1:=List.pairwise_cons.mp h1
  have g2:=List.pairwise_cons.mp h2
  have sa:u5 a = sh:=hs a List.mem_cons_self
  have sb:u5 b = sh:=hs b (h.mem_iff.mpr List.mem_cons_self)
  have e:a = b:=by
   rcases List.mem_cons.mp (h.mem_iff.mp (List.mem_cons_self (a:=a) (l:=l))) with z | z
   ·exact z
   ·rcases List.mem_cons.mp (h.mem_iff.mpr (List.mem_cons_self (a:=b) (l:=m))) with w | w
    ·exact w.symm
    ·exact Hh a b (sa.trans sb.symm) (g2.1 a z) (g1.1 b w)
  subst e
  rw [jJ (List.Perm.cons_inv h) (fun k hk=>hs k (List.mem_cons_of_mem _ hk)) g1.2 g2.2]
theorem uy {cl cm:List (Str × Ck)} (h:cl.Perm cm) (a e:Int):(cA cl a e).Perm (cA cm a e):=h.flatMap_right _
theorem uz {cl cm:List (Str × Ck)} (h:cl.Perm cm) (a e:Int):(fN cl a e).Perm (fN cm a e):=h.filterMap _
theorem qF (cl cm:List (Str × Ck)) (a e:Int):cA (cl ++ cm) a e = cA cl a e ++ cA cm a e:=List.flatMap_append ..
theorem qG (cl cm:List (Str × Ck)) (a e:Int):fN (cl ++ cm) a e = fN cl a e ++ fN cm a e:=List.filterMap_append ..
theorem wD {cl:List (Str × Ck)} {a e:Int}:(cA cl a e).length ≤ cl.length * (e - a).toNat:=by
 induction cl with
 | nil=>simp [cA]
 | cons p r ih =>
  have e1:cA (p :: r) a e = ((dH p.2 a e).map fun t=>[.inl t,.inr p.1]) ++ cA r a e:=by unfold cA; rw [List.flatMap_cons]
  have:=wC (jI p.2 a e)
  rw [e1,List.length_append,List.length_map,List.length_cons,Nat.add_mul]; omega
noncomputable def cf (C:Nat):zl:=fun as Q=>∃ now:Int,as = [.o C [],.v (.int now)]∧Q .aU [.o C (Hs.fs ⟨now,[],false⟩),.v (.int now)]
noncomputable def aM (C:Nat):zl:=fun as Q=>∃ h:Hs,as = [.o C h.fs]∧h.sl = false∧Q .aU [.o C h.fs]
noncomputable def dI (C:Nat):zl:=fun as Q=>∃ (h:Hs) (x:Str) (c:Ck),as = [.o C h.fs,.v (.str x),.v (cR c)]∧h.sl = false∧h.cl.length < 1000∧Q .aU [.o C (Hs.fs { h with cl:=HS h.cl x c }),.v (.str x),.v (cR c)]
noncomputable def bM (C:Nat):zl:=fun as Q=>∃ (h:Hs) (now:Int),as = [.o C h.fs,.v (.int now)]∧h.sl = false∧h.re ≤ now∧now ≤ 10000000∧now ≤ h.re + 10000∧h.cl.length ≤ 100∧(∀ p ∈ h.cl,Ok p.2) ∧
 ∀ ms,ms.Perm (cA h.cl h.re now)→KS ms→Q (.lst (ms.map tD)) [.o C (Hs.fs { h with re:=now }),.v (.int now)]
noncomputable def cg (C:Nat):zl:=fun as Q=>∃ (h:Hs) (now:Int),as = [.o C h.fs,.v (.int now)]∧h.sl = true∧-1 ≤ h.re∧h.re ≤ now∧now ≤ 10000000∧h.cl.length ≤ 100∧(∀ p ∈ h.cl,Ok p.2) ∧
 ∀ ms,ms.Perm (fN h.cl h.re now)→KS ms→Q (.lst (ms.map tD)) [.o C (Hs.fs { h with re:=now,sl:=false }),.v (.int now)]
noncomputable def ck (C:Nat):zl:=fun as Q=>∃ h:Hs,as = [.o C h.fs]∧h.sl = false∧Q .aU [.o C (Hs.fs { h with sl:=true })]
noncomputable def dJ (C:Nat):zl:=fun as Q=>∃ h:Hs,as = [.o C h.fs]∧Q (.int h.re) [.o C h.fs]
noncomputable def cq (C:Nat):zl:=fun as Q=>∃ h:Hs,as = [.o C h.fs]∧h.cl.length < 60∧∀ ms:List Str,ms.Perm (h.cl.map (·.1))→C5 ms→Q (.lst (ms.map .str)) [.o C h.fs]
noncomputable def oM (cl:List (Str × Ck)) (t m:Int):List Str:=(cl.filter fun p=>decide (cv p.2 t = some m)).map (·.1)
noncomputable def br (C:Nat):zl:=fun as Q=>∃ h:Hs,as = [.o C h.fs]∧h.re ≤ 10000000∧h.cl.length < 60∧(∀ p ∈ h.cl,Ok p.2)∧((∀ p ∈ h.cl,cv p.2 h.re = none)→Q .aU [.o C h.fs]) ∧
 ∀ m,(∃ p ∈ h.cl,cv p.2 h.re = some m)→(∀ p ∈ h.cl,∀ u,cv p.2 h.re = some u→m ≤ u)→∀ ns:List Str,ns.Perm (oM h.cl h.re m)→C5 ns→Q (.tup [.int m,.lst (ns.map .str)]) [.o C h.fs]
theorem xU (C:Nat):∀ as Q,cf C as Q→as.length = 2:=by rintro as Q ⟨_,rfl,_⟩; rfl
theorem lD (C:Nat):∀ as Q,aM C as Q→as.length = 1:=by rintro as Q ⟨_,rfl,_⟩; rfl
theorem Ab (C:Nat):∀ as Q,dI C as Q→as.length = 3:=by rintro as Q ⟨_,_,_,rfl,_⟩; rfl
theorem xV (C:Nat):∀ as Q,bM C as Q→as.length = 2:=by rintro as Q ⟨_,_,rfl,_⟩; rfl
theorem xW (C:Nat):∀ as Q,cg C as Q→as.length = 2:=by rintro as Q ⟨_,_,rfl,_⟩; rfl
theorem vt (C:Nat):∀ as Q,ck C as Q→as.length = 1:=by rintro as Q ⟨_,rfl,_⟩; rfl
theorem uA (C:Nat):∀ as Q,dJ C as Q→as.length = 1:=by rintro as Q ⟨_,rfl,_⟩; rfl
theorem vv (C:Nat):∀ as Q,cq C as Q→as.length = 1:=by rintro as Q ⟨_,rfl,_⟩; rfl
theorem qH (C:Nat):∀ as Q,br C as Q→as.length = 1:=by rintro as Q ⟨_,rfl,_⟩; rfl
noncomputable def ky (ab:Nat):bC:=au (rk ab 0 "reached" ((ae 1))) (au (Ha ab 0 "clocks") (rk ab 0 "asleep" (dC (.bl false))))
theorem xX (C:Nat):∀ (hs:Nat→Nat) as Q,cf C as Q→ky C { nx:=fun δ=>Q .aU (fX hs 0 as δ),rt:=fun d δ=>Q d (fX hs 0 as δ) } (fE ["self","now"] hs as):=by
 rintro hs as Q ⟨now,rfl,q⟩
 simp! only [ky]
 exact ⟨by decide,(by show (1:Nat) < 999; decide),(by show (2:Nat) < 999; decide),q⟩
noncomputable def di (ab:Nat):bC:=fA (nG ((dX ((uc ab 0 "asleep"))))) (tS) (b8)
theorem lF (C:Nat):∀ (hs:Nat→Nat) as Q,aM C as Q→di C { nx:=fun δ=>Q .aU (fX hs 0 as δ),rt:=fun d δ=>Q d (fX hs 0 as δ) } (fE ["self"] hs as):=by
 rintro hs as Q ⟨h,rfl,hs',q⟩
 simp! only [di,Hs.Qb,hs']
 exact q
noncomputable def mE (ab:Nat):bC:=au (jy ((vZ 0 ab "refuse_asleep" (aM ab) (GS)))) (CZ ab 0 "clocks" ((GU 2)) ((GU 1)))
theorem Ac (C:Nat):∀ (hs:Nat→Nat) as Q,dI C as Q→mE C { nx:=fun δ=>Q .aU (fX hs 0 as δ),rt:=fun d δ=>Q d (fX hs 0 as δ) } (fE ["self","name","clock"] hs as):=by
 rintro hs as Q ⟨h,x,c,rfl,hs',hl,q⟩
 simp! only [mE,Hs.Nz,Uo]
 refine ⟨h,rfl,hs',?_⟩
 simp! only [Hs.HQ]
 refine ⟨by rw [List.length_map]; exact bA (by omega),?_⟩
 rw [Ku,Hs.Ur]
 exact q
noncomputable def jr (ab:Nat):bC:=au (jy ((vZ 0 ab "refuse_asleep" (aM ab) (GS)))) (rk ab 0 "asleep" (dC (.bl true)))
theorem vw (C:Nat):∀ (hs:Nat→Nat) as Q,ck C as Q→jr C { nx:=fun δ=>Q .aU (fX hs 0 as δ),rt:=fun d δ=>Q d (fX hs 0 as δ) } (fE ["self"] hs as):=by
 rintro hs as Q ⟨h,rfl,hs',q⟩
 simp! only [jr,Hs.Nz,Uo]
 refine ⟨h,rfl,hs',?_⟩
 simp! only [Hs.Uq,Hs.Qe]
 exact q
noncomputable def iU (ab:Nat):bC:=bF ((dX ((uc ab 0 "reached"))))
theorem uB (C:Nat):∀ (hs:Nat→Nat) as Q,dJ C as Q→iU C { nx:=fun δ=>Q .aU (fX hs 0 as δ),rt:=fun d δ=>Q d (fX hs 0 as δ) } (fE ["self"] hs as):=by
 rintro hs as Q ⟨h,rfl,q⟩
 simp! only [iU,Hs.Nw]
 exact q
noncomputable def js (ab:Nat):bC:=bF ((xH ab 0 "clocks"))
theorem vz (C:Nat):∀ (hs:Nat→Nat) as Q,cq C as Q→js C { nx:=fun δ=>Q .aU (fX hs 0 as δ),rt:=fun d δ=>Q d (fX hs 0 as δ) } (fE ["self"] hs as):=by
 rintro hs as Q ⟨h,rfl,hl,q⟩
 simp! only [js,Hs.HQ]
 refine ⟨h.cl.map (·.1),?_,by rw [List.length_map]; omega,fun ms p1 p2=>q ms p1 p2⟩
 rw [List.map_map,List.map_map]; rfl
end rV
namespace rV
open PySem L2 Dl Rg
theorem qI {cl:List (Str × Ck)} {j:Nat} {d:D} (h:(fG (cl.map kc))[j]? = some d):∃ p,cl[j]? = some p∧d = .tup [.str p.1,cR p.2]:=by
 unfold fG at h
 rw [List.getElem?_map,List.getElem?_map] at h
 cases e:cl[j]? with
 | none=>rw [e] at h; cases h
 | some p=>rw [e] at h; cases h; exact ⟨p,rfl,rfl⟩
theorem qJ (cl:List (Str × Ck)):(fG (cl.map kc)).length = cl.length:=by simp [fG]
theorem take_snoc {α:Type} {l:List α} {j:Nat} {p:α} (h:l[j]? = some p):l.take (j + 1) = l.take j ++ [p]:=by rw [List.take_add_one,h]; rfl
theorem wF (p:Str × Ck) (a e:Int):cA [p] a e = (dH p.2 a e).map fun t=>[.inl t,.inr p.1]:=by unfold cA; rw [List.flatMap_cons,List.flatMap_nil,List.append_nil]
theorem wG (p:Str × Ck) (a e:Int):fN [p] a e = (nU a e p).toList:=by
 unfold fN
 cases q:nU a e p <;> simp [List.filterMap_cons,q]
noncomputable def mF (ab:Nat):bC:=bF ((ay km ((af ((ae 2)) (aw)))))
noncomputable def mG (ab:Nat):bC:=D9 2 (au (rk ab 0 "reached" ((ae 1))) ((mF ab)))
noncomputable def mH (ab:Nat):bC:=au (N5 ab 0 "clocks" (tV (nu ab 0 "clocks") (jo 3 4) (JK 2 ((dz 1 (dw ((ay pW ((af ((ae 4)) ((af ((dX ((uc ab 0 "reached")))) ((af ((ae 1)) (aw)))))))))) (cK 5) (xu) ((tQ ((af ((ae 5)) ((af ((ae 3)) (aw)))))))))))) ((mG ab))
noncomputable def mI (ab:Nat):bC:=au (FT 2 (aw)) ((mH ab))
noncomputable def mJ (ab:Nat):bC:=au (jy ((ay bS ((af ((dX ((uc ab 0 "reached")))) ((af ((ae 1)) (aw)))))))) ((mI ab))
noncomputable def kz (ab:Nat):bC:=au (jy ((vZ 0 ab "refuse_asleep" (aM ab) (GS)))) ((mJ ab))
theorem xY (C:Nat):∀ (hs:Nat→Nat) as Q,bM C as Q→kz C { nx:=fun δ=>Q .aU (fX hs 0 as δ),rt:=fun d δ=>Q d (fX hs 0 as δ) } (fE ["self","now","told","name","clock"] hs as):=by
 rintro hs as Q ⟨h,now,rfl,Rv,Lq,Ae,hgap,Nh,bE,q⟩
 simp! only [kz,mJ,mI,mH,mG,mF,Hs.Nz,Uo]
 refine ⟨h,rfl,Rv,?_⟩
 simp! only [Hs.Nw]
 refine ⟨some h.re,now,rfl,fun s e=>by cases e; exact Lq,?_⟩
 simp! only [Hs.HQ,Hs.Ny]
 intro fq
 refine j7 (fun j δ=>∃ (s3 s4:Sl),δ = [.ob (some (hs 0)) C (h.fz fq),.sh (.int now),.ow ((cA (h.cl.take j) h.re now).map tD),s3,s4]∧Lb s3 = true∧Lb s4 = true) (fG (h.cl.map kc)) _ (fun Q h1=>?_) ⟨.no,.no,rfl,rfl,rfl⟩ ?_ ?_
 ·simp! only [Hs.EZ]; exact h1
 ·rintro j d δ hj ⟨s3,s4,rfl,n3,n4⟩
  obtain ⟨p,hp,rfl⟩:=qI hj
  have Rw:=bE p (List.mem_of_getElem? hp)
  simp! only [Dl.au]
  have hl:=jI p.2 h.re now
  have lr:=wC hl
  have small:(cA (h.cl.take (j + 1)) h.re now).length ≤ 1000000:=by
   have:=wD (cl:=h.cl.take (j + 1)) (a:=h.re) (e:=now)
   have l1:(h.cl.take (j + 1)).length ≤ 100:=by rw [List.length_take]; omega
   have:(h.cl.take (j + 1)).length * (now - h.re).toNat ≤ 100 * 10000:=Nat.mul_le_mul l1 (by omega)
   omega
  rw [take_snoc hp,qF,wF,List.length_append,List.length_map] at small
  refine eF (iL (dH p.2 h.re now)) (HK fun t=>tD [.inl t,.inr p.1]) (fun Q h1=>?_) (fun d hd=>?_) ?_ ?_
  ·simp! only [Hs.Nx]
   refine ⟨p.2,h.re,now,rfl,Rw,by omega,Ae,fun l' hl'=>?_⟩
   simp! only [Dl.au]
   rw [qE hl']; exact h1
  ·obtain ⟨t,_,rfl⟩:=List.mem_map.mp hd
   simp! only [Dl.au]
   rfl
  ·rw [ny,List.length_map]
   exact Nat.le_of_lt (bA (by omega))
  ·rw [ny]
   simp! only [List.length_map]
   refine ⟨by have:=bA (n:=(cA (h.cl.take j) h.re now).length + (dH p.2 h.re now).length) (by omega); omega,.sh (.str p.1),.sh (cR p.2),?_,rfl,rfl⟩
   rw [take_snoc hp,qF,wF,List.map_append,List.map_map]
   rfl
 ·rintro δ ⟨s3,s4,rfl,n3,n4⟩
  rw [qJ,List.take_length]
  refine ⟨by simp! only [Hs.EZ],?_,?_⟩
  ·simp! only [Hs.HR]
   simp only [Hb,List.all_cons,List.all_nil,n3,n4]; rfl
  ·simp! only [Hs.HR,Hs.Uq,Hs.Qc]
   exact ⟨cA h.cl h.re now,[false,true],rfl,mC,by decide,fun ms hp Us=>q ms hp Us⟩
theorem Cj {c:Ck} {a e:Int} {l:List Int} {t:Int} (hl:bb c a e l) (ht:l.getLast? = some t):fL c e (some t):=by
 obtain ⟨ys,rfl⟩:=List.getLast?_eq_some_iff.mp ht
 have hm:=(hl.mem t).mp (by simp)
 refine ⟨fun z=>(nomatch z),fun u z=>?_⟩
 cases z
 refine ⟨hm.2.1,hm.2.2,fun t' t1 t2 r=>?_⟩
 have:=wB hl.rise ((hl.mem t').mpr ⟨by omega,t2,r⟩)
 omega
noncomputable def mK (ab:Nat):bC:=bF ((ay km ((af ((ae 2)) (aw)))))
noncomputable def mL (ab:Nat):bC:=au (rk ab 0 "asleep" (dC (.bl false))) ((mK ab))
noncomputable def mM (ab:Nat):bC:=D9 2 (au (rk ab 0 "reached" ((ae 1))) ((mL ab)))
noncomputable def mN (ab:Nat):bC:=au (N5 ab 0 "clocks" (tV (nu ab 0 "clocks") (jo 3 4) (au (bw 5 ((ay iT ((af ((ae 4)) ((af ((dX ((uc ab 0 "reached")))) ((af ((ae 1)) (aw)))))))))) (fA (dB (aD (qr fun i j=>.bl (decide (j < i))) ((ae 5)) (dC (.int 0)))) (FU 2 ((tQ ((af ((ae 3)) ((af ((ay dG ((af ((ae 4)) ((af ((ae 1)) (aw))))))) ((af ((ae 5)) (aw)))))))))) (b8))))) ((mM ab))
noncomputable def mO (ab:Nat):bC:=au (FT 2 (aw)) ((mN ab))
noncomputable def mP (ab:Nat):bC:=au (jy ((ay bS ((af ((dX ((uc ab 0 "reached")))) ((af ((ae 1)) (aw)))))))) ((mO ab))
noncomputable def kA (ab:Nat):bC:=au (fA (FQ (nG ((dX ((uc ab 0 "asleep")))))) (tS) (b8)) ((mP ab))
theorem xZ (C:Nat):∀ (hs:Nat→Nat) as Q,cg C as Q→kA C { nx:=fun δ=>Q .aU (fX hs 0 as δ),rt:=fun d δ=>Q d (fX hs 0 as δ) } (fE ["self","now","told","name","clock","many"] hs as):=by
 rintro hs as Q ⟨h,now,rfl,Rv,Ut,Lq,Ae,Nh,bE,q⟩
 simp! only [kA,mP,mO,mN,mM,mL,mK,Hs.Qb,Rv]
 simp! only [Hs.Nw]
 refine ⟨some h.re,now,rfl,fun s e=>by cases e; exact Lq,?_⟩
 simp! only [Hs.HQ,Hs.Ny]
 intro fq
 refine j7 (fun j δ=>∃ (s3 s4 s5:Sl),δ = [.ob (some (hs 0)) C (h.fz fq),.sh (.int now),.ow ((fN (h.cl.take j) h.re now).map tD),s3,s4,s5]∧Lb s3 = true∧Lb s4 = true∧Lb s5 = true) (fG (h.cl.map kc)) _ (fun Q h1=>?_) ⟨.no,.no,.no,rfl,rfl,rfl,rfl⟩ ?_ ?_
 ·simp! only [Hs.EZ]; exact h1
 ·rintro j d δ hj ⟨s3,s4,s5,rfl,n3,n4,n5⟩
  obtain ⟨p,hp,rfl⟩:=qI hj
  have Rw:=bE p (List.mem_of_getElem? hp)
  simp! only [Hs.Nx]
  refine ⟨p.2,h.re,now,rfl,Rw,Ut,Lq,fun l hl=>?_⟩
  have el:=qE hl
  subst el
  have ej:j < h.cl.length:=(List.getElem?_eq_some_iff.mp hp).1
  have wl:(fN (h.cl.take j) h.re now).length ≤ 100:=by
   refine Nat.le_trans (List.length_filterMap_le _ _) ?_
   rw [List.length_take]; omega
  simp! only [Dl.au]
  cases ql:(dH p.2 h.re now).getLast? with
  | none =>
   have e0:dH p.2 h.re now = []:=List.getLast?_eq_none_iff.mp ql
   have ew:nU h.re now p = none:=by unfold nU; rw [ql]; rfl
   rw [e0]
   rw [if_neg (by simp)]
   refine ⟨.sh (.str p.1),.sh (cR p.2),.sh (.int (([]:List Int).length:Nat)),?_,rfl,rfl,rfl⟩
   rw [take_snoc hp,qG,wG,ew]
   simp
  | some t =>
   have ew:nU h.re now p = some [.inr p.1,.inl t,.inl ((dH p.2 h.re now).length:Nat)]:=by unfold nU; rw [ql]; rfl
   have pos:0 < (dH p.2 h.re now).length:=by
    cases z:dH p.2 h.re now with
    | nil=>rw [z] at ql; cases ql
    | cons _ _=>simp
   rw [if_pos (by omega)]
   refine ⟨p.2,now,rfl,Rw,by omega,fun r hr=>?_⟩
   rw [hr.unique (Cj (jI _ _ _) ql)]
   simp! only [aZ,ba]
   refine ⟨by rw [List.length_map]; exact bA (by omega),.sh (.str p.1),.sh (cR p.2),.sh (.int ((dH p.2 h.re now).length:Nat)),?_,rfl,rfl,rfl⟩
   rw [take_snoc hp,qG,wG,ew,List.map_append]
   rfl
 ·rintro δ ⟨s3,s4,s5,rfl,n3,n4,n5⟩
  rw [qJ,List.take_length]
  refine ⟨by simp! only [Hs.EZ],?_,?_⟩
  ·simp! only [Hs.HR]
   simp only [Hb,List.all_cons,List.all_nil,n3,n4,n5]; rfl
  ·simp! only [Hs.HR,Hs.Uq,Hs.Qc,Hs.Qe]
   exact ⟨fN h.cl h.re now,[true,false,false],rfl,mD,by decide,fun ms hp Us=>q ms hp Us⟩
theorem wH (items:List D) (F:D→Option D) {k:Nat} {ti:oW} {g:sP} {tt:lB} {te:cx} {δ:Ev} {Q:D→Ev→Prop} (h0:∀ Q:List D→Ev→Prop,Q items δ→ti δ Q)
  (hF:∀ d ∈ items,∀ as:Nat→Nat,g d (hC as 0 δ ++ List.replicate k .no) fun δ2=>tt δ2 fun b δ3=>if b = true then te δ3 fun y δ4=>δ4.take δ.length = hC as 0 δ∧F d = some y else δ3.take δ.length = hC as 0 δ∧F d = none)
  (hl:(items.filterMap F).length ≤ sizeLine) (q:Q (.lst (items.filterMap F)) δ):mj k ti g tt te δ Q:=h0 _ ⟨F,hF,hl,q⟩
theorem Cm:∀ {l m:List Int},iL l = iL m→l = m
 | [],[],_=>rfl
 | [],_ :: _,h=>by cases h
 | _ :: _,[],h=>by cases h
 | x :: l,y :: m,h=>by
  rw [iL,List.map_cons,iL,List.map_cons] at h
  injection h with h1 h2
  injection h1 with h1
  rw [h1,Cm h2]
theorem HW:∀ {a b:Option Int},oi a = oi b→a = b
 | none,none,_=>rfl
 | none,some _,h=>by cases h
 | some _,none,h=>by cases h
 | some x,some y,h=>by
  have h:D.int x = D.int y:=h
  injection h with h; rw [h]
theorem Lr:¬ (("every":Str) = ("timer":Str)):=by decide +kernel
theorem Ls:¬ (("alarm":Str) = ("timer":Str)):=by decide +kernel
theorem Lu:¬ (("alarm":Str) = ("every":Str)):=by decide +kernel
theorem Kv:∀ {c d:Ck},cR c = cR d→c = d
 | .tm a b o,.tm a' b' o',h=>by
  simp only [cR,D.tup.injEq,List.cons.injEq,D.int.injEq,and_true,true_and] at h
  obtain ⟨h1,h2,h3⟩:=h
  rw [h1,h2,HW h3]
 | .ev a b o,.ev a' b' o',h=>by
  simp only [cR,D.tup.injEq,List.cons.injEq,D.int.injEq,and_true,true_and] at h
  obtain ⟨h1,h2,h3⟩:=h
  rw [h1,h2,HW h3]
 | .al a b o,.al a' b' o',h=>by
  simp only [cR,D.tup.injEq,List.cons.injEq,D.int.injEq,and_true,true_and] at h
  obtain ⟨h1,h2,h3⟩:=h
  rw [h1,Cm h2,Cm h3]
 | .tm _ _ _,.ev _ _ _,h=>by simp only [cR,D.tup.injEq,List.cons.injEq,D.str.injEq] at h; exact absurd h.1.symm Lr
 | .tm _ _ _,.al _ _ _,h=>by simp only [cR,D.tup.injEq,List.cons.injEq,D.str.injEq] at h; exact absurd h.1.symm Ls
 | .ev _ _ _,.tm _ _ _,h=>by simp only [cR,D.tup.injEq,List.cons.injEq,D.str.injEq] at h; exact absurd h.1 Lr
 | .ev _ _ _,.al _ _ _,h=>by simp only [cR,D.tup.injEq,List.cons.injEq,D.str.injEq] at h; exact absurd h.1.symm Lu
 | .al _ _ _,.tm _ _ _,h=>by simp only [cR,D.tup.injEq,List.cons.injEq,D.str.injEq] at h; exact absurd h.1 Ls
 | .al _ _ _,.ev _ _ _,h=>by simp only [cR,D.tup.injEq,List.cons.injEq,D.str.injEq] at h; exact absurd h.1 Lu
open Classical in
noncomputable def Kw (d:D):Ck:=if h:∃ c,cR c = d then choose h else .tm 0 0 none
theorem Dp (c:Ck):Kw (cR c) = c:=by
 unfold Kw
 rw [dif_pos ⟨c,rfl⟩]
 exact Kv (Classical.choose_spec (⟨c,rfl⟩:∃ c',cR c' = cR c))
noncomputable def Kx (t:Int):D→Option D
 | .tup [.str x,c]=>some (.tup [oi (cv (Kw c) t),.str x])
 | _=>none
noncomputable def Qg:D→Option D
 | .tup [.int m,.str x]=>some (.tup [.int m,.str x])
 | _=>none
noncomputable def Qh:D→Option D
 | .tup [.int m,_]=>some (.int m)
 | _=>none
noncomputable def NA (f:Int):D→Option D
 | .tup [.int m,.str x]=>if m = f then some (.str x) else none
 | _=>none
noncomputable def oN (cl:List (Str × Ck)) (t:Int):List (Int × Str):=cl.filterMap fun p=>(cv p.2 t).map fun m=>(m,p.1)
noncomputable abbrev Cn (r:Int × Str):D:=.tup [.int r.1,.str r.2]
theorem HX (cl:List (Str × Ck)) (t:Int):((fG (cl.map kc)).filterMap (Kx t)) = cl.map fun p=>.tup [oi (cv p.2 t),.str p.1]:=by
 unfold fG
 rw [List.map_map,List.filterMap_map]
 refine ur fun p _=>?_
 show Kx t (.tup [.str p.1,cR p.2]) = _
 show some (D.tup [oi (cv (Kw (cR p.2)) t),.str p.1]) = _
 rw [Dp]
theorem Af (cl:List (Str × Ck)) (t:Int):(cl.map fun p=>D.tup [oi (cv p.2 t),.str p.1]).filterMap Qg = (oN cl t).map Cn:=by
 unfold oN
 induction cl with
 | nil=>rfl
 | cons p r ih =>
  rw [List.map_cons,List.filterMap_cons,List.filterMap_cons]
  cases cv p.2 t with
  | none=>exact ih
  | some m=>show _ :: _ = _; rw [ih]; rfl
theorem Dq (l:List (Int × Str)):(l.map Cn).filterMap Qh = (l.map (·.1)).map D.int:=by
 rw [List.filterMap_map,List.map_map]
 exact ur fun r _=>rfl
theorem Ag (f:Int) (r:Int × Str):NA f (Cn r) = if r.1 = f then some (.str r.2) else none:=rfl
theorem HY (f:Int) (l:List (Int × Str)):(l.map Cn).filterMap (NA f) = ((l.filter fun r=>decide (r.1 = f)).map (·.2)).map D.str:=by
 induction l with
 | nil=>rfl
 | cons r l ih =>
  rw [List.map_cons,List.filterMap_cons,Ag]
  by_cases h:r.1 = f
  ·rw [List.filter_cons_of_pos (by simpa using h),List.map_cons,List.map_cons,← ih,if_pos h]
  ·rw [List.filter_cons_of_neg (by simpa using h),← ih,if_neg h]
theorem jK {cl:List (Str × Ck)} {t m:Int} {x:Str}:(m,x) ∈ oN cl t ↔ ∃ p ∈ cl,cv p.2 t = some m∧p.1 = x:=by
 unfold oN
 rw [List.mem_filterMap]
 constructor
 ·rintro ⟨p,hp,e⟩
  cases q:cv p.2 t with
  | none=>rw [q] at e; cases e
  | some u=>rw [q] at e; cases e; exact ⟨p,hp,q,rfl⟩
 ·rintro ⟨p,hp,q,rfl⟩
  exact ⟨p,hp,by rw [q]; rfl⟩
theorem uC (cl:List (Str × Ck)) (t m:Int):((oN cl t).filter fun r=>decide (r.1 = m)).map (·.2) = oM cl t m:=by
 unfold oN oM
 induction cl with
 | nil=>rfl
 | cons p r ih =>
  rw [List.filterMap_cons]
  cases q:cv p.2 t with
  | none=>rw [List.filter_cons_of_neg (by rw [q]; simp)]; exact ih
  | some u =>
   by_cases h:u = m
   ·subst h
    rw [List.filter_cons_of_pos (p:=fun p:Str × Ck=>decide (cv p.2 t = some u)) (by rw [q]; simp)]
    show (List.filter _ ((u,p.1) :: _)).map _ = _
    rw [List.filter_cons_of_pos (by simp),List.map_cons,List.map_cons,ih]
   ·rw [List.filter_cons_of_neg (p:=fun p:Str × Ck=>decide (cv p.2 t = some m)) (by rw [q]; simp; exact h)]
    show (List.filter _ ((u,p.1) :: _)).map _ = _
    rw [List.filter_cons_of_neg (by simpa using h),ih]
noncomputable def gp (ab:Nat):bC:=au (N5 ab 0 "clocks" (bw 1 ((mj 2 (nu ab 0 "clocks") (jo 4 5) (xu) ((tQ ((af ((ay dF ((af ((ae 5)) ((af ((dX ((uc ab 0 "reached")))) (aw))))))) ((af ((ae 4)) (aw))))))))))) (au (bw 2 ((dz 1 (dw ((ae 1))) (cK 4) (dB (aD lY ((aD (rF eC) ((ae 4)) (dC (.int 0)))) (dC .aU))) ((ae 4))))) (au (fA (FQ (nG ((ae 2)))) (bF (dC .aU)) (b8)) (au (bw 3 ((ay vY ((af ((dz 2 (dw ((ae 2))) (jo 4 5) (xu) ((ae 4)))) (aw)))))) (bF ((tQ ((af ((ae 3)) ((af ((ay kj ((af ((dz 2 (dw ((ae 2))) (jo 4 5) (dB (aD gY ((ae 4)) ((ae 3)))) ((ae 5)))) (aw))))) (aw)))))))))))
theorem qK (C:Nat):∀ (hs:Nat→Nat) as Q,br C as Q→gp C { nx:=fun δ=>Q .aU (fX hs 0 as δ),rt:=fun d δ=>Q d (fX hs 0 as δ) } (fE ["self","rows","dues","first"] hs as):=by
 rintro hs as Q ⟨h,rfl,Lq,hl,bE,qn,q⟩
 have big:∀ n,n ≤ 100→n ≤ sizeLine:=fun n hn=>Nat.le_of_lt (bA (by omega))
 have ld:(oN h.cl h.re).length ≤ 60:=Nat.le_trans (List.length_filterMap_le _ _) (by omega)
 simp! only [gp,Hs.HQ,Hs.Ny]
 intro fq
 refine wH (fG (h.cl.map kc)) (Kx h.re) (fun Q h1=>?_) (fun d hd as=>?_) ?_ ?_
 ·simp! only [Hs.EZ]; exact h1
 ·obtain ⟨j,hj⟩:=List.getElem?_of_mem hd
  obtain ⟨p,hp,rfl⟩:=qI hj
  simp! only [Hs.Nx]
  refine ⟨p.2,h.re,rfl,bE p (List.mem_of_getElem? hp),by omega,fun r hr=>?_⟩
  have er:=HV hr
  simp! only [Kx,Dp,← er]
  first | exact ⟨rfl,rfl⟩ | rfl
 ·refine Nat.le_trans (List.length_filterMap_le _ _) ?_
  rw [qJ]; exact big _ (by omega)
 ·rw [HX]
  simp! only [Hs.EZ,Hs.HR]
  refine ⟨?_,?_⟩
  ·simp only [Hb,List.all_cons,List.all_nil]; rfl
  refine eF (h.cl.map fun p=>.tup [oi (cv p.2 h.re),.str p.1]) Qg (fun Q h1=>?_) (fun d hd=>?_) ?_ ?_
  ·simp! only [Dl.au]; exact h1
  ·obtain ⟨p,hp,rfl⟩:=List.mem_map.mp hd
   cases cv p.2 h.re with
   | none=>simp! only [aZ,ba]; rfl
   | some m=>simp! only [aZ,ba]; rfl
  ·rw [Af,List.length_map]; exact big _ (by omega)
  ·rw [Af]
   by_cases qd:oN h.cl h.re = []
   ·rw [qd]
    simp! only [List.isEmpty_nil]
    refine qn fun p hp=>?_
    cases z:cv p.2 h.re with
    | none=>rfl
    | some m =>
     have:=jK.mpr ⟨p,hp,z,rfl⟩
     rw [qd] at this; cases this
   ·have A5:((oN h.cl h.re).map Cn).isEmpty = false:=by
     cases z:oN h.cl h.re with
     | nil=>exact absurd z qd
     | cons _ _=>rfl
    simp! only [A5]
    refine eF ((oN h.cl h.re).map Cn) Qh (fun Q h1=>?_) (fun d hd=>?_) ?_ ?_
    ·simp! only [Dl.au]; exact h1
    ·obtain ⟨r,hr,rfl⟩:=List.mem_map.mp hd
     simp! only [Dl.au]; rfl
    ·rw [Dq,List.length_map,List.length_map]; exact big _ (by omega)
    ·rw [Dq]
     refine ⟨_,rfl,(oN h.cl h.re).map (·.1),nr _,fun z=>qd (List.map_eq_nil_iff.mp z),by rw [List.length_map]; omega,fun m hm sq=>?_⟩
     simp! only [Dl.au]
     refine eF ((oN h.cl h.re).map Cn) (NA m) (fun Q h1=>?_) (fun d hd=>?_) ?_ ?_
     ·simp! only [Dl.au]; exact h1
     ·obtain ⟨r,hr,rfl⟩:=List.mem_map.mp hd
      simp! only [Dl.au]
      rw [Ag]
      refine fC (fun z=>?_) fun z=>?_
      ·rw [if_pos z]
      ·rw [if_neg z]
     ·rw [HY,List.length_map,List.length_map]
      exact big _ (Nat.le_trans (List.length_filter_le ..) (by omega))
     ·rw [HY,uC]
      simp! only [Dl.au]
      refine ⟨_,rfl,?_,fun ns hn ht=>?_⟩
      ·rw [← uC,List.length_map]
       exact Nat.lt_of_le_of_lt (List.length_filter_le ..) (by omega)
      ·obtain ⟨r,hr,er⟩:=List.mem_map.mp hm
       obtain ⟨mm,x⟩:=r
       cases er
       obtain ⟨p,hp,hn1,_⟩:=jK.mp hr
       refine q mm ⟨p,hp,hn1⟩ (fun p' hp' u hu=>sq u (List.mem_map.mpr ⟨(u,p'.1),jK.mpr ⟨p',hp',hu,rfl⟩,rfl⟩)) ns hn ht
end rV
namespace rV
open PySem L2 Dl Rg
mutual
theorem uD:∀ d:D,gX d d = true
 | .aU=>rfl
 | .bl b=>beq_self_eq_true b
 | .int i=>beq_self_eq_true i
 | .str x=>beq_self_eq_true x
 | .tup l=>ff l
 | .lst l=>ff l
 | .pt _=>rfl
theorem ff:∀ l:List D,oA l l = true
 | []=>rfl
 | d :: r=>by show (gX d d && oA r r) = true; rw [uD d,ff r]; rfl
end
theorem pX:∀ {l:List D},(∀ d ∈ l,d.ok = true)→D.FX l = true
 | [],_=>rfl
 | d :: r,h=>by show (D.ok d && D.FX r) = true; rw [h d List.mem_cons_self,pX fun e he=>h e (List.mem_cons_of_mem _ he)]; rfl
theorem pY {n:Nat}:∀ {l:List D},(∀ d ∈ l,d.dep ≤ n)→D.qp l ≤ n
 | [],_=>Nat.zero_le _
 | d :: r,h=>by show max (D.dep d) (D.qp r) ≤ n; exact Nat.max_le.mpr ⟨h d List.mem_cons_self,pY fun e he=>h e (List.mem_cons_of_mem _ he)⟩
noncomputable def Qi:Key→Prop
 | .inl _=>True
 | .inr x=>PyData.strOk x = true
theorem Lv {k:Key} (h:Qi k):(dK k).ok = true∧(dK k).dep = 0:=by
 cases k with
 | inl i=>exact ⟨rfl,rfl⟩
 | inr x=>exact ⟨h,rfl⟩
theorem Lw {k:List Key} (h:∀ x ∈ k,Qi x):(tD k).ok = true∧(tD k).dep ≤ 1:=by
 refine ⟨pX fun d hd=>?_,?_⟩
 ·obtain ⟨x,hx,rfl⟩:=List.mem_map.mp hd; exact (Lv (h x hx)).1
 ·show D.qp (k.map dK) + 1 ≤ 1
  have:=pY (n:=0) (l:=k.map dK) fun d hd=>by obtain ⟨x,hx,rfl⟩:=List.mem_map.mp hd; exact Nat.le_of_eq (Lv (h x hx)).2
  omega
theorem Dr {l:List (List Key)} (h:∀ k ∈ l,∀ x ∈ k,Qi x):(D.lst (l.map tD)).ok = true∧(D.lst (l.map tD)).dep ≤ 2:=by
 refine ⟨pX fun d hd=>?_,?_⟩
 ·obtain ⟨k,hk,rfl⟩:=List.mem_map.mp hd; exact (Lw (h k hk)).1
 ·show D.qp (l.map tD) + 1 ≤ 2
  have:=pY (n:=1) (l:=l.map tD) fun d hd=>by obtain ⟨k,hk,rfl⟩:=List.mem_map.mp hd; exact (Lw (h k hk)).2
  omega
theorem Ds {l:List Str} (h:∀ x ∈ l,PyData.strOk x = true):(D.lst (l.map D.str)).ok = true∧(D.lst (l.map D.str)).dep ≤ 1:=by
 refine ⟨pX fun d hd=>?_,?_⟩
 ·obtain ⟨x,hx,rfl⟩:=List.mem_map.mp hd; exact h x hx
 ·show D.qp (l.map D.str) + 1 ≤ 1
  have:=pY (n:=0) (l:=l.map D.str) fun d hd=>by obtain ⟨x,hx,rfl⟩:=List.mem_map.mp hd; exact Nat.le_refl _
  omega
noncomputable abbrev Due:=Option (Int × List Str)
noncomputable def eA:Due→D
 | none=>.aU
 | some r=>.tup [.int r.1,.lst (r.2.map .str)]
theorem Dt {r:Due} (h:∀ v,r = some v→∀ x ∈ v.2,PyData.strOk x = true):(eA r).ok = true∧(eA r).dep ≤ 2:=by
 cases r with
 | none=>exact ⟨rfl,Nat.zero_le _⟩
 | some v =>
  obtain ⟨h1,h2⟩:=Ds (h v rfl)
  refine ⟨?_,?_⟩
  ·show (true && (D.ok (.lst (v.2.map .str)) && true)) = true
   rw [h1]; rfl
  ·show max 0 (max (D.dep (.lst (v.2.map .str))) 0) + 1 ≤ 2
   omega
theorem NC {d e:D} {n:Nat} (h1:d.ok = true) (h2:e.ok = true) (h3:d.dep ≤ n) (hn:n ≤ 60):j5 d e:=⟨h1,h2,Nat.le_trans (Nat.min_le_left ..) (Nat.le_trans h3 hn)⟩
noncomputable def jC:D→Option D
 | .aU=>none
 | d=>some d
theorem Ah (os:List Due):(os.map eA).filterMap jC = (os.filterMap id).map fun r=>eA (some r):=by
 induction os with
 | nil=>rfl
 | cons o r ih =>
  rw [List.map_cons,List.filterMap_cons,List.filterMap_cons]
  cases o with
  | none=>exact ih
  | some v=>show eA (some v) :: _ = _; rw [ih]; rfl
noncomputable def Qj:D→Option D
 | .tup [.int m,_]=>some (.int m)
 | _=>none
theorem Du (l:List (Int × List Str)):(l.map fun r=>eA (some r)).filterMap Qj = (l.map (·.1)).map D.int:=by
 rw [List.filterMap_map,List.map_map]
 exact ur fun r _=>rfl
noncomputable def kC (l:List (Int × List Str)) (m:Int):List Str:=(l.filter fun r=>decide (r.1 = m)).flatMap (·.2)
theorem wI (l:List (Int × List Str)) (r:Int × List Str) (m:Int):kC (l ++ [r]) m = if r.1 = m then kC l m ++ r.2 else kC l m:=by
 unfold kC
 rw [List.filter_append]
 by_cases h:r.1 = m
 ·rw [if_pos h,List.filter_cons_of_pos (by simpa using h),List.filter_nil,List.flatMap_append,List.flatMap_cons,List.flatMap_nil,List.append_nil]
 ·rw [if_neg h,List.filter_cons_of_neg (by simpa using h),List.filter_nil,List.append_nil]
noncomputable def gL:qm:=fun ds Q=>∃ os:List Due,ds = [.lst (os.map eA)]∧os.length < 60∧(∀ r ∈ os.filterMap id,∀ x ∈ r.2,PyData.strOk x = true)∧(∀ r ∈ os.filterMap id,r.2.length ≤ 10)∧os.length ≤ 5∧(os.filterMap id = []→Q .aU) ∧
 ∀ m,(∃ r ∈ os.filterMap id,r.1 = m)→(∀ r ∈ os.filterMap id,m ≤ r.1)→∀ ms:List Str,ms.Perm (kC (os.filterMap id) m)→C5 ms→Q (.tup [.int m,.lst (ms.map .str)])
theorem Ai:∀ ds Q,gL ds Q→ds.length = 1:=by rintro ds Q ⟨_,rfl,_⟩; rfl
theorem Aj {l:List (Int × List Str)} {m:Int} (h:∀ r ∈ l,r.2.length ≤ 10):(kC l m).length ≤ 10 * l.length:=by
 induction l with
 | nil=>simp [kC]
 | cons r l ih =>
  have ih:=ih fun r hr=>h r (List.mem_cons_of_mem _ hr)
  have h0:=h r List.mem_cons_self
  unfold kC at ih ⊢
  by_cases z:r.1 = m
  ·rw [List.filter_cons_of_pos (by simpa using z),List.flatMap_cons,List.length_append,List.length_cons]; omega
  ·rw [List.filter_cons_of_neg (by simpa using z),List.length_cons]; omega
noncomputable def nV:bC:=bF ((tQ ((af ((ae 2)) ((af ((ay kj ((af ((ae 3)) (aw))))) (aw)))))))
noncomputable def nW:bC:=au (tV (dw ((ae 1))) (cK 4) (fA (dB (aD gY ((aD (rF eC) ((ae 4)) (dC (.int 0)))) ((ae 2)))) (bw 3 ((aD (rF bD) ((ae 3)) ((aD (rF eC) ((ae 4)) (dC (.int 1))))))) (b8))) (nV)
noncomputable def nX:bC:=au (bw 3 ((o7 (aw)))) (nW)
noncomputable def nY:bC:=au (bw 2 ((ay vY ((af ((dz 1 (dw ((ae 1))) (cK 5) (xu) ((aD (rF eC) ((ae 5)) (dC (.int 0)))))) (aw)))))) (nX)
noncomputable def nZ:bC:=au (fA (dB (aD gY ((ae 1)) ((o7 (aw))))) (bF (dC .aU)) (b8)) (nY)
noncomputable def mQ:bC:=au (bw 1 ((dz 1 (dw ((ae 0))) (cK 5) (dB (aD lY ((ae 5)) (dC .aU))) ((ae 5))))) (nZ)
theorem Ak:∀ ds Q,gL ds Q→mQ { nx:=fun _=>Q .aU,rt:=fun d _=>Q d } (bu ["_law_some","_law_rows","_law_moment","_law_names","_law_row"] ds):=by
 rintro ds Q ⟨os,rfl,hl,bE,ND,ZS,qn,q⟩
 have big:∀ n,n ≤ 100→n ≤ sizeLine:=fun n hn=>Nat.le_of_lt (bA (by omega))
 have lr:(os.filterMap id).length ≤ os.length:=List.length_filterMap_le _ _
 simp! only [mQ,nZ,nY,nX,nW,nV]
 refine eF (os.map eA) jC (fun Q h1=>?_) (fun d hd=>?_) ?_ ?_
 ·simp! only [Dl.au]; exact h1
 ·obtain ⟨o,ho,rfl⟩:=List.mem_map.mp hd
  cases o with
  | none=>simp! only [eA,jC]
  | some v=>simp! only [eA,jC]
 ·rw [Ah,List.length_map]; exact big _ (by omega)
 rw [Ah]
 generalize os.filterMap id = rs at *
 simp! only [Dl.au]
 have Lx:(D.lst (rs.map fun r=>eA (some r))).ok = true:=pX fun d hd=>by
  obtain ⟨r,hr,rfl⟩:=List.mem_map.mp hd
  exact (Dt fun v e=>by cases e; exact bE r hr).1
 refine ⟨⟨Lx,rfl,Nat.le_trans (Nat.min_le_right ..) (by decide)⟩,?_⟩
 by_cases e:rs = []
 ·subst e
  simp! only [Dl.au]
  exact qn rfl
 have en:oA (rs.map fun r=>eA (some r)) [] = false:=by
  cases rs with
  | nil=>exact absurd rfl e
  | cons _ _=>rfl
 refine fC (fun z=>absurd z (by rw [en]; exact Bool.false_ne_true)) fun _=>?_
 refine eF (rs.map fun r=>eA (some r)) Qj (fun Q h1=>?_) (fun d hd=>?_) ?_ ?_
 ·simp! only [Dl.au]; exact h1
 ·obtain ⟨r,hr,rfl⟩:=List.mem_map.mp hd
  simp! only [eA]; rfl
 ·rw [Du,List.length_map,List.length_map]; exact big _ (by omega)
 rw [Du]
 refine ⟨_,rfl,rs.map (·.1),nr _,fun z=>e (List.map_eq_nil_iff.mp z),by rw [List.length_map]; omega,fun m hm sq=>?_⟩
 simp! only [Dl.au]
 refine j7 (fun j δ=>∃ s4,δ = [.sh (.lst (os.map eA)),.sh (.lst (rs.map fun r=>eA (some r))),.sh (.int m),.sh (.lst ((kC (rs.take j) m).map .str)),s4]) (rs.map fun r=>eA (some r)) _ (fun Q h1=>?_) ⟨.no,rfl⟩ ?_ ?_
 ·simp! only [Dl.au]; exact h1
 ·rintro j d δ hj ⟨s4,rfl⟩
  rw [List.getElem?_map] at hj
  cases er:rs[j]? with
  | none=>rw [er] at hj; cases hj
  | some r =>
   rw [er] at hj
   cases hj
   have tk:rs.take (j + 1) = rs.take j ++ [r]:=take_snoc er
   simp! only [eA]
   refine fC (fun z=>?_) fun z=>?_
   ·have l1:=Aj (l:=rs.take j) (m:=m) fun r hr=>ND r (List.mem_of_mem_take hr)
    have l2:=ND r (List.mem_of_getElem? er)
    have l3:(rs.take j).length ≤ 5:=by rw [List.length_take]; omega
    refine ⟨_,if_pos (by rw [List.length_map,List.length_map]; exact big _ (by omega)),.sh (eA (some r)),?_⟩
    rw [tk,wI,if_pos z,List.map_append]
    rfl
   ·refine ⟨.sh (eA (some r)),?_⟩
    rw [tk,wI,if_neg z]
    rfl
 ·rintro δ ⟨s4,rfl⟩
  rw [List.length_map,List.take_length]
  simp! only [Dl.au]
  refine ⟨_,rfl,?_,fun ms p1 p2=>?_⟩
  ·have:=Aj (m:=m) ND
   omega
  ·obtain ⟨r,hr,er⟩:=List.mem_map.mp hm
   exact q m ⟨r,hr,er⟩ (fun r hr=>sq _ (List.mem_map.mpr ⟨r,hr,rfl⟩)) ms p1 p2
theorem oO:∀ {l m:List Str},l.Perm m→C5 l→C5 m→l = m
 | [],m,h,_,_=>by rw [List.nil_perm.mp h]
 | a :: l,[],h,_,_=>by cases h.length_eq
 | a :: l,b :: m,h,h1,h2=>by
  have g1:=List.pairwise_cons.mp h1
  have g2:=List.pairwise_cons.mp h2
  have e:a = b:=by
   rcases List.mem_cons.mp (h.mem_iff.mp (List.mem_cons_self (a:=a) (l:=l))) with z | z
   ·exact z
   ·rcases List.mem_cons.mp (h.mem_iff.mpr (List.mem_cons_self (a:=b) (l:=m))) with w | w
    ·exact w.symm
    ·have e:a.cps.toList = b.cps.toList:=List.le_antisymm (g1.1 b w) (g2.1 a z)
     cases a; cases b; simp at e; simp [e]
  subst e
  rw [oO (List.Perm.cons_inv h) g1.2 g2.2]
noncomputable def dt (cl:List (Str × Ck)) (t:Int) (r:Due):Prop:=(r = none∧∀ p ∈ cl,cv p.2 t = none) ∨
 ∃ m ns,r = some (m,ns)∧(∃ p ∈ cl,cv p.2 t = some m)∧(∀ p ∈ cl,∀ u,cv p.2 t = some u→m ≤ u)∧ns.Perm (oM cl t m)∧C5 ns
theorem wJ {cl cm:List (Str × Ck)} (h:cl.Perm cm) (t m:Int):(oM cl t m).Perm (oM cm t m):=(h.filter _).map _
theorem HZ (cl cm:List (Str × Ck)) (t m:Int):oM (cl ++ cm) t m = oM cl t m ++ oM cm t m:=by unfold oM; rw [List.filter_append,List.map_append]
theorem dt.unique {cl cm:List (Str × Ck)} {t:Int} {r s:Due} (hp:cl.Perm cm) (h:dt cl t r) (g:dt cm t s):r = s:=by
 rcases h with ⟨rfl,h⟩ | ⟨m,ns,rfl,⟨p,ZT,ZU⟩,h2,h3,h4⟩ <;> rcases g with ⟨rfl,g⟩ | ⟨k,ms,rfl,⟨q,ZV,Na⟩,g2,g3,g4⟩
 ·rfl
 ·have:=h q (hp.mem_iff.mpr ZV); rw [Na] at this; cases this
 ·have:=g p (hp.mem_iff.mp ZT); rw [ZU] at this; cases this
 ·have e:m = k:=by
   have a:=h2 q (hp.mem_iff.mpr ZV) k Na
   have b:=g2 p (hp.mem_iff.mp ZT) m ZU
   omega
  subst e
  rw [oO (h3.trans ((wJ hp t m).trans g3.symm)) h4 g4]
theorem Co (l:List Str):∃ ms:List Str,ms.Perm l∧C5 ms:=by
 induction l with
 | nil=>exact ⟨[],.nil,.nil⟩
 | cons x r ih =>
  obtain ⟨ms,h1,h2⟩:=ih
  refine ⟨(ms.filter fun y=>decide (y.cps.toList < x.cps.toList)) ++ x :: (ms.filter fun y=>!decide (y.cps.toList < x.cps.toList)),?_,?_⟩
  ·refine List.perm_middle.trans (List.Perm.cons _ (List.Perm.trans ?_ h1))
   exact List.filter_append_perm _ ms
  ·refine List.pairwise_append.mpr ⟨h2.sublist List.filter_sublist,List.pairwise_cons.mpr ⟨fun y hy=>?_,h2.sublist List.filter_sublist⟩,fun a ha b hb=>?_⟩
   ·have:=(List.mem_filter.mp hy).2
    simpa using this
   ·have ha:=(List.mem_filter.mp ha).2
    have ha:a.cps.toList < x.cps.toList:=by simpa using ha
    rcases List.mem_cons.mp hb with rfl | hb
    ·exact fun z=>List.lt_irrefl _ (List.lt_trans ha z)
    ·have hb:=(List.mem_filter.mp hb).2
     have hb:¬ b.cps.toList < x.cps.toList:=by simpa using hb
     exact fun z=>hb (List.lt_trans z ha)
theorem uE:∀ (l:List Int),l ≠ []→∃ m ∈ l,∀ x ∈ l,m ≤ x
 | [],h=>absurd rfl h
 | [a],_=>⟨a,List.mem_cons_self,fun x hx=>Int.le_of_eq (List.mem_singleton.mp hx).symm⟩
 | a :: b :: r,_=>by
  obtain ⟨m,h1,h2⟩:=uE (b :: r) (by simp)
  by_cases h:a ≤ m
  ·refine ⟨a,List.mem_cons_self,fun x hx=>?_⟩
   rcases List.mem_cons.mp hx with rfl | hx
   ·exact Int.le_refl _
   ·have:=h2 x hx; omega
  ·refine ⟨m,List.mem_cons_of_mem _ h1,fun x hx=>?_⟩
   rcases List.mem_cons.mp hx with rfl | hx
   ·omega
   ·exact h2 x hx
theorem uF (cl:List (Str × Ck)) (t:Int):∃ r,dt cl t r:=by
 by_cases h:oN cl t = []
 ·refine ⟨none,.inl ⟨rfl,fun p hp=>?_⟩⟩
  cases z:cv p.2 t with
  | none=>rfl
  | some m=>have:=jK.mpr ⟨p,hp,z,rfl⟩; rw [h] at this; cases this
 ·obtain ⟨m,hm,sq⟩:=uE ((oN cl t).map (·.1)) fun z=>h (List.map_eq_nil_iff.mp z)
  obtain ⟨⟨k,x⟩,hr,rfl⟩:=List.mem_map.mp hm
  obtain ⟨p,hp,hn,_⟩:=jK.mp hr
  obtain ⟨ns,h1,h2⟩:=Co (oM cl t k)
  exact ⟨some (k,ns),.inr ⟨k,ns,rfl,⟨p,hp,hn⟩,fun p' hp' u hu=>sq u (List.mem_map.mpr ⟨(u,p'.1),jK.mpr ⟨p',hp',hu,rfl⟩,rfl⟩),h1,h2⟩⟩
noncomputable def uG (cl:List (Str × Ck)) (t:Int):Due:=Classical.choose (uF cl t)
theorem nz (cl:List (Str × Ck)) (t:Int):dt cl t (uG cl t):=Classical.choose_spec (uF cl t)
theorem dt.part {cl:List (Str × Ck)} {t m:Int} {r:Due} (h:dt cl t r) (hm:∀ v,r = some v→m ≤ v.1):(kC r.toList m).Perm (oM cl t m):=by
 have none_of:(∀ p ∈ cl,cv p.2 t ≠ some m)→oM cl t m = []:=fun z=>by
  unfold oM
  rw [List.filter_eq_nil_iff.mpr fun p hp=>by simpa using z p hp]; rfl
 rcases h with ⟨rfl,h⟩ | ⟨k,ns,rfl,h1,h2,h3,h4⟩
 ·rw [none_of fun p hp=>by rw [h p hp]; exact fun z=>by cases z]; exact .nil
 ·by_cases e:k = m
  ·subst e
   have:kC (some (k,ns):Due).toList k = ns:=by simp [kC]
   rw [this]; exact h3
  ·have hk:=hm _ rfl
   have:kC (some (k,ns):Due).toList m = []:=by simp [kC,e]
   rw [this,none_of fun p hp z=>by have:=h2 p hp m z; dsimp only at hk; omega]
theorem dt.first {c0 c1 cw:List (Str × Ck)} {t:Int} {r0 r1:Due} (hp:(c0 ++ c1).Perm cw) (h0:dt c0 t r0) (h1:dt c1 t r1) :
  (([r0,r1].filterMap id = []→dt cw t none))∧∀ m,(∃ r ∈ [r0,r1].filterMap id,r.1 = m)→(∀ r ∈ [r0,r1].filterMap id,m ≤ r.1)→∀ ms:List Str,ms.Perm (kC ([r0,r1].filterMap id) m)→C5 ms→dt cw t (some (m,ms)):=by
 have mem:∀ p,p ∈ cw ↔ p ∈ c0∨p ∈ c1:=fun p=>by rw [← hp.mem_iff,List.mem_append]
 have low:∀ {c:List (Str × Ck)} {r:Due},dt c t r→∀ p ∈ c,∀ u,cv p.2 t = some u→∃ v,r = some v∧v.1 ≤ u:=fun h p hp u hu=>by
  rcases h with ⟨rfl,h⟩ | ⟨k,ns,rfl,_,h2,_⟩
  ·rw [h p hp] at hu; cases hu
  ·exact ⟨_,rfl,h2 p hp u hu⟩
 have got:∀ {c:List (Str × Ck)} {r:Due} {v:Int × List Str},dt c t r→r = some v→∃ p ∈ c,cv p.2 t = some v.1:=fun h e=>by
  rcases h with ⟨rfl,h⟩ | ⟨k,ns,rfl,h1,_⟩
  ·cases e
  ·cases e; exact h1
 have inl:∀ v,v ∈ [r0,r1].filterMap id ↔ r0 = some v∨r1 = some v:=fun v=>by
  rw [List.mem_filterMap]
  constructor
  ·rintro ⟨a,ha,e⟩
   have e:a = some v:=e
   subst e
   have:some v = r0∨some v = r1:=by simpa using ha
   exact this.imp Eq.symm Eq.symm
  ·rintro (e | e)
   ·exact ⟨r0,by simp,e⟩
   ·exact ⟨r1,by simp,e⟩
 refine ⟨fun z=>.inl ⟨rfl,fun p hp'=>?_⟩,fun m hm sq ms pm so=>.inr ⟨m,ms,rfl,?_,fun p hp' u hu=>?_,?_,so⟩⟩
 ·cases q:cv p.2 t with
  | none=>rfl
  | some u =>
   exfalso
   rcases (mem p).mp hp' with w | w
   ·obtain ⟨v,e,_⟩:=low h0 p w u q
    have:=(inl v).mpr (.inl e); rw [z] at this; cases this
   ·obtain ⟨v,e,_⟩:=low h1 p w u q
    have:=(inl v).mpr (.inr e); rw [z] at this; cases this
 ·obtain ⟨v,hv,rfl⟩:=hm
  rcases (inl v).mp hv with e | e
  ·obtain ⟨p,a,b⟩:=got h0 e; exact ⟨p,(mem p).mpr (.inl a),b⟩
  ·obtain ⟨p,a,b⟩:=got h1 e; exact ⟨p,(mem p).mpr (.inr a),b⟩
 ·rcases (mem p).mp hp' with w | w
  ·obtain ⟨v,e,le⟩:=low h0 p w u hu
   have:=sq v ((inl v).mpr (.inl e)); omega
  ·obtain ⟨v,e,le⟩:=low h1 p w u hu
   have:=sq v ((inl v).mpr (.inr e)); omega
 ·have a:=h0.part (m:=m) fun v e=>sq v ((inl v).mpr (.inl e))
  have b:=h1.part (m:=m) fun v e=>sq v ((inl v).mpr (.inr e))
  have e:kC ([r0,r1].filterMap id) m = kC r0.toList m ++ kC r1.toList m:=by
   have:[r0,r1].filterMap id = r0.toList ++ r1.toList:=by cases r0 <;> cases r1 <;> rfl
   rw [this]; unfold kC; rw [List.filter_append,List.flatMap_append]
  rw [e] at pm
  refine pm.trans ((a.append b).trans ?_)
  rw [← HZ]; exact wJ hp t m
theorem dt.names {cl:List (Str × Ck)} {t:Int} {r:Due} (h:dt cl t r) (ok:∀ p ∈ cl,PyData.strOk p.1 = true) (v:Int × List Str) (e:r = some v):(∀ x ∈ v.2,PyData.strOk x = true)∧v.2.length ≤ cl.length:=by
 rcases h with ⟨rfl,_⟩ | ⟨m,ns,rfl,_,_,h3,_⟩
 ·cases e
 ·cases e
  refine ⟨fun x hx=>?_,?_⟩
  ·obtain ⟨p,hp,rfl⟩:=List.mem_map.mp (h3.mem_iff.mp hx)
   exact ok p (List.mem_filter.mp hp).1
  ·rw [h3.length_eq]; unfold oM; rw [List.length_map]; exact List.length_filter_le ..
section
variable {C:Nat} {Q:D→List Ar→Prop} {h:Hs} {now:Int}
theorem sT (Lq:h.re ≤ 10000000) (hl:h.cl.length < 60) (ok:∀ p ∈ h.cl,Ok p.2) (k:∀ r,dt h.cl h.re r→Q (eA r) [.o C h.fs]):br C [.o C h.fs] Q :=
 ⟨h,rfl,Lq,hl,ok,fun z=>k none (.inl ⟨rfl,z⟩),fun m h1 h2 ns h3 h4=>k (some (m,ns)) (.inr ⟨m,ns,rfl,h1,h2,h3,h4⟩)⟩
end
theorem Ky {cl:List (Str × Ck)} {a e:Int} {ms:List (List Key)} (ok:∀ p ∈ cl,PyData.strOk p.1 = true) (h:ms.Perm (cA cl a e)):∀ k ∈ ms,∀ x ∈ k,Qi x:=fun k hk x hx=>by
 obtain ⟨p,hp,hk⟩:=List.mem_flatMap.mp (h.mem_iff.mp hk)
 obtain ⟨t,_,rfl⟩:=List.mem_map.mp hk
 have:x = .inl t∨x = .inr p.1:=by simpa using hx
 rcases this with rfl | rfl
 ·trivial
 ·exact ok p hp
theorem Cp {a e:Int} {p:Str × Ck} {k:List Key} (h:nU a e p = some k):∃ t n,k = [.inr p.1,.inl t,.inl n]∧a < t∧t ≤ e∧1 ≤ n:=by
 unfold nU at h
 cases q:(dH p.2 a e).getLast? with
 | none=>rw [q] at h; cases h
 | some t =>
  rw [q] at h
  cases h
  obtain ⟨ys,hy⟩:=List.getLast?_eq_some_iff.mp q
  have hm:=((jI p.2 a e).mem t).mp (by rw [hy]; simp)
  refine ⟨t,_,rfl,hm.1,hm.2.1,?_⟩
  rw [hy,List.length_append]; simp; omega
theorem Dv {cl:List (Str × Ck)} {a e:Int} {ms:List (List Key)} (ok:∀ p ∈ cl,PyData.strOk p.1 = true) (h:ms.Perm (fN cl a e)):∀ k ∈ ms,∃ x t n,k = [.inr x,.inl t,.inl n]∧PyData.strOk x = true∧a < t∧t ≤ e∧1 ≤ n:=fun k hk=>by
 obtain ⟨p,hp,hk⟩:=List.mem_filterMap.mp (h.mem_iff.mp hk)
 obtain ⟨t,n,rfl,h1,h2,h3⟩:=Cp hk
 exact ⟨p.1,t,n,rfl,ok p hp,h1,h2,h3⟩
theorem Ia {cl:List (Str × Ck)} {a e:Int} {ms:List (List Key)} (ok:∀ p ∈ cl,PyData.strOk p.1 = true) (h:ms.Perm (fN cl a e)):∀ k ∈ ms,∀ x ∈ k,Qi x:=fun k hk x hx=>by
 obtain ⟨y,t,n,rfl,h1,_⟩:=Dv ok h k hk
 have:x = .inr y∨x = .inl t∨x = .inl n:=by simpa using hx
 rcases this with rfl | rfl | rfl
 ·exact h1
 ·trivial
 ·trivial
theorem E1 {cl:List (Str × Ck)} {a:Int}:cA cl a a = []:=by
 unfold cA
 rw [List.flatMap_eq_nil_iff]
 intro p hp
 rw [← qE (bb.none (Int.le_refl a))]; rfl
end rV
namespace rV
open PySem L2 Dl Rg
noncomputable def pq:Nat→Str
 | 0=>"p"
 | 1=>"q"
 | _=>"r"
theorem Qk (i:Nat):PyData.strOk (pq i) = true:=by
 match i with
 | 0=>decide +kernel
 | 1=>decide +kernel
 | _ + 2=>exact (by decide +kernel:PyData.strOk "r" = true)
theorem Kz:∀ i:Nat,i < 3→atS "pqr" (.int (i:Nat)) = some (.str (pq i))
 | 0,_=>rfl
 | 1,_=>rfl
 | 2,_=>rfl
theorem NF:∀ i:Nat,i < 3→Builtin.Str.occurrences "pqr" (pq i) 0 ("pqr":Str).length 1 = [i]
 | 0,_=>by decide +kernel
 | 1,_=>by decide +kernel
 | 2,_=>by decide +kernel
theorem NG:∀ i j:Nat,i < 3→j < 3→pq i = pq j→i = j
 | 0,0,_,_,_=>rfl
 | 1,1,_,_,_=>rfl
 | 2,2,_,_,_=>rfl
 | 0,1,_,_,h=>absurd h (by decide +kernel)
 | 0,2,_,_,h=>absurd h (by decide +kernel)
 | 1,0,_,_,h=>absurd h (by decide +kernel)
 | 1,2,_,_,h=>absurd h (by decide +kernel)
 | 2,0,_,_,h=>absurd h (by decide +kernel)
 | 2,1,_,_,h=>absurd h (by decide +kernel)
noncomputable def eW (ns:List Int) (n:Nat):List (Str × Ck):=(List.range n).map fun i=>(pq i,xS ns (20 + 30 * (i:Nat)))
noncomputable abbrev Oe (p:Str × Ck):D:=.tup [.str p.1,cR p.2]
theorem Ib {ns:List Int} {n i:Nat} {p:Str × Ck} (h:(eW ns n)[i]? = some p):i < n∧p = (pq i,xS ns (20 + 30 * (i:Nat))):=by
 unfold eW at h
 rw [List.getElem?_map] at h
 by_cases hi:i < n
 ·rw [List.getElem?_range hi] at h; cases h; exact ⟨hi,rfl⟩
 ·rw [List.getElem?_eq_none (by simpa using hi)] at h; cases h
theorem Al {ns:List Int} {n:Nat} {p:Str × Ck} (h:p ∈ eW ns n):Ok p.2∧PyData.strOk p.1 = true:=by
 obtain ⟨i,hi,rfl⟩:=List.mem_map.mp h
 exact ⟨(HP ns _).ok,Qk i⟩
theorem Dw {ns:List Int} {n:Nat} (hn:n ≤ 3):((eW ns n).map (·.1)).Nodup:=by
 unfold eW
 rw [List.map_map,List.Nodup,List.pairwise_map]
 refine List.pairwise_lt_range.imp_of_mem fun {a b} ha hb h e=>?_
 have:=NG a b (by have:=List.mem_range.mp ha; omega) (by have:=List.mem_range.mp hb; omega) e
 omega
theorem mR {l:List (Str × Ck)} {x:Str} {c:Ck} (h:x ∉ l.map (·.1)):HS l x c = l ++ [(x,c)]:=by
 unfold HS
 rw [if_neg]
 intro z
 obtain ⟨p,hp,e⟩:=List.any_eq_true.mp z
 exact h (List.mem_map.mpr ⟨p,hp,by simpa using e⟩)
theorem Ly {l:List (Str × Ck)} {j:Nat} {p:Str × Ck} (h:(l.map (·.1)).Nodup) (hj:l[j]? = some p):p.1 ∉ (l.take j).map (·.1):=fun z=>by
 have e:l = l.take j ++ p :: l.drop (j + 1):=by
  have:=(List.take_append_drop j l).symm
  rwa [List.drop_eq_getElem_cons (List.getElem?_eq_some_iff.mp hj).1,(List.getElem?_eq_some_iff.mp hj).2] at this
 rw [e,List.map_append,List.map_cons] at h
 exact (List.nodup_append.mp h).2.2 _ z _ List.mem_cons_self rfl
noncomputable def Uu (ns:List Int):D→Option D
 | .int i=>some (.tup [.str (pq i.toNat),cR (xS ns (20 + 30 * i))])
 | _=>none
section
variable {ns:List Int} {C:Nat} {n:Nat} {a0 a1 a2 a3:Nat}
noncomputable abbrev iw (ns:List Int) (n a0 a1 a2 a3:Nat) (start:D) (s6 s7 s8 s9 uZ oX pZ sU:Sl) (C:Nat) (h0 h1 h2 h3:Hs):Ev :=
 [.sh (Nn ns),.sh start,.sh (.pt a0),.sh (.pt a1),.sh (.lst [.pt a2,.pt a3]),.sh (.lst ((eW ns n).map Oe)),s6,s7,s8,s9,uZ,oX,pZ,sU,.hb a0 C h0.fs,.hb a1 C h1.fs,.hb a2 C h2.fs,.hb a3 C h3.fs]
theorem KA {z:Int} (h0:0 ≤ z) (h1:z < 2):oV [D.pt a2,.pt a3] z = some (if z = 0 then .pt a2 else .pt a3):=by
 by_cases h:z = 0
 ·subst h; rfl
 ·have:z = 1:=by omega
  subst this; rfl
end
noncomputable def uH (ab:Nat):bC:=au (fA (Jk (dB (aD ve ((bH ab "tick" (bM ab) ((ae 2)) ((af ((ae 8)) (aw))))) ((o7 (aw))))) (dB (aD ve ((ae 13)) ((o7 (aw)))))) (bF (dC (.bl false))) (b8)) (bw 1 ((ae 8)))
noncomputable def uI (ab:Nat):bC:=au (bw 13 ((dz 1 (dw ((ae 11))) (cK 18) (Jk (dB (aD (qr fun i j=>.bl (decide (i < j))) ((aD (rF eC) ((ae 18)) (dC (.int 2)))) (dC (.int 1)))) (FQ (dB (xx (fun i j=>decide (i < j)) (fun i j=>decide (i ≤ j)) ((ae 1)) ((aD (rF eC) ((ae 18)) (dC (.int 1)))) ((ae 8)))))) ((ae 18))))) ((uH ab))
noncomputable def uJ (ab:Nat):bC:=au (fA (Jk (dB (aD ve ((ae 11)) ((bH ab "wake" (cg ab) ((ae 3)) ((af ((ae 8)) (aw))))))) (dB (aD ve ((ae 11)) ((ay km ((af ((aD (rF bD) ((bH ab "wake" (cg ab) ((aD (rF eC) ((ae 4)) (dC (.int 0)))) ((af ((ae 8)) (aw))))) ((bH ab "wake" (cg ab) ((aD (rF eC) ((ae 4)) (dC (.int 1)))) ((af ((ae 8)) (aw))))))) (aw)))))))) (bF (dC (.bl false))) (b8)) ((uI ab))
noncomputable def uK (ab:Nat):bC:=au (bw 11 ((bH ab "wake" (cg ab) ((ae 2)) ((af ((ae 8)) (aw)))))) ((uJ ab))
noncomputable def gq (ab:Nat):bC:=au (bw 8 ((aD (rF bD) ((ae 8)) ((ay aO ((af ((ae 0)) ((af ((aD (rF bD) (dC (.int 140)) ((ae 9)))) ((af (dC (.int 40)) (aw)))))))))))) ((uK ab))
noncomputable def uL (ab:Nat):bC:=au (fA (Jk (dB (aD ve ((ae 11)) ((bH ab "tick" (bM ab) ((ae 3)) ((af ((ae 8)) (aw))))))) (dB (aD ve ((ae 11)) ((ay km ((af ((aD (rF bD) ((bH ab "tick" (bM ab) ((aD (rF eC) ((ae 4)) (dC (.int 0)))) ((af ((ae 8)) (aw))))) ((bH ab "tick" (bM ab) ((aD (rF eC) ((ae 4)) (dC (.int 1)))) ((af ((ae 8)) (aw))))))) (aw)))))))) (bF (dC (.bl false))) (b8)) (fA (dB (aD gY ((aD (jV (fun _ j=>0 < j) fun i j=>.int (i % j)) ((ae 9)) (dC (.int 2)))) (dC (.int 0)))) (au (tV (dw ((aD (rF bD) ((o7 ((af ((ae 2)) ((af ((ae 3)) (aw))))))) ((ae 4))))) (cK 12) (jy ((bH ab "sleep" (ck ab) ((ae 12)) (aw))))) ((gq ab))) (b8))
noncomputable def uM (ab:Nat):bC:=au (bw 11 ((bH ab "tick" (bM ab) ((ae 2)) ((af ((ae 8)) (aw)))))) ((uL ab))
noncomputable def iV (ab:Nat):bC:=au (bw 8 ((aD (rF bD) ((ae 8)) ((ay aO ((af ((ae 0)) ((af ((aD (rF bD) (dC (.int 130)) ((ae 9)))) ((af (dC (.int 40)) (aw)))))))))))) ((uM ab))
noncomputable def oP (ab:Nat):bC:=au (fA (Jk (dB (aD ve ((ae 10)) ((bH ab "next_due" (br ab) ((ae 3)) (aw))))) (dB (aD ve ((ae 10)) ((ay gL ((af ((mj 1 (dw ((ae 4))) (cK 18) (xu) ((bH ab "next_due" (br ab) ((ae 18)) (aw))))) (aw)))))))) (bF (dC (.bl false))) (b8)) ((iV ab))
noncomputable def x4 (ab:Nat):bC:=bF ((yE ((aD gY ((bH ab "names" (cq ab) ((ae 2)) (aw))) ((ay kj ((af ((aD (rF bD) ((bH ab "names" (cq ab) ((aD (rF eC) ((ae 4)) (dC (.int 0)))) (aw))) ((bH ab "names" (cq ab) ((aD (rF eC) ((ae 4)) (dC (.int 1)))) (aw))))) (aw))))))) ((aD gY ((bH ab "moment" (dJ ab) ((ae 2)) (aw))) ((ae 8))))))
noncomputable def Dx (ab:Nat):bC:=au (tV (jz ((af (dC (.int 4)) (aw)))) (cK 9) (au (bw 10 ((bH ab "next_due" (br ab) ((ae 2)) (aw)))) ((oP ab)))) ((x4 ab))
noncomputable def sV (ab:Nat):bC:=au (bw 8 ((ae 1))) ((Dx ab))
noncomputable def sW (ab:Nat):bC:=au (tV (dw ((Hn ((ae 5))))) (jo 6 7) (jy ((bH ab "put" (dI ab) ((ae 3)) ((af ((ae 6)) ((af ((ae 7)) (aw))))))))) ((sV ab))
noncomputable def x5 (ab:Nat):bC:=au (tV (dw ((ae 5))) (jo 6 7) (au (jy ((bH ab "put" (dI ab) ((ae 2)) ((af ((ae 6)) ((af ((ae 7)) (aw)))))))) (jy ((bH ab "put" (dI ab) ((aD (rF eC) ((ae 4)) ((ay aO ((af ((ae 0)) ((af ((aD (rF bD) (dC (.int 10)) ((Hr (dC (.str "pqr")) ((ae 6)))))) ((af (dC (.int 2)) (aw))))))))))) ((af ((ae 6)) ((af ((ae 7)) (aw)))))))))) ((sW ab))
noncomputable def Dy (ab:Nat):bC:=au (bw 5 ((dz 1 (jz ((af ((ay aO ((af ((ae 0)) ((af (dC (.int 1)) ((af (dC (.int 4)) (aw))))))))) (aw)))) (cK 18) (xu) ((tQ ((af ((CT "pqr" ((ae 18)))) ((af ((ay gK ((af ((ae 0)) ((af ((aD (rF bD) (dC (.int 20)) ((aD (jV lz fun i j=>.int (i * j)) (dC (.int 30)) ((ae 18)))))) (aw))))))) (aw)))))))))) ((x5 ab))
noncomputable def Dz (ab:Nat):bC:=au (bw 4 ((o7 ((af ((EA 16 ab (cf ab) ((af ((ae 1)) (aw))))) ((af ((EA 17 ab (cf ab) ((af ((ae 1)) (aw))))) (aw)))))))) ((Dy ab))
noncomputable def DB (ab:Nat):bC:=au (bw 3 ((EA 15 ab (cf ab) ((af ((ae 1)) (aw)))))) ((Dz ab))
noncomputable def DC (ab:Nat):bC:=au (bw 2 ((EA 14 ab (cf ab) ((af ((ae 1)) (aw)))))) ((DB ab))
noncomputable def Ic (ab:Nat):bC:=au (bw 1 ((ay aO ((af ((ae 0)) ((af (dC (.int 0)) ((af (dC (.int 20)) (aw)))))))))) ((DC ab))
section
variable {ns:List Int} {C:Nat} {n:Nat} {a0 a1 a2 a3:Nat} {Q:D→Prop} {st:Int}
noncomputable abbrev End (Q:D→Prop):tR:={ nx:=fun _=>Q .aU,rt:=fun d _=>Q d }
theorem Ie (hl:ns.length ≤ 63) (hn:n ≤ 3) (k:∀ s6 s7 c0 c1,(c0 ++ c1).Perm (eW ns n)→sW C (End Q) (iw ns n a0 a1 a2 a3 (.int st) s6 s7 .no .no .no .no .no .no C ⟨st,eW ns n,false⟩ ⟨st,[],false⟩ ⟨st,c0,false⟩ ⟨st,c1,false⟩)) :
  x5 C (End Q) (iw ns n a0 a1 a2 a3 (.int st) .no .no .no .no .no .no .no .no C ⟨st,[],false⟩ ⟨st,[],false⟩ ⟨st,[],false⟩ ⟨st,[],false⟩):=by
 have ln:(eW ns n).length = n:=by unfold eW; rw [List.length_map,List.length_range]
 simp! only [x5]
 refine j7 (fun j δ=>∃ s6 s7 c0 c1,(c0 ++ c1).Perm ((eW ns n).take j)∧δ = iw ns n a0 a1 a2 a3 (.int st) s6 s7 .no .no .no .no .no .no C ⟨st,(eW ns n).take j,false⟩ ⟨st,[],false⟩ ⟨st,c0,false⟩ ⟨st,c1,false⟩) ((eW ns n).map Oe) _ (fun Q h1=>?_) ⟨.no,.no,[],[],.nil,rfl⟩ ?_ ?_
 ·simp! only [Dl.au]; exact h1
 ·rintro j d δ hj ⟨s6,s7,c0,c1,pm,rfl⟩
  rw [List.getElem?_map] at hj
  cases er:(eW ns n)[j]? with
  | none=>rw [er] at hj; cases hj
  | some p =>
   rw [er] at hj
   cases hj
   obtain ⟨hjn,ep⟩:=Ib er
   have E2:=Ly (Dw (ns:=ns) hn) er
   have hlen:((eW ns n).take j).length ≤ 3:=by rw [List.length_take]; omega
   have lc:=pm.length_eq
   rw [List.length_append] at lc
   have Uv:p.1 ∉ c0.map (·.1):=fun z=>E2 (by
    obtain ⟨x,hx,e⟩:=List.mem_map.mp z
    exact List.mem_map.mpr ⟨x,pm.mem_iff.mp (List.mem_append_left _ hx),e⟩)
   have Uw:p.1 ∉ c1.map (·.1):=fun z=>E2 (by
    obtain ⟨x,hx,e⟩:=List.mem_map.mp z
    exact List.mem_map.mpr ⟨x,pm.mem_iff.mp (List.mem_append_right _ hx),e⟩)
   simp! only [iw,Oe]
   refine ⟨14,_,rfl,rfl,_,rfl,⟨st,(eW ns n).take j,false⟩,p.1,p.2,rfl,rfl,Nat.lt_of_le_of_lt hlen (by decide),?_⟩
   simp! only [Dl.au]
   have oc:Builtin.Str.occurrences "pqr" p.1 0 ("pqr":Str).length 1 = [j]:=by rw [ep]; exact NF j (by omega)
   refine ⟨j,[],oc,?_⟩
   refine jq hl (by omega) (by decide) fun z ez z0 z1=>?_
   refine ⟨_,KA z0 z1,?_⟩
   by_cases h:z = 0
   ·rw [if_pos h]
    simp! only [Dl.au]
    refine ⟨16,_,rfl,rfl,_,rfl,⟨st,c0,false⟩,p.1,p.2,rfl,rfl,Nat.lt_of_le_of_lt (show c0.length ≤ 3 by omega) (by decide),?_⟩
    simp! only [Dl.au]
    refine ⟨.sh (.str p.1),.sh (cR p.2),c0 ++ [p],c1,?_,?_⟩
    ·rw [take_snoc er]
     refine List.Perm.trans ?_ (pm.append_right _)
     rw [List.append_assoc,List.append_assoc]
     exact List.Perm.append_left _ List.perm_append_comm
    ·simp only [iw,take_snoc er]
     rw [mR E2,mR Uv]
   ·rw [if_neg h]
    simp! only [Dl.au]
    refine ⟨17,_,rfl,rfl,_,rfl,⟨st,c1,false⟩,p.1,p.2,rfl,rfl,Nat.lt_of_le_of_lt (show c1.length ≤ 3 by omega) (by decide),?_⟩
    simp! only [Dl.au]
    refine ⟨.sh (.str p.1),.sh (cR p.2),c0,c1 ++ [p],?_,?_⟩
    ·rw [take_snoc er,← List.append_assoc]
     exact pm.append_right _
    ·simp only [iw,take_snoc er]
     rw [mR E2,mR Uw]
 ·rintro δ ⟨s6,s7,c0,c1,pm,rfl⟩
  rw [List.length_map,List.take_length] at pm ⊢
  exact k s6 s7 c0 c1 pm
theorem Ig (hn:n ≤ 3) {s6 s7:Sl} {hw h2 h3:Hs} (k:∀ s6 s7,sV C (End Q) (iw ns n a0 a1 a2 a3 (.int st) s6 s7 .no .no .no .no .no .no C hw ⟨st,(eW ns n).reverse,false⟩ h2 h3)) :
  sW C (End Q) (iw ns n a0 a1 a2 a3 (.int st) s6 s7 .no .no .no .no .no .no C hw ⟨st,[],false⟩ h2 h3):=by
 have ln:(eW ns n).length = n:=by unfold eW; rw [List.length_map,List.length_range]
 have nd:((eW ns n).reverse.map (·.1)).Nodup:=by rw [List.map_reverse]; exact (List.reverse_perm _).nodup_iff.mpr (Dw hn)
 simp! only [sW]
 refine j7 (fun j δ=>∃ s6 s7,δ = iw ns n a0 a1 a2 a3 (.int st) s6 s7 .no .no .no .no .no .no C hw ⟨st,(eW ns n).reverse.take j,false⟩ h2 h3) ((eW ns n).reverse.map Oe) _ (fun Q h1=>?_) ⟨s6,s7,rfl⟩ ?_ ?_
 ·simp! only [Dl.au]; rw [← List.map_reverse]; exact h1
 ·rintro j d δ hj ⟨s6,s7,rfl⟩
  rw [List.getElem?_map] at hj
  cases er:(eW ns n).reverse[j]? with
  | none=>rw [er] at hj; cases hj
  | some p =>
   rw [er] at hj
   cases hj
   have E2:=Ly nd er
   have hlen:((eW ns n).reverse.take j).length ≤ 3:=by rw [List.length_take,List.length_reverse]; omega
   simp! only [iw,Oe]
   refine ⟨15,_,rfl,rfl,_,rfl,⟨st,(eW ns n).reverse.take j,false⟩,p.1,p.2,rfl,rfl,Nat.lt_of_le_of_lt hlen (by decide),?_⟩
   simp! only [Dl.au]
   refine ⟨.sh (.str p.1),.sh (cR p.2),?_⟩
   simp only [iw,take_snoc er]
   rw [mR E2]
 ·rintro δ ⟨s6,s7,rfl⟩
  rw [List.length_map,List.take_length]
  exact k s6 s7
structure Cfg (cw ct c0 c1:List (Str × Ck)):Prop where
 pt:ct.Perm cw
 pp:(c0 ++ c1).Perm cw
 ok:∀ p ∈ cw,Ok p.2
 so:∀ p ∈ cw,PyData.strOk p.1 = true
 ln:cw.length ≤ 3
section
variable {cw ct c0 c1:List (Str × Ck)} (W:Cfg cw ct c0 c1)
include W
theorem Cfg.m0 {p:Str × Ck} (h:p ∈ c0):p ∈ cw:=W.pp.mem_iff.mp (List.mem_append_left _ h)
theorem Cfg.m1 {p:Str × Ck} (h:p ∈ c1):p ∈ cw:=W.pp.mem_iff.mp (List.mem_append_right _ h)
theorem Cfg.l0:c0.length ≤ 3:=by have:=W.pp.length_eq; rw [List.length_append] at this; have:=W.ln; omega
theorem Cfg.l1:c1.length ≤ 3:=by have:=W.pp.length_eq; rw [List.length_append] at this; have:=W.ln; omega
theorem Cfg.lt:ct.length ≤ 3:=by have:=W.pt.length_eq; have:=W.ln; omega
end
section
variable {cw ct c0 c1:List (Str × Ck)} {E:tR} {start now:Int} {s6 s7 s9 uZ oX pZ sU:Sl} {b:Bool}
noncomputable abbrev h4 (ns:List Int) (n a0 a1 a2 a3 C:Nat) (start:Int) (cw ct c0 c1:List (Str × Ck)) (re:Int) (b:Bool) (s6 s7 s8 s9 uZ oX pZ sU:Sl):Ev:=iw ns n a0 a1 a2 a3 (.int start) s6 s7 s8 s9 uZ oX pZ sU C ⟨re,cw,b⟩ ⟨re,ct,b⟩ ⟨re,c0,b⟩ ⟨re,c1,b⟩
noncomputable def Ih (a2:Nat) (c0 c1:List (Str × Ck)) (now:Int):D→Option D
 | .pt a=>some (eA (if a = a2 then uG c0 now else uG c1 now))
 | _=>none
theorem Ql (W:Cfg cw ct c0 c1) (ne:a2 ≠ a3) (Ae:now ≤ 10000000) {r:Due} (hr:dt cw now r) (k:iV C E (h4 ns n a0 a1 a2 a3 C start cw ct c0 c1 now b s6 s7 (.sh (.int now)) s9 (.sh (eA r)) oX pZ sU)) :
  oP C E (h4 ns n a0 a1 a2 a3 C start cw ct c0 c1 now b s6 s7 (.sh (.int now)) s9 (.sh (eA r)) oX pZ sU):=by
 have Lx:(eA r).ok = true∧(eA r).dep ≤ 2:=Dt fun v e=>(hr.names W.so v e).1
 simp! only [oP,h4,iw]
 refine ⟨15,_,rfl,rfl,_,rfl,sT (h:=⟨now,ct,b⟩) Ae (by have:=W.lt; show ct.length < 60; omega) (fun p hp=>W.ok p (W.pt.mem_iff.mp hp)) fun r1 Rp=>?_⟩
 have e1:r1 = r:=dt.unique W.pt Rp hr
 subst e1
 simp! only [Dl.au]
 refine ⟨NC Lx.1 Lx.1 Lx.2 (by decide),?_⟩
 refine fC (fun z=>absurd z (by rw [uD]; decide)) fun _=>?_
 refine wH [.pt a2,.pt a3] (Ih a2 c0 c1 now) (fun Q h1=>?_) (fun d hd as=>?_) ?_ ?_
 ·simp! only [Dl.au]; exact h1
 ·have hd:d = .pt a2∨d = .pt a3:=by simpa using hd
  rcases hd with rfl | rfl
  ·simp! only [Dl.au]
   refine ⟨16,_,rfl,rfl,_,rfl,sT (h:=⟨now,c0,b⟩) Ae (by have:=W.l0; show c0.length < 60; omega) (fun p hp=>W.ok p (W.m0 hp)) fun r0 Ux=>?_⟩
   have e0:r0 = uG c0 now:=dt.unique (.refl _) Ux (nz c0 now)
   subst e0
   simp! only [Ih]
   rfl
  ·simp! only [Dl.au]
   refine ⟨17,_,rfl,rfl,_,rfl,sT (h:=⟨now,c1,b⟩) Ae (by have:=W.l1; show c1.length < 60; omega) (fun p hp=>W.ok p (W.m1 hp)) fun r0 Ux=>?_⟩
   have e0:r0 = uG c1 now:=dt.unique (.refl _) Ux (nz c1 now)
   subst e0
   simp! only [Ih,if_neg (Ne.symm ne)]
   rfl
 ·exact Nat.le_of_lt (bA (show 2 ≤ 10000000 by decide))
 have ef:[D.pt a2,D.pt a3].filterMap (Ih a2 c0 c1 now) = [uG c0 now,uG c1 now].map eA:=by
  simp [List.filterMap_cons,Ih,Ne.symm ne]
 rw [ef]
 obtain ⟨f1,f2⟩:=dt.first W.pp (nz c0 now) (nz c1 now)
 have nm:∀ v ∈ [uG c0 now,uG c1 now].filterMap id,(∀ x ∈ v.2,PyData.strOk x = true)∧v.2.length ≤ 10:=fun v hv=>by
  obtain ⟨a,ha,e⟩:=List.mem_filterMap.mp hv
  have e:a = some v:=e
  have ha:a = uG c0 now∨a = uG c1 now:=by simpa using ha
  rcases ha with rfl | rfl
  ·obtain ⟨x1,x2⟩:=(nz c0 now).names (fun p hp=>W.so p (W.m0 hp)) v e
   exact ⟨x1,by have:=W.l0; omega⟩
  ·obtain ⟨x1,x2⟩:=(nz c1 now).names (fun p hp=>W.so p (W.m1 hp)) v e
   exact ⟨x1,by have:=W.l1; omega⟩
 have fin:∀ r',dt cw now r'→j5 (eA r1) (eA r')∧if gX (eA r1) (eA r') = false then E.rt (D.bl false) (h4 ns n a0 a1 a2 a3 C start cw ct c0 c1 now b s6 s7 (.sh (.int now)) s9 (.sh (eA r1)) oX pZ sU) else iV C E (h4 ns n a0 a1 a2 a3 C start cw ct c0 c1 now b s6 s7 (.sh (.int now)) s9 (.sh (eA r1)) oX pZ sU):=fun r' hr'=>by
  have e':r' = r1:=dt.unique (.refl _) hr' hr
  subst e'
  exact ⟨NC Lx.1 Lx.1 Lx.2 (by decide),fC (fun z=>absurd z (by rw [uD]; decide)) fun _=>k⟩
 exact ⟨_,rfl,Nat.lt_of_lt_of_le (show 2 < 3 by decide) (by decide),fun v hv=>(nm v hv).1,fun v hv=>(nm v hv).2,Nat.le_trans (show 2 ≤ 2 by decide) (by decide),fun z=>fin none (f1 z),fun m hm sq ms pm so=>fin (some (m,ms)) (f2 m hm sq ms pm so)⟩
theorem DD {α β:Type} (l:List α):l.filterMap (fun _=>(none:Option β)) = []:=by
 induction l with
 | nil=>rfl
 | cons a r ih=>simp
theorem Cq (W:Cfg cw ct c0 c1) {a e:Int} {m0 m1 ms mw:List (List Key)} (h0:m0.Perm (cA c0 a e)) (h1:m1.Perm (cA c1 a e)) (hs:ms.Perm (m0 ++ m1)) (ks:KS ms) (hw:mw.Perm (cA cw a e)) (kw:KS mw):ms = mw:=by
 have p:ms.Perm (cA cw a e):=hs.trans ((h0.append h1).trans (by rw [← qF]; exact uy W.pp a e))
 exact jJ (p.trans hw.symm) (fun k hk=>mC k (p.mem_iff.mp hk)) ks kw
theorem Cr (W:Cfg cw ct c0 c1) {a e:Int} {m0 m1 ms mw:List (List Key)} (h0:m0.Perm (fN c0 a e)) (h1:m1.Perm (fN c1 a e)) (hs:ms.Perm (m0 ++ m1)) (ks:KS ms) (hw:mw.Perm (fN cw a e)) (kw:KS mw):ms = mw:=by
 have p:ms.Perm (fN cw a e):=hs.trans ((h0.append h1).trans (by rw [← qG]; exact uz W.pp a e))
 exact jJ (p.trans hw.symm) (fun k hk=>mD k (p.mem_iff.mp hk)) ks kw
theorem Am {m0 m1:List (List Key)} {k:D→Prop} (h:m0.length + m1.length ≤ 1000000) (q:k (.lst ((m0 ++ m1).map tD))):∃ d,(if (m0.map tD).length + (m1.map tD).length ≤ sizeLine then some (D.lst (m0.map tD ++ m1.map tD)) else none) = some d∧k d:=by
 refine ⟨_,if_pos (by rw [List.length_map,List.length_map]; exact Nat.le_of_lt (bA (by omega))),?_⟩
 rw [← List.map_append]; exact q
theorem An {cl:List (Str × Ck)} {a e:Int} {ms:List (List Key)} (h:ms.Perm (cA cl a e)) (hl:cl.length ≤ 3) (he:e ≤ a + 100):ms.length ≤ 300:=by
 rw [h.length_eq]
 exact Nat.le_trans wD (Nat.le_trans (Nat.mul_le_mul hl (show (e - a).toNat ≤ 100 by omega)) (by decide))
theorem Ao {cl:List (Str × Ck)} {a e:Int} {ms:List (List Key)} (h:ms.Perm (fN cl a e)) (hl:cl.length ≤ 3):ms.length ≤ 3:=by
 rw [h.length_eq]
 exact Nat.le_trans (List.length_filterMap_le ..) hl
theorem NH (hl:ns.length ≤ 63) (W:Cfg cw ct c0 c1) {kk:Int} (k0:0 ≤ kk) (Uy:0 ≤ now) (Ae:now ≤ 100000)
  (kB:∀ (now':Int) (oX:Sl),now ≤ now'→now' ≤ now + 40→kk % 2 = 0→tV (dw ((aD (rF bD) ((o7 ((af ((ae 2)) ((af ((ae 3)) (aw))))))) ((ae 4))))) (cK 12) (jy ((bH C "sleep" (ck C) ((ae 12)) (aw)))) { E with nx:=gq C E } (h4 ns n a0 a1 a2 a3 C start cw ct c0 c1 now' false s6 s7 (.sh (.int now')) (.sh (.int kk)) uZ oX pZ sU))
  (kN:∀ (now':Int) (oX:Sl),now ≤ now'→now' ≤ now + 40→E.nx (h4 ns n a0 a1 a2 a3 C start cw ct c0 c1 now' false s6 s7 (.sh (.int now')) (.sh (.int kk)) uZ oX pZ sU)) :
  iV C E (h4 ns n a0 a1 a2 a3 C start cw ct c0 c1 now false s6 s7 (.sh (.int now)) (.sh (.int kk)) uZ oX pZ sU):=by
 simp! only [iV,uM,uL,h4,iw]
 refine jq hl (by omega) (by decide) fun dr edr d0 d1=>?_
 simp! only [Dl.au]
 have okw:=W.ok
 refine ⟨14,_,rfl,rfl,_,rfl,⟨now,cw,false⟩,now + dr,rfl,rfl,by show now ≤ _; omega,by omega,by show _ ≤ now + _; omega,Nat.le_trans W.ln (by decide),W.ok,fun mw pw sw=>?_⟩
 simp! only [Dl.au]
 refine ⟨15,_,rfl,rfl,_,rfl,⟨now,ct,false⟩,now + dr,rfl,rfl,by show now ≤ _; omega,by omega,by show _ ≤ now + _; omega,Nat.le_trans W.lt (by decide),fun p hp=>W.ok p (W.pt.mem_iff.mp hp),fun mt pt' st'=>?_⟩
 have et:mt = mw:=jJ (pt'.trans ((uy W.pt _ _).trans pw.symm)) (fun k hk=>mC k (pt'.mem_iff.mp hk)) st' sw
 subst et
 obtain ⟨o1,o2⟩:=Dr (Ky W.so pw)
 simp! only [Dl.au]
 refine ⟨NC o1 o1 o2 (by decide),?_⟩
 refine fC (fun z=>absurd z (by rw [ff]; decide)) fun _=>?_
 refine ⟨16,_,rfl,rfl,_,rfl,⟨now,c0,false⟩,now + dr,rfl,rfl,by show now ≤ _; omega,by omega,by show _ ≤ now + _; omega,Nat.le_trans W.l0 (by decide),fun p hp=>W.ok p (W.m0 hp),fun m0 p0 s0=>?_⟩
 simp! only [Dl.au]
 refine ⟨17,_,rfl,rfl,_,rfl,⟨now,c1,false⟩,now + dr,rfl,rfl,by show now ≤ _; omega,by omega,by show _ ≤ now + _; omega,Nat.le_trans W.l1 (by decide),fun p hp=>W.ok p (W.m1 hp),fun m1 p1 s1=>?_⟩
 simp! only [Dl.au]
 have l0:=An p0 W.l0 (by show _ ≤ now + _; omega)
 have l1:=An p1 W.l1 (by show _ ≤ now + _; omega)
 refine Am (by omega) ⟨_,[false,true],rfl,fun k hk=>?_,by decide,fun ms pm sm=>?_⟩
 ·rcases List.mem_append.mp hk with hk | hk
  ·exact mC k (p0.mem_iff.mp hk)
  ·exact mC k (p1.mem_iff.mp hk)
 have em:ms = mt:=Cq W p0 p1 pm sm pw sw
 subst em
 refine ⟨NC o1 o1 o2 (by decide),?_⟩
 refine fC (fun z=>absurd z (by rw [ff]; decide)) fun _=>⟨by decide,?_⟩
 exact fC (fun z=>kB (now + dr) _ (by omega) (by omega) z) fun z=>kN (now + dr) _ (by omega) (by omega)
noncomputable def bt (i j:Nat):Bool:=decide (i < j)
theorem KC (k:∀ pZ,gq C E (h4 ns n a0 a1 a2 a3 C start cw ct c0 c1 now true s6 s7 (.sh (.int now)) s9 uZ oX pZ sU)) :
  tV (dw ((aD (rF bD) ((o7 ((af ((ae 2)) ((af ((ae 3)) (aw))))))) ((ae 4))))) (cK 12) (jy ((bH C "sleep" (ck C) ((ae 12)) (aw)))) { E with nx:=gq C E } (h4 ns n a0 a1 a2 a3 C start cw ct c0 c1 now false s6 s7 (.sh (.int now)) s9 uZ oX pZ sU):=by
 refine j7 (fun j δ=>∃ pZ,δ = iw ns n a0 a1 a2 a3 (.int start) s6 s7 (.sh (.int now)) s9 uZ oX pZ sU C ⟨now,cw,bt 0 j⟩ ⟨now,ct,bt 1 j⟩ ⟨now,c0,bt 2 j⟩ ⟨now,c1,bt 3 j⟩) [.pt a0,.pt a1,.pt a2,.pt a3] (h4 ns n a0 a1 a2 a3 C start cw ct c0 c1 now false s6 s7 (.sh (.int now)) s9 uZ oX pZ sU) (fun Q h1=>?_) ⟨pZ,rfl⟩ ?_ ?_
 ·simp! only [h4,iw]
  exact h1
 ·rintro j d δ hj ⟨pZ,rfl⟩
  match j,hj with
  | 0,hj =>
   cases hj
   simp! only [iw]
   refine ⟨14,_,rfl,rfl,_,rfl,⟨now,cw,false⟩,rfl,rfl,?_⟩
   simp! only [Dl.au]
   exact ⟨_,rfl⟩
  | 1,hj =>
   cases hj
   simp! only [iw]
   refine ⟨15,_,rfl,rfl,_,rfl,⟨now,ct,false⟩,rfl,rfl,?_⟩
   simp! only [Dl.au]
   exact ⟨_,rfl⟩
  | 2,hj =>
   cases hj
   simp! only [iw]
   refine ⟨16,_,rfl,rfl,_,rfl,⟨now,c0,false⟩,rfl,rfl,?_⟩
   simp! only [Dl.au]
   exact ⟨_,rfl⟩
  | 3,hj =>
   cases hj
   simp! only [iw]
   refine ⟨17,_,rfl,rfl,_,rfl,⟨now,c1,false⟩,rfl,rfl,?_⟩
   simp! only [Dl.au]
   exact ⟨_,rfl⟩
  | _ + 4,hj=>simp at hj
 ·rintro δ ⟨pZ,rfl⟩
  exact k pZ
theorem NI (hl:ns.length ≤ 63) (W:Cfg cw ct c0 c1) {kk:Int} (k0:0 ≤ kk) (ZW:start ≤ now) (Uy:0 ≤ now) (Ae:now ≤ 100000)
  (kN:∀ (now':Int) (oX sU:Sl),now ≤ now'→now' ≤ now + 40→E.nx (h4 ns n a0 a1 a2 a3 C now' cw ct c0 c1 now' false s6 s7 (.sh (.int now')) (.sh (.int kk)) uZ oX pZ sU)) :
  gq C E (h4 ns n a0 a1 a2 a3 C start cw ct c0 c1 now true s6 s7 (.sh (.int now)) (.sh (.int kk)) uZ oX pZ sU):=by
 simp! only [gq,uK,uJ,uI,uH,h4,iw]
 refine jq hl (by omega) (by decide) fun dr edr d0 d1=>?_
 simp! only [Dl.au]
 refine ⟨14,_,rfl,rfl,_,rfl,⟨now,cw,true⟩,now + dr,rfl,rfl,by show -1 ≤ now; omega,by show now ≤ _; omega,by omega,Nat.le_trans W.ln (by decide),W.ok,fun mw pw sw=>?_⟩
 simp! only [Dl.au]
 refine ⟨15,_,rfl,rfl,_,rfl,⟨now,ct,true⟩,now + dr,rfl,rfl,by show -1 ≤ now; omega,by show now ≤ _; omega,by omega,Nat.le_trans W.lt (by decide),fun p hp=>W.ok p (W.pt.mem_iff.mp hp),fun mt pt' st'=>?_⟩
 have et:mt = mw:=jJ (pt'.trans ((uz W.pt _ _).trans pw.symm)) (fun k hk=>mD k (pt'.mem_iff.mp hk)) st' sw
 subst et
 obtain ⟨o1,o2⟩:=Dr (Ia W.so pw)
 simp! only [Dl.au]
 refine ⟨NC o1 o1 o2 (by decide),?_⟩
 refine fC (fun z=>absurd z (by rw [ff]; decide)) fun _=>?_
 refine ⟨16,_,rfl,rfl,_,rfl,⟨now,c0,true⟩,now + dr,rfl,rfl,by show -1 ≤ now; omega,by show now ≤ _; omega,by omega,Nat.le_trans W.l0 (by decide),fun p hp=>W.ok p (W.m0 hp),fun m0 p0 s0=>?_⟩
 simp! only [Dl.au]
 refine ⟨17,_,rfl,rfl,_,rfl,⟨now,c1,true⟩,now + dr,rfl,rfl,by show -1 ≤ now; omega,by show now ≤ _; omega,by omega,Nat.le_trans W.l1 (by decide),fun p hp=>W.ok p (W.m1 hp),fun m1 p1 s1=>?_⟩
 simp! only [Dl.au]
 have l0:=Ao p0 W.l0
 have l1:=Ao p1 W.l1
 refine Am (by omega) ⟨_,[true,false,false],rfl,fun k hk=>?_,by decide,fun ms pm sm=>?_⟩
 ·rcases List.mem_append.mp hk with hk | hk
  ·exact mD k (p0.mem_iff.mp hk)
  ·exact mD k (p1.mem_iff.mp hk)
 have em:ms = mt:=Cr W p0 p1 pm sm pw sw
 subst em
 refine ⟨NC o1 o1 o2 (by decide),?_⟩
 refine fC (fun z=>absurd z (by rw [ff]; decide)) fun _=>?_
 refine eF (ms.map tD) (fun _=>none) (fun Q h1=>?_) (fun d hd=>?_) ?_ ?_
 ·simp! only [Dl.au]; exact h1
 ·obtain ⟨k,hk,rfl⟩:=List.mem_map.mp hd
  obtain ⟨x,t,m,rfl,_,h1,h2,h3⟩:=Dv W.so pw k hk
  have h1:now < t:=h1
  simp! only [tD,dK]
  rw [if_neg (by omega),if_pos (by omega),if_pos h2]; trivial
 ·rw [DD]; exact Nat.zero_le _
 rw [DD]
 simp! only [Dl.au]
 refine ⟨14,_,rfl,rfl,_,rfl,⟨now + dr,cw,false⟩,now + dr,rfl,rfl,Int.le_refl _,by omega,by show _ ≤ now + dr + _; omega,Nat.le_trans W.ln (by decide),W.ok,fun mz pz sz=>?_⟩
 have ez:mz = []:=by
  have pz:mz.Perm (cA cw (now + dr) (now + dr)):=pz
  rw [E1] at pz
  exact pz.eq_nil
 subst ez
 simp! only [Dl.au]
 exact ⟨ZQ (by decide),ZQ (by decide),kN (now + dr) _ _ (by omega) (by omega)⟩
theorem KD (W:Cfg cw ct c0 c1) (Lq:now ≤ 1000000) (q:Q (.bl true)):x4 C (End Q) (h4 ns n a0 a1 a2 a3 C start cw ct c0 c1 now false s6 s7 (.sh (.int now)) s9 uZ oX pZ sU):=by
 have lw:=W.ln
 have l0:=W.l0
 have l1:=W.l1
 simp! only [x4,h4,iw]
 refine ⟨14,_,rfl,rfl,_,rfl,⟨now,cw,false⟩,rfl,by show cw.length < 60; omega,fun mw pw tw=>?_⟩
 simp! only [Dl.au]
 refine ⟨16,_,rfl,rfl,_,rfl,⟨now,c0,false⟩,rfl,by show c0.length < 60; omega,fun m0 p0 t0=>?_⟩
 simp! only [Dl.au]
 refine ⟨17,_,rfl,rfl,_,rfl,⟨now,c1,false⟩,rfl,by show c1.length < 60; omega,fun m1 p1 t1=>?_⟩
 have e0:m0.length ≤ 3:=by rw [p0.length_eq,List.length_map]; exact l0
 have e1:m1.length ≤ 3:=by rw [p1.length_eq,List.length_map]; exact l1
 simp! only [Dl.au]
 refine ⟨_,if_pos (by rw [List.length_map,List.length_map]; exact Nat.le_of_lt (bA (by omega))),?_⟩
 refine ⟨m0 ++ m1,by rw [List.map_append],by rw [List.length_append]; omega,fun ms pm tm=>?_⟩
 have em:ms = mw:=by
  refine oO (pm.trans ((p0.append p1).trans ?_)) tm tw
  have:=(W.pp.map (·.1)).trans pw.symm
  rw [List.map_append] at this
  exact this
 subst em
 have so:∀ x ∈ ms,PyData.strOk x = true:=fun x hx=>by
  obtain ⟨p,hp,rfl⟩:=List.mem_map.mp (pw.mem_iff.mp hx)
  exact W.so p hp
 obtain ⟨o1,o2⟩:=Ds so
 refine ⟨NC o1 o1 o2 (by decide),fC (fun _=>?_) fun z=>absurd (ff _) z⟩
 refine ⟨14,_,rfl,rfl,_,rfl,⟨now,cw,false⟩,rfl,?_⟩
 simp! only [Dl.au]
 exact q
theorem Ii (hl:ns.length ≤ 63) (ne:a2 ≠ a3) (W:Cfg cw ct c0 c1) (ZW:0 ≤ st) (TZ:st < 20) (q:Q (.bl true)):sV C (End Q) (h4 ns n a0 a1 a2 a3 C st cw ct c0 c1 st false s6 s7 .no .no .no .no .no .no):=by
 simp! only [sV,Dx,h4,iw]
 refine j7 (fun j δ=>∃ (start now:Int) (s9 uZ oX pZ sU:Sl),δ = h4 ns n a0 a1 a2 a3 C start cw ct c0 c1 now false s6 s7 (.sh (.int now)) s9 uZ oX pZ sU∧start ≤ now∧0 ≤ now∧now ≤ 20 + 80 * (j:Nat)) (bU 0 4) _ (fun Q h1=>?_) ⟨st,st,.no,.no,.no,.no,.no,rfl,Int.le_refl _,ZW,by omega⟩ ?_ ?_
 ·simp! only [Dl.au]
  exact ⟨by decide,by decide,h1⟩
 ·rintro j d δ hj ⟨start,now,s9,uZ,oX,pZ,sU,rfl,b1,b2,b3⟩
  obtain ⟨rfl,hj4⟩:=B7 hj
  simp! only [h4,iw]
  refine ⟨14,_,rfl,rfl,_,rfl,sT (h:=⟨now,cw,false⟩) (by show now ≤ _; omega) (by have:=W.ln; show cw.length < 60; omega) W.ok fun r hr=>?_⟩
  simp! only [Dl.au]
  refine Ql (C:=C) W ne (by omega) hr ?_
  refine NH (C:=C) hl W (by omega) b2 (by omega) (fun now' oX h1 h2 _=>?_) fun now' oX h1 h2=>?_
  ·refine KC (C:=C) fun pZ=>?_
   refine NI (C:=C) hl W (by omega) (by omega) (by omega) (by omega) fun Qm oX sU h3 h4=>?_
   exact ⟨Qm,Qm,_,_,_,_,_,rfl,Int.le_refl _,by omega,by omega⟩
  ·exact ⟨start,now',_,_,_,_,_,rfl,by omega,by omega,by omega⟩
 ·rintro δ ⟨start,now,s9,uZ,oX,pZ,sU,rfl,b1,b2,b3⟩
  have b3:now ≤ 20 + 80 * ((4:Nat):Int):=b3
  exact KD (C:=C) W (by omega) q
end
end
theorem Qn (C:Nat):∀ ds Q,uq ds Q→Ic C { nx:=fun _=>Q .aU,rt:=fun d _=>Q d } (bu ["_law_script","_law_start","_law_whole","_law_turned","_law_parts","_law_clocks","_law_name","_law_clock_here","_law_now","_law_k","_law_due","_law_told","_law_house","_law_odd","!h0","!h1","!h2","!h3"] ds):=by
 rintro ds Q ⟨ns,rfl,hl,q⟩
 simp! only [Ic,DC,DB,Dz,Dy]
 refine jq hl (by decide) (by decide) fun st est s0 s1=>?_
 refine ⟨by decide,st,rfl,fun a0 f0=>?_⟩
 refine ⟨by decide,st,rfl,fun a1 f1=>?_⟩
 refine ⟨by decide,st,rfl,fun a2 f2=>?_⟩
 refine ⟨by decide,st,rfl,fun a3 f3=>?_⟩
 have ne:a2 ≠ a3:=f3 16 a2 _ _ rfl
 obtain ⟨n,en⟩ : ∃ n,n = drawn ns 1 4:=⟨_,rfl⟩
 have n0:0 ≤ n:=by rw [en]; exact fI (by decide)
 have n1:n < 4:=by rw [en]; exact fJ (by decide)
 have ec:(bU 0 n.toNat).filterMap (Uu ns) = (eW ns n.toNat).map Oe:=by
  unfold bU eW
  rw [List.filterMap_map,List.map_map]
  refine ur fun i _=>?_
  show some (D.tup [.str (pq (0 + ((i:Nat):Int)).toNat),cR (xS ns (20 + 30 * (0 + ((i:Nat):Int))))]) = _
  rw [show (0 + ((i:Nat):Int)).toNat = i by omega,show (0 + ((i:Nat):Int)) = (i:Nat) by omega]; rfl
 refine eF (bU 0 n.toNat) (Uu ns) (fun Q h=>?_) (fun d hd=>?_) ?_ ?_
 ·simp! only [Dl.au]
  refine ⟨ns,_,_,rfl,hl,by decide,by decide,?_⟩
  simp! only [← en]
  exact ⟨by omega,by omega,h⟩
 ·rw [b9] at hd
  obtain ⟨x,hx,rfl⟩:=List.mem_map.mp hd
  obtain ⟨i,hi,rfl⟩:=List.mem_map.mp hx
  have hi:=List.mem_range.mp hi
  have e0:(0 + ((i:Nat):Int)) = (i:Nat):=by omega
  rw [e0]
  simp! only [Dl.au]
  refine ⟨_,Kz i (by omega),.inr ⟨by omega,by omega⟩,ns,_,rfl,hl,by omega,?_⟩
  simp! only [Uu]
  rfl
 ·rw [ec,List.length_map]
  unfold eW
  rw [List.length_map,List.length_range]
  exact Nat.le_of_lt (bA (by omega))
 rw [ec]
 refine Ie (C:=C) hl (by omega) fun s6 s7 c0 c1 pm=>?_
 refine Ig (C:=C) (by omega) fun s6 s7=>?_
 have W:Cfg (eW ns n.toNat) (eW ns n.toNat).reverse c0 c1:=⟨List.reverse_perm _,pm,fun p hp=>(Al hp).1,fun p hp=>(Al hp).2,by unfold eW; rw [List.length_map,List.length_range]; omega⟩
 exact Ii (C:=C) hl ne W s0 s1 q
end rV
namespace rV
open PySem L2 Dl
noncomputable def top (i:Nat):Stmt:=PySem.Challenge.pw_latebells_k53_whole_two_houses.main.body.getD i (.Pass ⟨0,0,0,0⟩)
noncomputable abbrev gr:Stmt:=top 33
noncomputable abbrev fg:Stmt:=top 34
noncomputable abbrev dR:Stmt:=inClass (top 31) 0
noncomputable abbrev cI:Stmt:=top 35
noncomputable abbrev bg:Stmt:=inClass (top 31) 10
noncomputable abbrev fh:Stmt:=inClass (top 31) 1
noncomputable abbrev bV:Stmt:=top 15
noncomputable abbrev bW:Stmt:=top 27
noncomputable abbrev bX:Stmt:=top 16
noncomputable abbrev fi:Stmt:=top 19
noncomputable abbrev eX:Stmt:=top 18
noncomputable abbrev dS:Stmt:=top 8
noncomputable abbrev fj:Stmt:=top 9
noncomputable abbrev bY:Stmt:=top 17
noncomputable abbrev fk:Stmt:=top 14
noncomputable abbrev aV:Stmt:=inClass (top 31) 9
noncomputable abbrev cJ:Stmt:=top 36
noncomputable abbrev cB:Stmt:=top 10
noncomputable abbrev eY:Stmt:=top 22
noncomputable abbrev bZ:Stmt:=top 21
noncomputable abbrev dU:Stmt:=top 29
noncomputable abbrev bK:Stmt:=top 28
noncomputable abbrev iJ:Stmt:=top 26
noncomputable abbrev ft:Stmt:=top 20
noncomputable abbrev bQ:Stmt:=top 24
noncomputable abbrev nA:Stmt:=top 23
noncomputable abbrev cM:Stmt:=inClass (top 31) 5
noncomputable abbrev de:Stmt:=inClass (top 31) 7
noncomputable abbrev gs:Stmt:=top 25
noncomputable abbrev dW:Stmt:=inClass (top 31) 8
noncomputable abbrev df:Stmt:=inClass (top 31) 4
noncomputable abbrev cC:Stmt:=inClass (top 31) 6
noncomputable abbrev kW:Stmt:=top 37
theorem rB:aK ["_law_script","_law_k"] ["_law_script","_law_k"] (ag gr):=⟨rfl,rfl,rfl,by decide +kernel,rfl,by decide +kernel,by decide +kernel⟩
theorem p4:aK ["_law_script","_law_k","_law_many","_law_cell_here"] ["_law_script","_law_k","_law_many"] (ag fg):=⟨rfl,rfl,rfl,by decide +kernel,rfl,by decide +kernel,by decide +kernel⟩
theorem n6:aK ["self","now"] ["self","now"] (ag dR):=⟨rfl,rfl,rfl,by decide +kernel,rfl,by decide +kernel,by decide +kernel⟩
theorem p5:aK ["_law_script","_law_at","_law_way","_law_one","_law_last","_law_days","_law_still"] ["_law_script","_law_at"] (ag cI):=⟨rfl,rfl,rfl,by decide +kernel,rfl,by decide +kernel,by decide +kernel⟩
theorem fO:aK ["self"] ["self"] (ag bg):=⟨rfl,rfl,rfl,by decide +kernel,rfl,by decide +kernel,by decide +kernel⟩
theorem p6:aK ["self","name","clock"] ["self","name","clock"] (ag fh):=⟨rfl,rfl,rfl,by decide +kernel,rfl,by decide +kernel,by decide +kernel⟩
theorem jL:aK ["clock","now"] ["clock","now"] (ag bV):=⟨rfl,rfl,rfl,by decide +kernel,rfl,by decide +kernel,by decide +kernel⟩
theorem jM:aK ["clock","moment","rung"] ["clock","moment"] (ag bW):=⟨rfl,rfl,rfl,by decide +kernel,rfl,by decide +kernel,by decide +kernel⟩
theorem jN:aK ["clock","now","rung"] ["clock","now"] (ag bX):=⟨rfl,rfl,rfl,by decide +kernel,rfl,by decide +kernel,by decide +kernel⟩
theorem p7:aK ["clock","moment"] ["clock","moment"] (ag fi):=⟨rfl,rfl,rfl,by decide +kernel,rfl,by decide +kernel,by decide +kernel⟩
theorem rC:aK ["clock","now","first","days"] ["clock","now"] (ag eX):=⟨rfl,rfl,rfl,by decide +kernel,rfl,by decide +kernel,by decide +kernel⟩
theorem n8:aK ["rising","most","low","high","middle"] ["rising","most"] (ag dS):=⟨rfl,rfl,rfl,by decide +kernel,rfl,by decide +kernel,by decide +kernel⟩
theorem p8:aK ["rising","number","place"] ["rising","number"] (ag fj):=⟨rfl,rfl,rfl,by decide +kernel,rfl,by decide +kernel,by decide +kernel⟩
theorem jO:aK ["clock","now","moment"] ["clock","now"] (ag bY):=⟨rfl,rfl,rfl,by decide +kernel,rfl,by decide +kernel,by decide +kernel⟩
theorem p9:aK ["clock","now"] ["clock","now"] (ag fk):=⟨rfl,rfl,rfl,by decide +kernel,rfl,by decide +kernel,by decide +kernel⟩
theorem i8:aK ["self","rows","dues","first"] ["self"] (ag aV):=⟨rfl,rfl,rfl,by decide +kernel,rfl,by decide +kernel,by decide +kernel⟩
theorem qb:aK ["_law_some","_law_rows","_law_moment","_law_names","_law_row"] ["_law_some"] (ag cJ):=⟨rfl,rfl,rfl,by decide +kernel,rfl,by decide +kernel,by decide +kernel⟩
theorem kX:aK ["earlier","now"] ["earlier","now"] (ag cB):=⟨rfl,rfl,rfl,by decide +kernel,rfl,by decide +kernel,by decide +kernel⟩
theorem rD:aK ["clock","now","gone","days"] ["clock","now"] (ag eY):=⟨rfl,rfl,rfl,by decide +kernel,rfl,by decide +kernel,by decide +kernel⟩
theorem jP:aK ["clock","now","moment"] ["clock","now"] (ag bZ):=⟨rfl,rfl,rfl,by decide +kernel,rfl,by decide +kernel,by decide +kernel⟩
theorem n9:aK ["clock","moment"] ["clock","moment"] (ag dU):=⟨rfl,rfl,rfl,by decide +kernel,rfl,by decide +kernel,by decide +kernel⟩
theorem jQ:aK ["clock","moment","days","set_for","still"] ["clock","moment"] (ag bK):=⟨rfl,rfl,rfl,by decide +kernel,rfl,by decide +kernel,by decide +kernel⟩
theorem uN:aK ["clock","moment"] ["clock","moment"] (ag iJ):=⟨rfl,rfl,rfl,by decide +kernel,rfl,by decide +kernel,by decide +kernel⟩
theorem qc:aK ["clock","now","rung"] ["clock","now"] (ag ft):=⟨rfl,rfl,rfl,by decide +kernel,rfl,by decide +kernel,by decide +kernel⟩
theorem i9:aK ["clock","first","end","told","moment"] ["clock","first","end"] (ag bQ):=⟨rfl,rfl,rfl,by decide +kernel,rfl,by decide +kernel,by decide +kernel⟩
theorem Ap:aK ["clock","start","end","first"] ["clock","start","end"] (ag nA):=⟨rfl,rfl,rfl,by decide +kernel,rfl,by decide +kernel,by decide +kernel⟩
theorem oa:aK ["self","now","told","name","clock"] ["self","now"] (ag cM):=⟨rfl,rfl,rfl,by decide +kernel,rfl,by decide +kernel,by decide +kernel⟩
theorem mS:aK ["self"] ["self"] (ag de):=⟨rfl,rfl,rfl,by decide +kernel,rfl,by decide +kernel,by decide +kernel⟩
theorem rE:aK ["clock","start","end"] ["clock","start","end"] (ag gs):=⟨rfl,rfl,rfl,by decide +kernel,rfl,by decide +kernel,by decide +kernel⟩
theorem og:aK ["self","now","told","name","clock","many"] ["self","now"] (ag dW):=⟨rfl,rfl,rfl,by decide +kernel,rfl,by decide +kernel,by decide +kernel⟩
theorem mT:aK ["self"] ["self"] (ag df):=⟨rfl,rfl,rfl,by decide +kernel,rfl,by decide +kernel,by decide +kernel⟩
theorem kY:aK ["self"] ["self"] (ag cC):=⟨rfl,rfl,rfl,by decide +kernel,rfl,by decide +kernel,by decide +kernel⟩
theorem Ij:aK ["_law_script","_law_start","_law_whole","_law_turned","_law_parts","_law_clocks","_law_name","_law_clock_here","_law_now","_law_k","_law_due","_law_told","_law_house","_law_odd","!h0","!h1","!h2","!h3"] ["_law_script"] (ag kW):=⟨rfl,rfl,rfl,by decide +kernel,rfl,by decide +kernel,by decide +kernel⟩
theorem NJ {P:List Value→Prop} (h:∀ a0,P [a0]):∀ us:List Value,us.length = 1→P us
 | [a0],_=>h a0
theorem vA {P:List Value→Prop} (h:∀ a0 a1,P [a0,a1]):∀ us:List Value,us.length = 2→P us
 | [a0,a1],_=>h a0 a1
theorem Qo {P:List Value→Prop} (h:∀ a0 a1 a2,P [a0,a1,a2]):∀ us:List Value,us.length = 3→P us
 | [a0,a1,a2],_=>h a0 a1 a2
set_option genInjectivity false in
set_option genSizeOf false in
structure Ad where
 kD:Addr
 kE:FuncData
 gM:Addr
 gN:FuncData
 fP:Addr
 ix:FuncData
 ja:Addr
 jc:FuncData
 bh:Addr
 bj:FuncData
 jd:Addr
 je:FuncData
 eM:Addr
 eN:FuncData
 cW:Addr
 cX:FuncData
 eO:Addr
 eP:FuncData
 fu:Addr
 fv:FuncData
 kF:Addr
 kG:FuncData
 fQ:Addr
 fR:FuncData
 gO:Addr
 gP:FuncData
 cY:Addr
 cZ:FuncData
 gQ:Addr
 gR:FuncData
 dY:Addr
 dZ:FuncData
 jg:Addr
 jh:FuncData
 dM:Addr
 dN:FuncData
 kH:Addr
 kI:FuncData
 eQ:Addr
 eR:FuncData
 iy:Addr
 iz:FuncData
 eS:Addr
 eT:FuncData
 jR:Addr
 jS:FuncData
 gT:Addr
 gU:FuncData
 d6:Addr
 d7:FuncData
 sX:Addr
 sY:FuncData
 iA:Addr
 iB:FuncData
 gB:Addr
 gC:FuncData
 kJ:Addr
 kK:FuncData
 iC:Addr
 iD:FuncData
 gE:Addr
 gF:FuncData
 fS:Addr
 fT:FuncData
 Aq:Addr
 wK:FuncData
 Qp:Tok
 NK:Tok
 ab:Addr
structure Tx (K:PySem.W.Frag) (mg:Str→Option Value) (t:Ad):Prop where
 uO:jU K "_law_cell" "_law_cell" gr t.kD t.kE
 Cs:Binds K t.kE ["_law_script","_law_k"] []
 Ct:mg "_law_cell" = some (.ref t.kD)
 aW:jU K "_law_drawn" "_law_drawn" fg t.gM t.gN
 bc:Binds K t.gN ["_law_script","_law_k","_law_many"] []
 bf:mg "_law_drawn" = some (.ref t.gM)
 x6:jU K "__init__" "House.__init__" dR t.fP t.ix
 iE:Binds K t.ix ["self","now"] []
 KG:Meth K t.ab "__init__" t.fP
 rG:jU K "_law_clock" "_law_clock" cI t.ja t.jc
 As:Binds K t.jc ["_law_script","_law_at"] []
 Au:mg "_law_clock" = some (.ref t.ja)
 lH:jU K "refuse_asleep" "House.refuse_asleep" bg t.bh t.bj
 dj:Binds K t.bj ["self"] []
 dk:Meth K t.ab "refuse_asleep" t.bh
 Av:jU K "put" "House.put" fh t.jd t.je
 mU:Binds K t.je ["self","name","clock"] []
 mV:Meth K t.ab "put" t.jd
 kZ:jU K "next_of_timer" "next_of_timer" bV t.eM t.eN
 su:Binds K t.eN ["clock","now"] []
 sv:mg "next_of_timer" = some (.ref t.eM)
 hW:jU K "rung_of_every" "rung_of_every" bW t.cW t.cX
 lg:Binds K t.cX ["clock","moment"] []
 lh:mg "rung_of_every" = some (.ref t.cW)
 lj:jU K "next_of_every" "next_of_every" bX t.eO t.eP
 sx:Binds K t.eP ["clock","now"] []
 sy:mg "next_of_every" = some (.ref t.eO)
 ji:jU K "days_gone" "days_gone" fi t.fu t.fv
 mW:Binds K t.fv ["clock","moment"] []
 mX:mg "days_gone" = some (.ref t.fu)
 oQ:jU K "next_set" "next_set" eX t.kF t.kG
 uP:Binds K t.kG ["clock","now"] []
 uQ:mg "next_set" = some (.ref t.kF)
 iF:jU K "many_up_to" "many_up_to" dS t.fQ t.fR
 kL:Binds K t.fR ["rising","most"] []
 kM:mg "many_up_to" = some (.ref t.fQ)
 mY:jU K "stands_in" "stands_in" fj t.gO t.gP
 rH:Binds K t.gP ["rising","number"] []
 rJ:mg "stands_in" = some (.ref t.gO)
 hX:jU K "next_of_alarm" "next_of_alarm" bY t.cY t.cZ
 lq:Binds K t.cZ ["clock","now"] []
 lu:mg "next_of_alarm" = some (.ref t.cY)
 mZ:jU K "next_ring" "next_ring" fk t.gQ t.gR
 rK:Binds K t.gR ["clock","now"] []
 rL:mg "next_ring" = some (.ref t.gQ)
 qL:jU K "next_due" "House.next_due" aV t.dY t.dZ
 gu:Binds K t.dZ ["self"] []
 gw:Meth K t.ab "next_due" t.dY
 rM:jU K "_law_first" "_law_first" cJ t.jg t.jh
 Aw:Binds K t.jh ["_law_some"] []
 Ay:mg "_law_first" = some (.ref t.jg)
 iW:jU K "refuse_early" "refuse_early" cB t.dM t.dN
 m6:Binds K t.dN ["earlier","now"] []
 m7:mg "refuse_early" = some (.ref t.dM)
 oR:jU K "last_set" "last_set" eY t.kH t.kI
 uR:Binds K t.kI ["clock","now"] []
 uS:mg "last_set" = some (.ref t.kH)
 lx:jU K "last_of_alarm" "last_of_alarm" bZ t.eQ t.eR
 sC:Binds K t.eR ["clock","now"] []
 sE:mg "last_of_alarm" = some (.ref t.eQ)
 qe:jU K "is_set_for" "is_set_for" dU t.iy t.iz
 x8:Binds K t.iz ["clock","moment"] []
 x9:mg "is_set_for" = some (.ref t.iy)
 ly:jU K "rung_of_alarm" "rung_of_alarm" bK t.eS t.eT
 sF:Binds K t.eT ["clock","moment"] []
 sH:mg "rung_of_alarm" = some (.ref t.eS)
 nB:jU K "rung_by" "rung_by" iJ t.jR t.jS
 qM:Binds K t.jS ["clock","moment"] []
 qN:mg "rung_by" = some (.ref t.jR)
 m8:jU K "last_ring" "last_ring" ft t.gT t.gU
 rN:Binds K t.gU ["clock","now"] []
 rO:mg "last_ring" = some (.ref t.gT)
 jT:jU K "rings_of_alarm" "rings_of_alarm" bQ t.d6 t.d7
 qO:Binds K t.d7 ["clock","first","end"] []
 qP:mg "rings_of_alarm" = some (.ref t.d6)
 DF:jU K "rings" "rings" nA t.sX t.sY
 KH:Binds K t.sY ["clock","start","end"] []
 KI:mg "rings" = some (.ref t.sX)
 ya:jU K "tick" "House.tick" cM t.iA t.iB
 fU:Binds K t.iB ["self","now"] []
 fV:Meth K t.ab "tick" t.iA
 vB:jU K "sleep" "House.sleep" de t.gB t.gC
 vC:Binds K t.gC ["self"] []
 vD:Meth K t.ab "sleep" t.gB
 uT:jU K "how_many" "how_many" gs t.kJ t.kK
 Cu:Binds K t.kK ["clock","start","end"] []
 Cv:mg "how_many" = some (.ref t.kJ)
 yb:jU K "wake" "House.wake" dW t.iC t.iD
 iG:Binds K t.iD ["self","now"] []
 iH:Meth K t.ab "wake" t.iC
 vE:jU K "names" "House.names" df t.gE t.gF
 jt:Binds K t.gF ["self"] []
 ju:Meth K t.ab "names" t.gE
 uU:jU K "moment" "House.moment" cC t.fS t.fT
 uV:Binds K t.fT ["self"] []
 uW:Meth K t.ab "moment" t.fS
 Qq:jU K "law" "law" kW t.Aq t.wK
 ZX:Binds K t.wK ["_law_script"] []
 Qr:mg "law" = some (.ref t.Aq)
 Az:mg "len" = none
 NL:mg "list" = none
 DH:mg "max" = none
 Ik:mg "min" = none
 kO:mg "range" = none
 Qs:mg "set" = none
 fW:mg "sorted" = none
 DJ:mg "tuple" = none
 AA:mg "DAY" = some (.int 1440 t.Qp)
 oS:mg "WEEK" = some (.int 7 t.NK)
 aF:wU K t.ab
 dO:eU K t.ab "asleep"
 cD:eU K t.ab "clocks"
 bq:eU K t.ab "reached"
 sZ:Mk K t.ab t.fP
 tf:mg "House" = some (.ref t.ab)
section
variable {P:Program} {w:World} {K:PySem.W.Frag} {mg:Str→Option Value} {base:Heap} {t:Ad}
theorem AB (T:Tx K mg t)  :aJ P w K mg base bT 1 t.kD t.kE ["_law_script","_law_k"] (bp K iS):=by
 refine sQ (k:=0) T.uO rB B4 fun eu A outer s H E hr=>⟨ko,?_,B5⟩
 have nd:=(rB).nd
 exact (ah (cu (fY hr.units (dv 0) (jk ak)) (ao (aI (gi ai (dv 1)))) aX) (ao (aI (aE (aA (dv 0) (gZ (dv 1) (pj T.Az (aa (dv 0) ak)))) (gi ai (iq (dv 1) (pj T.Az (aa (dv 0) ak))))))))
theorem yc (T:Tx K mg t) (oT:aJ P w K mg base bT 1 t.kD t.kE ["_law_script","_law_k"] (bp K iS)) :aJ P w K mg base bT 2 t.gM t.gN ["_law_script","_law_k","_law_many"] (bp K aO):=by
 refine sQ (k:=1) T.aW p4 zN fun eu A outer s H E hr=>⟨mn,?_,zO⟩
 have nd:=(p4).nd
 exact (ah (aP 3 nd (gZ (aE (gi (gZ (az oT (hr.mono (by decide)) T.Ct T.uO.kp T.Cs (aa (dv 0) (aa (dv 1) ak))) ai) ai) (gi ai (aE (dv 1) ai))) ai)) (ah (aP 3 nd (gZ (aE (gi (dv 3) (dv 3)) (iq (dv 3) ai)) ai)) (ao (aI (gZ (iq (gZ (aE (gi (dv 3) (dv 3)) (iq (dv 3) ai)) ai) ai) (dv 2))))))
theorem vF (T:Tx K mg t)  :aJ P w K mg base bT 1 t.fP t.ix ["self","now"] (pE K (cf t.ab)):=by
 refine JO (k:=0) T.x6 n6 (xU _) fun eu A outer s H E hr=>⟨ky t.ab,?_,xX t.ab⟩
 have nd:=(n6).nd
 exact (ah (nt 0 T.aF T.bq (dv 1)) (ah (JU 0 T.aF T.cD) (ao (nt 0 T.aF T.dO tM))))
theorem yd (T:Tx K mg t) (aQ:aJ P w K mg base bT 2 t.gM t.gN ["_law_script","_law_k","_law_many"] (bp K aO)) :aJ P w K mg base bT 3 t.ja t.jc ["_law_script","_law_at"] (bp K gK):=by
 refine sQ (k:=2) T.rG p5 z9 fun eu A outer s H E hr=>⟨mB,?_,Aa⟩
 have nd:=(p5).nd
 exact (ah (aP 2 nd (az aQ (hr.mono (by decide)) T.bf T.aW.kp T.bc (aa (dv 0) (aa (dv 1) (aa ai ak))))) (ah (aP 3 nd (az aQ (hr.mono (by decide)) T.bf T.aW.kp T.bc (aa (dv 0) (aa (aE (dv 1) ai) (aa ai ak))))) (ah (aP 4 nd (aA (jk (aa dh (aa (az aQ (hr.mono (by decide)) T.bf T.aW.kp T.bc (aa (dv 0) (aa (aE (dv 1) ai) (aa ai ak)))) ak))) (az aQ (hr.mono (by decide)) T.bf T.aW.kp T.bc (aa (dv 0) (aa (aE (dv 1) ai) (aa ai ak)))))) (ah (cu (fY hr.units (dv 2) ai) (ao (aI (jZ (aa gf (aa (dv 3) (aa (az aQ (hr.mono (by decide)) T.bf T.aW.kp T.bc (aa (dv 0) (aa (aE (dv 1) ai) (aa ai ak)))) (aa (dv 4) ak))))))) aX) (ah (cu (fY hr.units (dv 2) ai) (ao (aI (jZ (aa gf (aa (dv 3) (aa (aE ai (az aQ (hr.mono (by decide)) T.bf T.aW.kp T.bc (aa (dv 0) (aa (aE (dv 1) ai) (aa ai ak))))) (aa (dv 4) ak))))))) aX) (ah (aP 5 nd (vX T.DJ (aa (jB ["_law_script","_law_at","_law_way","_law_one","_law_last","_law_days","_law_still","_law_day"] 1 rfl (nh T.kO (aa ai ak)) (fun cl C ex s H=>⟨(cL 7 (show List.Nodup (α:=Str) ["_law_script","_law_at","_law_way","_law_one","_law_last","_law_days","_law_still","_law_day"] by decide +kernel)),(i7 (fY (by exact hr.units) (az (by exact aQ) (by exact hr.mono (by decide)) (by exact T.bf) (by exact T.aW.kp) (by exact T.bc) (aa (dv 0) (aa (aE (aE (dv 1) ai) (dv 7)) (aa ai ak)))) ai)),(dv 7)⟩) (by show bG ["_law_script","_law_at","_law_way","_law_one","_law_last","_law_days","_law_still"] (ag cI) ["_law_script","_law_at","_law_way","_law_one","_law_last","_law_days","_law_still","_law_day"] _ 1 = true; decide +kernel) (by intro _; rfl)) ak)) rfl (by first | exact Or.inl rfl | exact Or.inr rfl) rfl (by first | exact .inl rfl | exact .inr rfl | assumption)) (ah (iQ ["_law_script","_law_at","_law_way","_law_one","_law_last","_law_days","_law_still","_law_k"] 1 6 rfl (nh T.kO (aa (az aQ (hr.mono (by decide)) T.bf T.aW.kp T.bc (aa (dv 0) (aa (aE (dv 1) ai) (aa ai ak)))) ak)) (fun cl C ex s H=>⟨(cL 7 (show List.Nodup (α:=Str) ["_law_script","_law_at","_law_way","_law_one","_law_last","_law_days","_law_still","_law_k"] by decide +kernel)),j8,(aE (gi (az (by exact aQ) (by exact hr.mono (by decide)) (by exact T.bf) (by exact T.aW.kp) (by exact T.bc) (aa (dv 0) (aa (aE (aE (dv 1) ai) (dv 7)) (aa ai ak)))) ai) (dv 3))⟩) (by show bG ["_law_script","_law_at","_law_way","_law_one","_law_last","_law_days","_law_still"] (ag cI) ["_law_script","_law_at","_law_way","_law_one","_law_last","_law_days","_law_still","_law_k"] _ 1 = true; decide +kernel) (by intro _; rfl) nd rfl (by first | exact Or.inl rfl | exact Or.inr rfl) rfl (by first | exact .inl rfl | exact .inr rfl | assumption)) (ao (aI (jZ (aa gf (aa (dv 3) (aa (dv 5) (aa (vX T.DJ (aa (vo rfl T.fW T.Qs (aa (dv 6) ak)) ak)) ak))))))))))))))
theorem kP (T:Tx K mg t)  :aJ P w K mg base bT 1 t.bh t.bj ["self"] (pE K (aM t.ab)):=by
 refine JO (k:=0) T.lH fO (lD _) fun eu A outer s H E hr=>⟨di t.ab,?_,lF t.ab⟩
 have nd:=(fO).nd
 exact (ao (cu (i6 (rl (mh 0 T.aF T.dO))) (ao tT) aX))
theorem ye (T:Tx K mg t) (aN:aJ P w K mg base bT 1 t.bh t.bj ["self"] (pE K (aM t.ab))) :aJ P w K mg base bT 2 t.jd t.je ["self","name","clock"] (pE K (dI t.ab)):=by
 refine JO (k:=1) T.Av p6 (Ab _) fun eu A outer s H E hr=>⟨mE t.ab,?_,Ac t.ab⟩
 have nd:=(p6).nd
 exact (ah (ip (ub 0 T.aF T.dk aN (hr.mono (by decide)) T.dj)) (ao (JV 0 (by exact JT hr) T.aF T.cD (GV 2) (GV 1))))
theorem qQ (T:Tx K mg t)  :aJ P w K mg base bT 1 t.eM t.eN ["clock","now"] (bp K cS):=by
 refine sQ (k:=0) T.kZ jL rX fun eu A outer s H E hr=>⟨eJ,?_,r9⟩
 have nd:=(jL).nd
 exact (ah (cu (rT (tP (Gd (aA (dv 0) ai) dh) (ou (CK (aE (aA (dv 0) ai) (aA (dv 0) ai)) (dv 1))))) (ao (aI dh)) aX) (ao (aI (aE (aA (dv 0) ai) (aA (dv 0) ai)))))
theorem qR (T:Tx K mg t)  :aJ P w K mg base bT 1 t.cW t.cX ["clock","moment"] (bp K bJ):=by
 refine sQ (k:=0) T.hW jM rY fun eu A outer s H E hr=>⟨eK,?_,sd⟩
 have nd:=(jM).nd
 exact (ah (aP 2 nd (xj rfl T.DH (aa ai (aa (aE (iq (j6 (dv 1) (aA (dv 0) ai)) (aA (dv 0) ai)) ai) ak)))) (ao (aI (CH (Gd (aA (dv 0) ai) dh) (dv 2) (Mq rfl T.Ik (aa (dv 2) (aa (aA (dv 0) ai) ak)))))))
theorem qS (T:Tx K mg t) (b0:aJ P w K mg base bT 1 t.cW t.cX ["clock","moment"] (bp K bJ)) :aJ P w K mg base bT 2 t.eO t.eP ["clock","now"] (bp K cT):=by
 refine sQ (k:=1) T.lj jN rZ fun eu A outer s H E hr=>⟨eL,?_,se⟩
 have nd:=(jN).nd
 exact (ah (aP 2 nd (az b0 (hr.mono (by decide)) T.lh T.hW.kp T.lg (aa (dv 0) (aa (dv 1) ak)))) (ah (cu (rT (tO (iO (aA (dv 0) ai) dh) (o6 (fY hr.units (dv 2) (aA (dv 0) ai))))) (ao (aI dh)) aX) (ao (aI (aE (aA (dv 0) ai) (gi (dv 2) (aA (dv 0) ai)))))))
theorem yf (T:Tx K mg t)  :aJ P w K mg base bT 1 t.fu t.fv ["clock","moment"] (bp K cc):=by
 refine sQ (k:=0) T.ji p7 zT fun eu A outer s H E hr=>⟨mv,?_,zW⟩
 have nd:=(p7).nd
 exact (ao (aI (xj rfl T.DH (aa ai (aa (aE (iq (j6 (dv 1) (aA (dv 0) ai)) (eI T.AA)) ai) ak)))))
theorem AD (T:Tx K mg t) (cj:aJ P w K mg base bT 1 t.fu t.fv ["clock","moment"] (bp K cc)) :aJ P w K mg base bT 2 t.kF t.kG ["clock","now"] (bp K gk):=by
 refine sQ (k:=1) T.oQ rC Ca fun eu A outer s H E hr=>⟨oI,?_,Cb⟩
 have nd:=(rC).nd
 exact (ah (aP 2 nd (az cj (hr.mono (by decide)) T.mX T.ji.kp T.mW (aa (dv 0) (aa (dv 1) ak)))) (ah (iQ ["clock","now","first","days","day"] 1 3 rfl (vV T.kO (aa (dv 2) (aa (aE (dv 2) (eI T.oS)) ak))) (fun cl C ex s H=>⟨(cL 4 (show List.Nodup (α:=Str) ["clock","now","first","days","day"] by decide +kernel)),(i7 (Gr (by exact hr.units) (gZ (dv 4) (eI (by exact T.oS))) (aA (dv 0) ai))),(dv 4)⟩) (by show bG ["clock","now","first","days"] (ag eX) ["clock","now","first","days","day"] _ 1 = true; decide +kernel) (by intro _; rfl) nd rfl (by first | exact Or.inl rfl | exact Or.inr rfl) rfl (by first | exact .inl rfl | exact .inr rfl | assumption)) (ao (aI (CH (i6 (dv 3)) (aE (gi (aA (dv 3) ai) (eI T.AA)) (aA (dv 0) ai)) dh)))))
theorem vG (T:Tx K mg t)  :aJ P w K mg base bT 1 t.fQ t.fR ["rising","most"] (bp K cb):=by
 refine sQ (k:=0) T.iF n8 xN fun eu A outer s H E hr=>⟨kq,?_,xP⟩
 have nd:=(n8).nd
 exact (ah (aP 2 nd ai) (ah (aP 3 nd (pj T.Az (aa (dv 0) ak))) (ah (o9 PassesOwn.never (Ga (dv 2) (dv 3)) (ah (aP 4 nd (iq (aE (dv 2) (dv 3)) ai)) (ao (cu (CK (aA (dv 0) (dv 4)) (dv 1)) (ao (aP 2 nd (aE (dv 4) ai))) (ao (aP 3 nd (dv 4))))))) (ao (aI (dv 2))))))
theorem yg (T:Tx K mg t) (cN:aJ P w K mg base bT 1 t.fQ t.fR ["rising","most"] (bp K cb)) :aJ P w K mg base bT 2 t.gO t.gP ["rising","number"] (bp K dE):=by
 refine sQ (k:=1) T.mY p8 zS fun eu A outer s H E hr=>⟨mr,?_,zV⟩
 have nd:=(p8).nd
 exact (ah (aP 2 nd (az cN (hr.mono (by decide)) T.kM T.iF.kp T.kL (aa (dv 0) (aa (dv 1) ak)))) (ao (aI (Ba (OY (dv 2) ai) (A9 (CJ hr.units (aA (dv 0) (j6 (dv 2) ai)) (dv 1)))))))
theorem qT (T:Tx K mg t) (kQ:aJ P w K mg base bT 2 t.kF t.kG ["clock","now"] (bp K gk)) (fw:aJ P w K mg base bT 2 t.gO t.gP ["rising","number"] (bp K dE)) :aJ P w K mg base bT 3 t.cY t.cZ ["clock","now"] (bp K bI):=by
 refine sQ (k:=2) T.hX jO rW fun eu A outer s H E hr=>⟨hU,?_,si⟩
 have nd:=(jO).nd
 exact (ah (aP 2 nd (az kQ (hr.mono (by decide)) T.uQ T.oQ.kp T.uP (aa (dv 0) (aa (dv 1) ak)))) (ah (o9 PassesOwn.never (rT (tO (iO (dv 2) dh) (o6 (i6 (az fw (hr.mono (by decide)) T.rJ T.mY.kp T.rH (aa (aA (dv 0) ai) (aa (dv 2) ak))))))) (ao (aP 2 nd (az kQ (hr.mono (by decide)) T.uQ T.oQ.kp T.uP (aa (dv 0) (aa (dv 2) ak)))))) (ao (aI (dv 2)))))
theorem yh (T:Tx K mg t) (hZ:aJ P w K mg base bT 1 t.eM t.eN ["clock","now"] (bp K cS)) (h8:aJ P w K mg base bT 2 t.eO t.eP ["clock","now"] (bp K cT)) (b7:aJ P w K mg base bT 3 t.cY t.cZ ["clock","now"] (bp K bI)) :aJ P w K mg base bT 4 t.gQ t.gR ["clock","now"] (bp K dF):=by
 refine sQ (k:=3) T.mZ p9 zU fun eu A outer s H E hr=>⟨gI,?_,zX⟩
 have nd:=(p9).nd
 exact (ah (cu (fY hr.units (aA (dv 0) ai) gf) (ao (aI (az hZ (hr.mono (by decide)) T.sv T.kZ.kp T.su (aa (dv 0) (aa (dv 1) ak))))) aX) (ah (cu (fY hr.units (aA (dv 0) ai) gf) (ao (aI (az h8 (hr.mono (by decide)) T.sy T.lj.kp T.sx (aa (dv 0) (aa (dv 1) ak))))) aX) (ao (aI (az b7 (hr.mono (by decide)) T.lu T.hX.kp T.lq (aa (dv 0) (aa (dv 1) ak)))))))
theorem qf (T:Tx K mg t) (fx:aJ P w K mg base bT 4 t.gQ t.gR ["clock","now"] (bp K dF)) :aJ P w K mg base bT 5 t.dY t.dZ ["self"] (pE K (br t.ab)):=by
 refine JO (k:=4) T.qL i8 (qH _) fun eu A outer s H E hr=>⟨gp t.ab,?_,qK t.ab⟩
 have nd:=(i8).nd
 exact (ah (Hd 0 (Ez ["self","rows","dues","first","name","clock"] 2 1 rfl (ud 0 T.aF T.cD) (fun cl C ex s H=>⟨(j9 4 5 rfl (show List.Nodup (α:=Str) ["self","rows","dues","first","name","clock"] by decide +kernel)),j8,(jZ (aa (az (by exact fx) (by exact hr.mono (by decide)) (by exact T.rL) (by exact T.mZ.kp) (by exact T.rK) (aa (dv 5) (aa (rl (mh 0 (by exact T.aF) (by exact T.bq))) ak))) (aa (dv 4) ak)))⟩) (by show bG ["self","rows","dues","first"] (ag aV) ["self","rows","dues","first","name","clock"] _ 2 = true; decide +kernel) (by intro _; rfl) nd rfl (by first | exact Or.inl rfl | exact Or.inr rfl) rfl (by first | exact .inl rfl | exact .inr rfl | assumption))) (ah (iQ ["self","rows","dues","first","row"] 1 2 rfl (dP (dv 1)) (fun cl C ex s H=>⟨(cL 4 (show List.Nodup (α:=Str) ["self","rows","dues","first","row"] by decide +kernel)),(i7 (iO (aA (dv 4) ai) dh)),(dv 4)⟩) (by show bG ["self","rows","dues","first"] (ag aV) ["self","rows","dues","first","row"] _ 1 = true; decide +kernel) (by intro _; rfl) nd rfl (by first | exact Or.inl rfl | exact Or.inr rfl) rfl (by first | exact .inl rfl | exact .inr rfl | assumption)) (ah (cu (A8 (i6 (dv 2))) (ao (aI dh)) aX) (ah (aP 3 nd (C3 rfl T.Ik (aa (jB ["self","rows","dues","first","moment","name"] 2 rfl (dP (dv 2)) (fun cl C ex s H=>⟨(j9 4 5 rfl (show List.Nodup (α:=Str) ["self","rows","dues","first","moment","name"] by decide +kernel)),j8,(dv 4)⟩) (by show bG ["self","rows","dues","first"] (ag aV) ["self","rows","dues","first","moment","name"] _ 2 = true; decide +kernel) (by intro _; rfl)) ak)) rfl (by first | exact Or.inl rfl | exact Or.inr rfl) rfl (by first | exact .inl rfl | exact .inr rfl | assumption)) (ao (aI (jZ (aa (dv 3) (aa (ml T.fW (aa (jB ["self","rows","dues","first","moment","name"] 2 rfl (dP (dv 2)) (fun cl C ex s H=>⟨(j9 4 5 rfl (show List.Nodup (α:=Str) ["self","rows","dues","first","moment","name"] by decide +kernel)),(i7 (fY (by exact hr.units) (dv 4) (dv 3))),(dv 5)⟩) (by show bG ["self","rows","dues","first"] (ag aV) ["self","rows","dues","first","moment","name"] _ 2 = true; decide +kernel) (by intro _; rfl)) ak)) ak)))))))))
theorem yi (T:Tx K mg t)  :aJ P w K mg base bT 1 t.jg t.jh ["_law_some"] (bp K gL):=by
 refine sQ (k:=0) T.rM qb Ai fun eu A outer s H E hr=>⟨mQ,?_,Ak⟩
 have nd:=(qb).nd
 exact (ah (iQ ["_law_some","_law_rows","_law_moment","_law_names","!_law_row","_law_row"] 1 1 rfl (dP (dv 0)) (fun cl C ex s H=>⟨(cL 5 (show List.Nodup (α:=Str) ["_law_some","_law_rows","_law_moment","_law_names","!_law_row","_law_row"] by decide +kernel)),(i7 (iO (dv 5) dh)),(dv 5)⟩) (by show bG ["_law_some","_law_rows","_law_moment","_law_names","_law_row"] (ag cJ) ["_law_some","_law_rows","_law_moment","_law_names","!_law_row","_law_row"] _ 1 = true; decide +kernel) (by intro _; rfl) nd rfl (by first | exact Or.inl rfl | exact Or.inr rfl) rfl (by first | exact .inl rfl | exact .inr rfl | assumption)) (ah (cu (fY hr.units (dv 1) (jk ak)) (ao (aI dh)) aX) (ah (aP 2 nd (C3 rfl T.Ik (aa (jB ["_law_some","_law_rows","_law_moment","_law_names","!_law_row","_law_row"] 1 rfl (dP (dv 1)) (fun cl C ex s H=>⟨(cL 5 (show List.Nodup (α:=Str) ["_law_some","_law_rows","_law_moment","_law_names","!_law_row","_law_row"] by decide +kernel)),j8,(aA (dv 5) ai)⟩) (by show bG ["_law_some","_law_rows","_law_moment","_law_names","_law_row"] (ag cJ) ["_law_some","_law_rows","_law_moment","_law_names","!_law_row","_law_row"] _ 1 = true; decide +kernel) (by intro _; rfl)) ak)) rfl (by first | exact Or.inl rfl | exact Or.inr rfl) rfl (by first | exact .inl rfl | exact .inr rfl | assumption)) (ah (aP 3 nd (jk ak)) (ah (oz PassesOwn.never rfl (dP (dv 1)) (cL 4 nd) (ao (cu (fY hr.units (aA (dv 4) ai) (dv 2)) (ao (aP 3 nd (aE (dv 3) (aA (dv 4) ai)))) aX))) (ao (aI (jZ (aa (dv 2) (aa (ml T.fW (aa (dv 3) ak)) ak))))))))))
theorem sI (T:Tx K mg t)  :aJ P w K mg base bT 1 t.dM t.dN ["earlier","now"] (bp K bS):=by
 refine sQ (k:=0) T.iW kX uw fun eu A outer s H E hr=>⟨fM,?_,ux⟩
 have nd:=(kX).nd
 exact (ao (cu (rT (tO (iO (dv 0) dh) (o6 (Ga (dv 1) (dv 0))))) (ao tT) aX))
theorem AE (T:Tx K mg t) (cj:aJ P w K mg base bT 1 t.fu t.fv ["clock","moment"] (bp K cc)) :aJ P w K mg base bT 2 t.kH t.kI ["clock","now"] (bp K gm):=by
 refine sQ (k:=1) T.oR rD Cd fun eu A outer s H E hr=>⟨oJ,?_,Ce⟩
 have nd:=(rD).nd
 exact (ah (aP 2 nd (az cj (hr.mono (by decide)) T.mX T.ji.kp T.mW (aa (dv 0) (aa (dv 1) ak)))) (ah (iQ ["clock","now","gone","days","day"] 1 3 rfl (vV T.kO (aa (xj rfl T.DH (aa ai (aa (j6 (dv 2) (eI T.oS)) ak))) (aa (dv 2) ak))) (fun cl C ex s H=>⟨(cL 4 (show List.Nodup (α:=Str) ["clock","now","gone","days","day"] by decide +kernel)),(i7 (Gr (by exact hr.units) (gZ (dv 4) (eI (by exact T.oS))) (aA (dv 0) ai))),(dv 4)⟩) (by show bG ["clock","now","gone","days"] (ag eY) ["clock","now","gone","days","day"] _ 1 = true; decide +kernel) (by intro _; rfl) nd rfl (by first | exact Or.inl rfl | exact Or.inr rfl) rfl (by first | exact .inl rfl | exact .inr rfl | assumption)) (ao (aI (CH (i6 (dv 3)) (aE (gi (aA (dv 3) (Mt ai)) (eI T.AA)) (aA (dv 0) ai)) dh)))))
theorem qU (T:Tx K mg t) (kR:aJ P w K mg base bT 2 t.kH t.kI ["clock","now"] (bp K gm)) (fw:aJ P w K mg base bT 2 t.gO t.gP ["rising","number"] (bp K dE)) :aJ P w K mg base bT 3 t.eQ t.eR ["clock","now"] (bp K cV):=by
 refine sQ (k:=2) T.lx jP sj fun eu A outer s H E hr=>⟨hV,?_,sk⟩
 have nd:=(jP).nd
 exact (ah (aP 2 nd (az kR (hr.mono (by decide)) T.uS T.oR.kp T.uR (aa (dv 0) (aa (dv 1) ak)))) (ah (o9 PassesOwn.never (rT (tO (iO (dv 2) dh) (o6 (i6 (az fw (hr.mono (by decide)) T.rJ T.mY.kp T.rH (aa (aA (dv 0) ai) (aa (dv 2) ak))))))) (ao (aP 2 nd (az kR (hr.mono (by decide)) T.uS T.oR.kp T.uR (aa (dv 0) (aa (j6 (dv 2) ai) ak)))))) (ao (aI (dv 2)))))
theorem vH (T:Tx K mg t)  :aJ P w K mg base bT 1 t.iy t.iz ["clock","moment"] (bp K fK):=by
 refine sQ (k:=0) T.qe n9 xO fun eu A outer s H E hr=>⟨ku,?_,xQ⟩
 have nd:=(n9).nd
 exact (ao (aI (Ba (CJ hr.units (gZ (dv 1) (eI T.AA)) (aA (dv 0) ai)) (A9 (Mv hr.units (gZ (iq (dv 1) (eI T.AA)) (eI T.oS)) (aA (dv 0) ai))))))
theorem qV (T:Tx K mg t) (cj:aJ P w K mg base bT 1 t.fu t.fv ["clock","moment"] (bp K cc)) (cN:aJ P w K mg base bT 1 t.fQ t.fR ["rising","most"] (bp K cb)) (kS:aJ P w K mg base bT 1 t.iy t.iz ["clock","moment"] (bp K fK)) :aJ P w K mg base bT 2 t.eS t.eT ["clock","moment"] (bp K cU):=by
 refine sQ (k:=1) T.ly jQ r8 fun eu A outer s H E hr=>⟨hI,?_,sf⟩
 have nd:=(jQ).nd
 exact (ah (aP 2 nd (az cj (hr.mono (by decide)) T.mX T.ji.kp T.mW (aa (dv 0) (aa (dv 1) ak)))) (ah (aP 3 nd (aE (gi (iq (dv 2) (eI T.oS)) (pj T.Az (aa (aA (dv 0) ai) ak))) (az cN (hr.mono (by decide)) T.kM T.iF.kp T.kL (aa (aA (dv 0) ai) (aa (j6 (gZ (dv 2) (eI T.oS)) ai) ak))))) (ah (aP 4 nd (Eo (aA (dv 0) ai) Jp (Jq (az cN (hr.mono (by decide)) T.kM T.iF.kp T.kL (aa (aA (dv 0) ai) (aa (dv 1) ak)))))) (ao (aI (j6 (dv 3) (pj T.Az (aa (jB ["clock","moment","days","set_for","still","one"] 1 rfl (dP (dv 4)) (fun cl C ex s H=>⟨(cL 5 (show List.Nodup (α:=Str) ["clock","moment","days","set_for","still","one"] by decide +kernel)),(i7 (i6 (az (by exact kS) (by exact hr.mono (by decide)) (by exact T.x9) (by exact T.qe.kp) (by exact T.x8) (aa (dv 0) (aa (dv 5) ak))))),(dv 5)⟩) (by show bG ["clock","moment","days","set_for","still"] (ag bK) ["clock","moment","days","set_for","still","one"] _ 1 = true; decide +kernel) (by intro _; rfl)) ak))))))))
theorem Cw (T:Tx K mg t) (b0:aJ P w K mg base bT 1 t.cW t.cX ["clock","moment"] (bp K bJ)) (h9:aJ P w K mg base bT 2 t.eS t.eT ["clock","moment"] (bp K cU)) :aJ P w K mg base bT 3 t.jR t.jS ["clock","moment"] (bp K fc):=by
 refine sQ (k:=2) T.nB uN EW fun eu A outer s H E hr=>⟨iI,?_,EX⟩
 have nd:=(uN).nd
 exact (ah (cu (fY hr.units (aA (dv 0) ai) gf) (ao (aI (CH (rT (tO (iO (aA (dv 0) ai) dh) (o6 (CK (aE (aA (dv 0) ai) (aA (dv 0) ai)) (dv 1))))) ai ai))) aX) (ah (cu (fY hr.units (aA (dv 0) ai) gf) (ao (aI (az b0 (hr.mono (by decide)) T.lh T.hW.kp T.lg (aa (dv 0) (aa (dv 1) ak))))) aX) (ao (aI (az h9 (hr.mono (by decide)) T.sH T.ly.kp T.sF (aa (dv 0) (aa (dv 1) ak)))))))
theorem yj (T:Tx K mg t) (ia:aJ P w K mg base bT 3 t.eQ t.eR ["clock","now"] (bp K cV)) (gx:aJ P w K mg base bT 3 t.jR t.jS ["clock","moment"] (bp K fc)) :aJ P w K mg base bT 4 t.gT t.gU ["clock","now"] (bp K dG):=by
 refine sQ (k:=3) T.m8 qc zY fun eu A outer s H E hr=>⟨gJ,?_,zZ⟩
 have nd:=(qc).nd
 exact (ah (cu (fY hr.units (aA (dv 0) ai) gf) (ao (aI (az ia (hr.mono (by decide)) T.sE T.lx.kp T.sC (aa (dv 0) (aa (dv 1) ak))))) aX) (ah (aP 2 nd (az gx (hr.mono (by decide)) T.qN T.nB.kp T.qM (aa (dv 0) (aa (dv 1) ak)))) (ah (cu (fY hr.units (dv 2) ai) (ao (aI dh)) aX) (ah (cu (fY hr.units (aA (dv 0) ai) gf) (ao (aI (aE (aA (dv 0) ai) (aA (dv 0) ai)))) aX) (ao (aI (aE (aA (dv 0) ai) (gi (j6 (dv 2) ai) (aA (dv 0) ai)))))))))
theorem qg (T:Tx K mg t) (b7:aJ P w K mg base bT 3 t.cY t.cZ ["clock","now"] (bp K bI)) :aJ P w K mg base bT 4 t.d6 t.d7 ["clock","first","end"] (bp K cz):=by
 refine sQ (k:=3) T.jT i9 qC fun eu A outer s H E hr=>⟨gn,?_,qD⟩
 have nd:=(i9).nd
 exact (ah (Bb 3 nd ak) (ah (aP 4 nd (dv 1)) (ah (o9 PassesOwn.never (CK (dv 4) (dv 2)) (ah (vT 3 (dv 4)) (ao (aP 4 nd (az b7 (hr.mono (by decide)) T.lu T.hX.kp T.lq (aa (dv 0) (aa (dv 4) ak))))))) (xg 3 (ao (aI (dv 3)))))))
theorem Il (T:Tx K mg t) (fx:aJ P w K mg base bT 4 t.gQ t.gR ["clock","now"] (bp K dF)) (fy:aJ P w K mg base bT 4 t.gT t.gU ["clock","now"] (bp K dG)) (gy:aJ P w K mg base bT 4 t.d6 t.d7 ["clock","first","end"] (bp K cz)) :aJ P w K mg base bT 5 t.sX t.sY ["clock","start","end"] (bp K pW):=by
 refine sQ (k:=4) T.DF Ap Kq fun eu A outer s H E hr=>⟨xR,?_,Ks⟩
 have nd:=(Ap).nd
 exact (ah (aP 3 nd (az fx (hr.mono (by decide)) T.rL T.mZ.kp T.rK (aa (dv 0) (aa (dv 1) ak)))) (ah (cu (rT (tP (Gd (dv 3) dh) (ou (K2 (dv 3) (dv 2))))) (ao (aI (jk ak))) aX) (ah (cu (fY hr.units (aA (dv 0) ai) gf) (ao (aI (jk (aa (dv 3) ak)))) aX) (ah (cu (fY hr.units (aA (dv 0) ai) gf) (ao (aI (vk rfl T.NL T.kO (aa (dv 3) (aa (aE (az fy (hr.mono (by decide)) T.rO T.m8.kp T.rN (aa (dv 0) (aa (dv 2) ak))) ai) (aa (aA (dv 0) ai) ak)))))) aX) (ao (aI (az gy (hr.mono (by decide)) T.qP T.jT.kp T.qO (aa (dv 0) (aa (dv 3) (aa (dv 2) ak))))))))))
theorem vI (T:Tx K mg t) (aN:aJ P w K mg base bT 1 t.bh t.bj ["self"] (pE K (aM t.ab))) (cE:aJ P w K mg base bT 1 t.dM t.dN ["earlier","now"] (bp K bS)) (yk:aJ P w K mg base bT 5 t.sX t.sY ["clock","start","end"] (bp K pW)) :aJ P w K mg base bT 6 t.iA t.iB ["self","now"] (pE K (bM t.ab)):=by
 refine JO (k:=5) T.ya oa (xV _) fun eu A outer s H E hr=>⟨kz t.ab,?_,xY t.ab⟩
 have nd:=(oa).nd
 exact (ah (ip (ub 0 T.aF T.dk aN (hr.mono (by decide)) T.dj)) (ah (ip (az cE (hr.mono (by decide)) T.m7 T.iW.kp T.m6 (aa (rl (mh 0 T.aF T.bq)) (aa (dv 1) ak)))) (ah (Bb 2 nd ak) (ah (Hd 0 (oz PassesOwn.never rfl (ud 0 T.aF T.cD) (j9 3 4 rfl nd) (ao (Ep 2 (jB ["self","now","told","name","clock","moment"] 1 rfl (dP (az yk (hr.mono (by decide)) T.KI T.DF.kp T.KH (aa (dv 4) (aa (rl (mh 0 T.aF T.bq)) (aa (dv 1) ak))))) (fun cl C ex s H=>⟨(cL 5 (show List.Nodup (α:=Str) ["self","now","told","name","clock","moment"] by decide +kernel)),j8,(jZ (aa (dv 5) (aa (dv 3) ak)))⟩) (by show bG ["self","now","told","name","clock"] (ag cM) ["self","now","told","name","clock","moment"] _ 1 = true; decide +kernel) (by intro _; rfl)))))) (xg 2 (ah (nt 0 T.aF T.bq (dv 1)) (ao (aI (kn T.fW (aa (dv 2) ak))))))))))
theorem uX (T:Tx K mg t) (aN:aJ P w K mg base bT 1 t.bh t.bj ["self"] (pE K (aM t.ab))) :aJ P w K mg base bT 2 t.gB t.gC ["self"] (pE K (ck t.ab)):=by
 refine JO (k:=1) T.vB mS (vt _) fun eu A outer s H E hr=>⟨jr t.ab,?_,vw t.ab⟩
 have nd:=(mS).nd
 exact (ah (ip (ub 0 T.aF T.dk aN (hr.mono (by decide)) T.dj)) (ao (nt 0 T.aF T.dO tM)))
theorem AF (T:Tx K mg t) (gx:aJ P w K mg base bT 3 t.jR t.jS ["clock","moment"] (bp K fc)) :aJ P w K mg base bT 4 t.kJ t.kK ["clock","start","end"] (bp K iT):=by
 refine sQ (k:=3) T.uT rE Cf fun eu A outer s H E hr=>⟨oK,?_,Cg⟩
 have nd:=(rE).nd
 exact (ao (aI (xj rfl T.DH (aa ai (aa (j6 (az gx (hr.mono (by decide)) T.qN T.nB.kp T.qM (aa (dv 0) (aa (dv 2) ak))) (az gx (hr.mono (by decide)) T.qN T.nB.kp T.qM (aa (dv 0) (aa (dv 1) ak)))) ak)))))
theorem vJ (T:Tx K mg t) (cE:aJ P w K mg base bT 1 t.dM t.dN ["earlier","now"] (bp K bS)) (oU:aJ P w K mg base bT 4 t.kJ t.kK ["clock","start","end"] (bp K iT)) (fy:aJ P w K mg base bT 4 t.gT t.gU ["clock","now"] (bp K dG)) :aJ P w K mg base bT 5 t.iC t.iD ["self","now"] (pE K (cg t.ab)):=by
 refine JO (k:=4) T.yb og (xW _) fun eu A outer s H E hr=>⟨kA t.ab,?_,xZ t.ab⟩
 have nd:=(og).nd
 exact (ah (cu (A8 (i6 (rl (mh 0 T.aF T.dO)))) (ao tT) aX) (ah (ip (az cE (hr.mono (by decide)) T.m7 T.iW.kp T.m6 (aa (rl (mh 0 T.aF T.bq)) (aa (dv 1) ak)))) (ah (Bb 2 nd ak) (ah (Hd 0 (oz PassesOwn.never rfl (ud 0 T.aF T.cD) (j9 3 4 rfl nd) (ah (aP 5 nd (az oU (hr.mono (by decide)) T.Cv T.uT.kp T.Cu (aa (dv 4) (aa (rl (mh 0 T.aF T.bq)) (aa (dv 1) ak))))) (ao (cu (K2 (dv 5) ai) (ao (vT 2 (jZ (aa (dv 3) (aa (az fy (hr.mono (by decide)) T.rO T.m8.kp T.rN (aa (dv 4) (aa (dv 1) ak))) (aa (dv 5) ak)))))) aX))))) (xg 2 (ah (nt 0 T.aF T.bq (dv 1)) (ah (nt 0 T.aF T.dO tM) (ao (aI (kn T.fW (aa (dv 2) ak)))))))))))
theorem uY (T:Tx K mg t)  :aJ P w K mg base bT 1 t.gE t.gF ["self"] (pE K (cq t.ab)):=by
 refine JO (k:=0) T.vE mT (vv _) fun eu A outer s H E hr=>⟨js t.ab,?_,vz t.ab⟩
 have nd:=(mT).nd
 exact (ao (aI (Ht 0 rfl T.fW T.aF T.cD)))
theorem sJ (T:Tx K mg t)  :aJ P w K mg base bT 1 t.fS t.fT ["self"] (pE K (dJ t.ab)):=by
 refine JO (k:=0) T.uU kY (uA _) fun eu A outer s H E hr=>⟨iU t.ab,?_,uB t.ab⟩
 have nd:=(kY).nd
 exact (ao (aI (rl (mh 0 T.aF T.bq))))
theorem NM (T:Tx K mg t) (aQ:aJ P w K mg base bT 2 t.gM t.gN ["_law_script","_law_k","_law_many"] (bp K aO)) (d8:aJ P w K mg base bT 1 t.fP t.ix ["self","now"] (pE K (cf t.ab))) (m9:aJ P w K mg base bT 3 t.ja t.jc ["_law_script","_law_at"] (bp K gK)) (gW:aJ P w K mg base bT 2 t.jd t.je ["self","name","clock"] (pE K (dI t.ab))) (cF:aJ P w K mg base bT 5 t.dY t.dZ ["self"] (pE K (br t.ab))) (nc:aJ P w K mg base bT 1 t.jg t.jh ["_law_some"] (bp K gL)) (cO:aJ P w K mg base bT 6 t.iA t.iB ["self","now"] (pE K (bM t.ab))) (jv:aJ P w K mg base bT 2 t.gB t.gC ["self"] (pE K (ck t.ab))) (d9:aJ P w K mg base bT 5 t.iC t.iD ["self","now"] (pE K (cg t.ab))) (eG:aJ P w K mg base bT 1 t.gE t.gF ["self"] (pE K (cq t.ab))) (iX:aJ P w K mg base bT 1 t.fS t.fT ["self"] (pE K (dJ t.ab))) :aJ P w K mg base bT 7 t.Aq t.wK ["_law_script"] (bp K uq):=by
 refine sQ (k:=6) T.Qq Ij P8 fun eu A outer s H E hr=>⟨Ic t.ab,?_,Qn t.ab⟩
 have nd:=(Ij).nd
 exact (ah (aP 1 nd (az aQ (hr.mono (by decide)) T.bf T.aW.kp T.bc (aa (dv 0) (aa ai (aa ai ak))))) (ah (aP 2 nd (xF 14 T.sZ d8 (hr.mono (by decide)) T.tf T.iE (aa (dv 1) ak))) (ah (aP 3 nd (xF 15 T.sZ d8 (hr.mono (by decide)) T.tf T.iE (aa (dv 1) ak))) (ah (aP 4 nd (jk (aa (xF 16 T.sZ d8 (hr.mono (by decide)) T.tf T.iE (aa (dv 1) ak)) (aa (xF 17 T.sZ d8 (hr.mono (by decide)) T.tf T.iE (aa (dv 1) ak)) ak)))) (ah (iQ ["_law_script","_law_start","_law_whole","_law_turned","_law_parts","_law_clocks","_law_name","_law_clock_here","_law_now","!_law_k","_law_due","_law_told","_law_house","_law_odd","!h0","!h1","!h2","!h3","_law_k"] 1 5 rfl (nh T.kO (aa (az aQ (hr.mono (by decide)) T.bf T.aW.kp T.bc (aa (dv 0) (aa ai (aa ai ak)))) ak)) (fun cl C ex s H=>⟨(cL 18 (show List.Nodup (α:=Str) ["_law_script","_law_start","_law_whole","_law_turned","_law_parts","_law_clocks","_law_name","_law_clock_here","_law_now","!_law_k","_law_due","_law_told","_law_house","_law_odd","!h0","!h1","!h2","!h3","_law_k"] by decide +kernel)),j8,(jZ (aa (JN (dv 18)) (aa (az (by exact m9) (by exact hr.mono (by decide)) (by exact T.Au) (by exact T.rG.kp) (by exact T.As) (aa (dv 0) (aa (aE ai (gi ai (dv 18))) ak))) ak)))⟩) (by show bG ["_law_script","_law_start","_law_whole","_law_turned","_law_parts","_law_clocks","_law_name","_law_clock_here","_law_now","_law_k","_law_due","_law_told","_law_house","_law_odd","!h0","!h1","!h2","!h3"] (ag kW) ["_law_script","_law_start","_law_whole","_law_turned","_law_parts","_law_clocks","_law_name","_law_clock_here","_law_now","!_law_k","_law_due","_law_told","_law_house","_law_odd","!h0","!h1","!h2","!h3","_law_k"] _ 1 = true; decide +kernel) (by intro _; rfl) nd rfl (by first | exact Or.inl rfl | exact Or.inr rfl) rfl (by first | exact .inl rfl | exact .inr rfl | assumption)) (ah (oz PassesOwn.never rfl (dP (dv 5)) (j9 6 7 rfl nd) (ah (ip (cQ (dv 2) T.aF T.mV gW (hr.mono (by decide)) T.mU (aa (dv 6) (aa (dv 7) ak)))) (ao (ip (cQ (aA (dv 4) (az aQ (hr.mono (by decide)) T.bf T.aW.kp T.bc (aa (dv 0) (aa (aE ai (J4 gf (dv 6))) (aa ai ak))))) T.aF T.mV gW (hr.mono (by decide)) T.mU (aa (dv 6) (aa (dv 7) ak))))))) (ah (oz PassesOwn.never rfl (dP (J3 (dv 5))) (j9 6 7 rfl nd) (ao (ip (cQ (dv 3) T.aF T.mV gW (hr.mono (by decide)) T.mU (aa (dv 6) (aa (dv 7) ak)))))) (ah (aP 8 nd (dv 1)) (ah (oz PassesOwn.never rfl (nh T.kO (aa ai ak)) (cL 9 nd) (ah (aP 10 nd (eZ (dv 2) T.aF T.gw cF (hr.mono (by decide)) T.gu)) (ah (cu (rT (tP (rf hr.units (dv 10) (eZ (dv 3) T.aF T.gw cF (hr.mono (by decide)) T.gu)) (ou (rf hr.units (dv 10) (az nc (hr.mono (by decide)) T.Ay T.rM.kp T.Aw (aa (Ex ["_law_script","_law_start","_law_whole","_law_turned","_law_parts","_law_clocks","_law_name","_law_clock_here","_law_now","_law_k","_law_due","_law_told","!_law_house","_law_odd","!h0","!h1","!h2","!h3","_law_house"] 1 rfl (dP (dv 4)) (fun cl C ex s H=>⟨(cL 18 (show List.Nodup (α:=Str) ["_law_script","_law_start","_law_whole","_law_turned","_law_parts","_law_clocks","_law_name","_law_clock_here","_law_now","_law_k","_law_due","_law_told","!_law_house","_law_odd","!h0","!h1","!h2","!h3","_law_house"] by decide +kernel)),j8,(eZ (dv 18) (by exact T.aF) (by exact T.gw) (by exact cF) (by exact hr.mono (by decide)) (by exact T.gu))⟩) (by show bG ["_law_script","_law_start","_law_whole","_law_turned","_law_parts","_law_clocks","_law_name","_law_clock_here","_law_now","_law_k","_law_due","_law_told","_law_house","_law_odd","!h0","!h1","!h2","!h3"] (ag kW) ["_law_script","_law_start","_law_whole","_law_turned","_law_parts","_law_clocks","_law_name","_law_clock_here","_law_now","_law_k","_law_due","_law_told","!_law_house","_law_odd","!h0","!h1","!h2","!h3","_law_house"] _ 1 = true; decide +kernel) (by intro _; rfl)) ak)))))) (ao (aI tM)) aX) (ah (aP 8 nd (aE (dv 8) (az aQ (hr.mono (by decide)) T.bf T.aW.kp T.bc (aa (dv 0) (aa (aE ai (dv 9)) (aa ai ak)))))) (ah (aP 11 nd (cQ (dv 2) T.aF T.fV cO (hr.mono (by decide)) T.fU (aa (dv 8) ak))) (ah (cu (rT (tP (rf hr.units (dv 11) (cQ (dv 3) T.aF T.fV cO (hr.mono (by decide)) T.fU (aa (dv 8) ak))) (ou (rf hr.units (dv 11) (kn T.fW (aa (aE (cQ (aA (dv 4) ai) T.aF T.fV cO (hr.mono (by decide)) T.fU (aa (dv 8) ak)) (cQ (aA (dv 4) ai) T.aF T.fV cO (hr.mono (by decide)) T.fU (aa (dv 8) ak))) ak)))))) (ao (aI tM)) aX) (ao (cu (fY hr.units (gZ (dv 9) ai) ai) (ah (oz PassesOwn.never rfl (dP (aE (jk (aa (dv 2) (aa (dv 3) ak))) (dv 4))) (cL 12 nd) (ao (ip (eZ (dv 12) T.aF T.vD jv (hr.mono (by decide)) T.vC)))) (ah (aP 8 nd (aE (dv 8) (az aQ (hr.mono (by decide)) T.bf T.aW.kp T.bc (aa (dv 0) (aa (aE ai (dv 9)) (aa ai ak)))))) (ah (aP 11 nd (cQ (dv 2) T.aF T.iH d9 (hr.mono (by decide)) T.iG (aa (dv 8) ak))) (ah (cu (rT (tP (rf hr.units (dv 11) (cQ (dv 3) T.aF T.iH d9 (hr.mono (by decide)) T.iG (aa (dv 8) ak))) (ou (rf hr.units (dv 11) (kn T.fW (aa (aE (cQ (aA (dv 4) ai) T.aF T.iH d9 (hr.mono (by decide)) T.iG (aa (dv 8) ak)) (cQ (aA (dv 4) ai) T.aF T.iH d9 (hr.mono (by decide)) T.iG (aa (dv 8) ak))) ak)))))) (ao (aI tM)) aX) (ah (iQ ["_law_script","_law_start","_law_whole","_law_turned","_law_parts","_law_clocks","_law_name","_law_clock_here","_law_now","_law_k","_law_due","_law_told","_law_house","_law_odd","!h0","!h1","!h2","!h3","_law_row"] 1 13 rfl (dP (dv 11)) (fun cl C ex s H=>⟨(cL 18 (show List.Nodup (α:=Str) ["_law_script","_law_start","_law_whole","_law_turned","_law_parts","_law_clocks","_law_name","_law_clock_here","_law_now","_law_k","_law_due","_law_told","_law_house","_law_odd","!h0","!h1","!h2","!h3","_law_row"] by decide +kernel)),(i7 (rT (tP (Ga (aA (dv 18) ai) ai) (ou (A8 (GK KO KP (dv 1) (aA (dv 18) ai) (dv 8))))))),(dv 18)⟩) (by show bG ["_law_script","_law_start","_law_whole","_law_turned","_law_parts","_law_clocks","_law_name","_law_clock_here","_law_now","_law_k","_law_due","_law_told","_law_house","_law_odd","!h0","!h1","!h2","!h3"] (ag kW) ["_law_script","_law_start","_law_whole","_law_turned","_law_parts","_law_clocks","_law_name","_law_clock_here","_law_now","_law_k","_law_due","_law_told","_law_house","_law_odd","!h0","!h1","!h2","!h3","_law_row"] _ 1 = true; decide +kernel) (by intro _; rfl) nd rfl (by first | exact Or.inl rfl | exact Or.inr rfl) rfl (by first | exact .inl rfl | exact .inr rfl | assumption)) (ah (cu (rT (tP (rf hr.units (cQ (dv 2) T.aF T.fV cO (hr.mono (by decide)) T.fU (aa (dv 8) ak)) (jk ak)) (ou (rf hr.units (dv 13) (jk ak))))) (ao (aI tM)) aX) (ao (aP 1 nd (dv 8))))))))) aX)))))))) (ao (aI (Ba (CJ hr.units (eZ (dv 2) T.aF T.ju eG (hr.mono (by decide)) T.jt) (ml T.fW (aa (aE (eZ (aA (dv 4) ai) T.aF T.ju eG (hr.mono (by decide)) T.jt) (eZ (aA (dv 4) ai) T.aF T.ju eG (hr.mono (by decide)) T.jt)) ak))) (A9 (CJ hr.units (eZ (dv 2) T.aF T.uW iX (hr.mono (by decide)) T.uV) (dv 8)))))))))))))))
theorem NN (T:Tx K mg t) :aJ P w K mg base bT 7 t.Aq t.wK ["_law_script"] (bp K uq):=by
 have oT:=AB (P:=P) (w:=w) (base:=base) T
 have aQ:=yc (P:=P) (w:=w) (base:=base) T oT
 have d8:=vF (P:=P) (w:=w) (base:=base) T
 have m9:=yd (P:=P) (w:=w) (base:=base) T aQ
 have aN:=kP (P:=P) (w:=w) (base:=base) T
 have gW:=ye (P:=P) (w:=w) (base:=base) T aN
 have hZ:=qQ (P:=P) (w:=w) (base:=base) T
 have b0:=qR (P:=P) (w:=w) (base:=base) T
 have h8:=qS (P:=P) (w:=w) (base:=base) T b0
 have cj:=yf (P:=P) (w:=w) (base:=base) T
 have kQ:=AD (P:=P) (w:=w) (base:=base) T cj
 have cN:=vG (P:=P) (w:=w) (base:=base) T
 have fw:=yg (P:=P) (w:=w) (base:=base) T cN
 have b7:=qT (P:=P) (w:=w) (base:=base) T kQ fw
 have fx:=yh (P:=P) (w:=w) (base:=base) T hZ h8 b7
 have cF:=qf (P:=P) (w:=w) (base:=base) T fx
 have nc:=yi (P:=P) (w:=w) (base:=base) T
 have cE:=sI (P:=P) (w:=w) (base:=base) T
 have kR:=AE (P:=P) (w:=w) (base:=base) T cj
 have ia:=qU (P:=P) (w:=w) (base:=base) T kR fw
 have kS:=vH (P:=P) (w:=w) (base:=base) T
 have h9:=qV (P:=P) (w:=w) (base:=base) T cj cN kS
 have gx:=Cw (P:=P) (w:=w) (base:=base) T b0 h9
 have fy:=yj (P:=P) (w:=w) (base:=base) T ia gx
 have gy:=qg (P:=P) (w:=w) (base:=base) T b7
 have yk:=Il (P:=P) (w:=w) (base:=base) T fx fy gy
 have cO:=vI (P:=P) (w:=w) (base:=base) T aN cE yk
 have jv:=uX (P:=P) (w:=w) (base:=base) T aN
 have oU:=AF (P:=P) (w:=w) (base:=base) T gx
 have d9:=vJ (P:=P) (w:=w) (base:=base) T cE oU fy
 have eG:=uY (P:=P) (w:=w) (base:=base) T
 have iX:=sJ (P:=P) (w:=w) (base:=base) T
 exact NM T aQ d8 m9 gW cF nc cO jv d9 eG iX
end
theorem NO {l:PySem.W.OpenLaw} {w:World} {K:PySem.W.Frag} {h:Heap} {mg:Str→Option Value} {fa:Addr} (X:K.In h) (G:h.Ns mainGlobals mg) (hfa:mg "law" = some (.ref fa)) {C0:Addr} {f0 f1 f2 f3 f4 f5 f6 f7 f8 f9 Rx Ry Rz RA RB Qt RE RF RG RH RI RJ RK RL RM RN Qu Qv RO Qw Qx Qy Qz:Addr} {od0 an0 od1 an1 od2 an2 od3 an3 od4 an4 od5 an5 od6 an6 od7 an7 od8 an8 od9 an9 Uz UA UB UC UD UE UG UH UI UJ UK UL UM UN UO UP UQ UR US UT UU UW UX UY UZ U0 U1 U2 U3 U4 U5 U6 U7 U8 U9 Va Vb Vc Vd Ve Vf Vg Vh Vi Vj QA:Option Addr} {sl0 sl1 Iq sl3 sl4 sl5 sl6 sl7 sl8 sl9 Vk Vl Vm Vn Vo Vp Vq Vr Vs Vt Vu Vv Vw Vx Vy Vz VA VB VC VD VE VF VG:Array (Option Value)} {oc0 kV0 dc0 pm0 ZY ct0 oc1 kV1 dc1 pm1 ZZ ct1 oc2 kV2 dc2 Rn Z0 ct2 oc3 kV3 dc3 pm3 Z1 ct3 oc4 kV4 dc4 pm4 Z2 ct4 oc5 kV5 dc5 pm5 Z3 ct5 oc6 kV6 dc6 pm6 Z4 ct6 oc7 kV7 dc7 pm7 Z5 ct7 oc8 kV8 dc8 pm8 Z6 ct8 oc9 kV9 dc9 pm9 Z7 ct9 VH VI VJ VL QB VM VN VO VP VQ QC VR VS VT VU VV QD VW VX VY VZ V0 QF V1 V2 V3 V4 V5 QG V6 V7 V8 V9 Wa QH Wb Wc Wd We Wf QI Wg Wh Wi Wj Wl QJ Wm Wn Wo Wq Wr QK Ws Wt Wu Wv Ww QL Wx Wy Wz WA WB QM WC WD WE WG WH QN WI WJ WK WL WM QO WN WO WQ WR WS QP WT WU WV WW WX QQ WY WZ W0 W2 W3 QR W4 W5 W6 W7 W8 QS W9 Xa Xb Xc Xd QT Xe Xf Xg Xh Xi QU Xj Xk Xl Xm Xn QV Xo Xp Xq Xr Xs QW Xt Xu Xv Xw Xx QX Xy Xz QY QZ Q0 NP Q1:Value} {Z8 Z9:Tok}
  (XA:PySem.W.nsIn K mainGlobals "House" = some (some (.ref C0))) (XB:PySem.W.plainGet K C0 Str.empty = true) (XC:PySem.W.hasDictIn K C0 = true) (XD:PySem.W.plainOver K C0 = true) (XE:PySem.W.findIn K (.ref C0) "__setattr__" = some (some (.builtin "object.__setattr__"))) (XF:PySem.W.makesIn K C0 = true) (XG:PySem.W.keepIn K (.ref C0) = true) (NQ:PySem.W.findIn K (.ref C0) "asleep" = some none) (NR:PySem.W.findIn K (.ref C0) "clocks" = some none) (NS:PySem.W.findIn K (.ref C0) "reached" = some none) (a0:PySem.W.nsIn K mainGlobals "_law_cell" = some (some (.ref f0))) (l0:K.lookup f0 = some ⟨oc0,od0,.func (PySem.W.fnOf "_law_cell" "_law_cell" (aL gr) (aG gr) (ag gr) .none kV0 dc0 pm0 an0 ZY ct0),sl0⟩) (c0:PySem.W.codeIn K ZY "_law_cell" = true) (k0:PySem.W.keepIn K (.ref f0) = true) (a1:PySem.W.nsIn K mainGlobals "_law_drawn" = some (some (.ref f1))) (l1:K.lookup f1 = some ⟨oc1,od1,.func (PySem.W.fnOf "_law_drawn" "_law_drawn" (aL fg) (aG fg) (ag fg) .none kV1 dc1 pm1 an1 ZZ ct1),sl1⟩) (c1:PySem.W.codeIn K ZZ "_law_drawn" = true) (k1:PySem.W.keepIn K (.ref f1) = true) (a2:PySem.W.findIn K (.ref C0) "__init__" = some (some (.ref f2))) (i2:PySem.W.isFn K (.ref f2) = true) (l2:K.lookup f2 = some ⟨oc2,od2,.func (PySem.W.fnOf "__init__" "House.__init__" (aL dR) (aG dR) (ag dR) .none kV2 dc2 Rn an2 Z0 ct2),Iq⟩) (c2:PySem.W.codeIn K Z0 "House.__init__" = true) (k2:PySem.W.keepIn K (.ref f2) = true) (a3:PySem.W.nsIn K mainGlobals "_law_clock" = some (some (.ref f3))) (l3:K.lookup f3 = some ⟨oc3,od3,.func (PySem.W.fnOf "_law_clock" "_law_clock" (aL cI) (aG cI) (ag cI) .none kV3 dc3 pm3 an3 Z1 ct3),sl3⟩) (c3:PySem.W.codeIn K Z1 "_law_clock" = true) (k3:PySem.W.keepIn K (.ref f3) = true) (a4:PySem.W.findIn K (.ref C0) "refuse_asleep" = some (some (.ref f4))) (i4:PySem.W.isFn K (.ref f4) = true) (l4:K.lookup f4 = some ⟨oc4,od4,.func (PySem.W.fnOf "refuse_asleep" "House.refuse_asleep" (aL bg) (aG bg) (ag bg) .none kV4 dc4 pm4 an4 Z2 ct4),sl4⟩) (c4:PySem.W.codeIn K Z2 "House.refuse_asleep" = true) (k4:PySem.W.keepIn K (.ref f4) = true) (a5:PySem.W.findIn K (.ref C0) "put" = some (some (.ref f5))) (i5:PySem.W.isFn K (.ref f5) = true) (l5:K.lookup f5 = some ⟨oc5,od5,.func (PySem.W.fnOf "put" "House.put" (aL fh) (aG fh) (ag fh) .none kV5 dc5 pm5 an5 Z3 ct5),sl5⟩) (c5:PySem.W.codeIn K Z3 "House.put" = true) (k5:PySem.W.keepIn K (.ref f5) = true) (a6:PySem.W.nsIn K mainGlobals "next_of_timer" = some (some (.ref f6))) (l6:K.lookup f6 = some ⟨oc6,od6,.func (PySem.W.fnOf "next_of_timer" "next_of_timer" (aL bV) (aG bV) (ag bV) .none kV6 dc6 pm6 an6 Z4 ct6),sl6⟩) (c6:PySem.W.codeIn K Z4 "next_of_timer" = true) (k6:PySem.W.keepIn K (.ref f6) = true) (a7:PySem.W.nsIn K mainGlobals "rung_of_every" = some (some (.ref f7))) (l7:K.lookup f7 = some ⟨oc7,od7,.func (PySem.W.fnOf "rung_of_every" "rung_of_every" (aL bW) (aG bW) (ag bW) .none kV7 dc7 pm7 an7 Z5 ct7),sl7⟩) (c7:PySem.W.codeIn K Z5 "rung_of_every" = true) (k7:PySem.W.keepIn K (.ref f7) = true) (a8:PySem.W.nsIn K mainGlobals "next_of_every" = some (some (.ref f8))) (l8:K.lookup f8 = some ⟨oc8,od8,.func (PySem.W.fnOf "next_of_every" "next_of_every" (aL bX) (aG bX) (ag bX) .none kV8 dc8 pm8 an8 Z6 ct8),sl8⟩) (c8:PySem.W.codeIn K Z6 "next_of_every" = true) (k8:PySem.W.keepIn K (.ref f8) = true) (a9:PySem.W.nsIn K mainGlobals "days_gone" = some (some (.ref f9))) (l9:K.lookup f9 = some ⟨oc9,od9,.func (PySem.W.fnOf "days_gone" "days_gone" (aL fi) (aG fi) (ag fi) .none kV9 dc9 pm9 an9 Z7 ct9),sl9⟩) (c9:PySem.W.codeIn K Z7 "days_gone" = true) (k9:PySem.W.keepIn K (.ref f9) = true) (XH:PySem.W.nsIn K mainGlobals "next_set" = some (some (.ref Rx))) (XI:K.lookup Rx = some ⟨VH,Uz,.func (PySem.W.fnOf "next_set" "next_set" (aL eX) (aG eX) (ag eX) .none VI VJ VL UA QB VM),Vk⟩) (XJ:PySem.W.codeIn K QB "next_set" = true) (XM:PySem.W.keepIn K (.ref Rx) = true) (XN:PySem.W.nsIn K mainGlobals "many_up_to" = some (some (.ref Ry))) (XO:K.lookup Ry = some ⟨VN,UB,.func (PySem.W.fnOf "many_up_to" "many_up_to" (aL dS) (aG dS) (ag dS) .none VO VP VQ UC QC VR),Vl⟩) (XQ:PySem.W.codeIn K QC "many_up_to" = true) (XR:PySem.W.keepIn K (.ref Ry) = true) (XS:PySem.W.nsIn K mainGlobals "stands_in" = some (some (.ref Rz))) (XT:K.lookup Rz = some ⟨VS,UD,.func (PySem.W.fnOf "stands_in" "stands_in" (aL fj) (aG fj) (ag fj) .none VT VU VV UE QD VW),Vm⟩) (XU:PySem.W.codeIn K QD "stands_in" = true) (XW:PySem.W.keepIn K (.ref Rz) = true) (XX:PySem.W.nsIn K mainGlobals "next_of_alarm" = some (some (.ref RA))) (XY:K.lookup RA = some ⟨VX,UG,.func (PySem.W.fnOf "next_of_alarm" "next_of_alarm" (aL bY) (aG bY) (ag bY) .none VY VZ V0 UH QF V1),Vn⟩) (XZ:PySem.W.codeIn K QF "next_of_alarm" = true) (X0:PySem.W.keepIn K (.ref RA) = true) (X1:PySem.W.nsIn K mainGlobals "next_ring" = some (some (.ref RB))) (X2:K.lookup RB = some ⟨V2,UI,.func (PySem.W.fnOf "next_ring" "next_ring" (aL fk) (aG fk) (ag fk) .none V3 V4 V5 UJ QG V6),Vo⟩) (X3:PySem.W.codeIn K QG "next_ring" = true) (X4:PySem.W.keepIn K (.ref RB) = true) (X5:PySem.W.findIn K (.ref C0) "next_due" = some (some (.ref Qt))) (X6:PySem.W.isFn K (.ref Qt) = true) (X7:K.lookup Qt = some ⟨V7,UK,.func (PySem.W.fnOf "next_due" "House.next_due" (aL aV) (aG aV) (ag aV) .none V8 V9 Wa UL QH Wb),Vp⟩) (X8:PySem.W.codeIn K QH "House.next_due" = true) (RP:PySem.W.keepIn K (.ref Qt) = true) (X9:PySem.W.nsIn K mainGlobals "_law_first" = some (some (.ref RE))) (Ya:K.lookup RE = some ⟨Wc,UM,.func (PySem.W.fnOf "_law_first" "_law_first" (aL cJ) (aG cJ) (ag cJ) .none Wd We Wf UN QI Wg),Vq⟩) (Yb:PySem.W.codeIn K QI "_law_first" = true) (Yc:PySem.W.keepIn K (.ref RE) = true) (Yd:PySem.W.nsIn K mainGlobals "refuse_early" = some (some (.ref RF))) (Ye:K.lookup RF = some ⟨Wh,UO,.func (PySem.W.fnOf "refuse_early" "refuse_early" (aL cB) (aG cB) (ag cB) .none Wi Wj Wl UP QJ Wm),Vr⟩) (Yf:PySem.W.codeIn K QJ "refuse_early" = true) (Yg:PySem.W.keepIn K (.ref RF) = true) (Yh:PySem.W.nsIn K mainGlobals "last_set" = some (some (.ref RG))) (Yi:K.lookup RG = some ⟨Wn,UQ,.func (PySem.W.fnOf "last_set" "last_set" (aL eY) (aG eY) (ag eY) .none Wo Wq Wr UR QK Ws),Vs⟩) (Yj:PySem.W.codeIn K QK "last_set" = true) (Yk:PySem.W.keepIn K (.ref RG) = true) (Yl:PySem.W.nsIn K mainGlobals "last_of_alarm" = some (some (.ref RH))) (Ym:K.lookup RH = some ⟨Wt,US,.func (PySem.W.fnOf "last_of_alarm" "last_of_alarm" (aL bZ) (aG bZ) (ag bZ) .none Wu Wv Ww UT QL Wx),Vt⟩) (Yn:PySem.W.codeIn K QL "last_of_alarm" = true) (Yo:PySem.W.keepIn K (.ref RH) = true) (Yp:PySem.W.nsIn K mainGlobals "is_set_for" = some (some (.ref RI))) (Yq:K.lookup RI = some ⟨Wy,UU,.func (PySem.W.fnOf "is_set_for" "is_set_for" (aL dU) (aG dU) (ag dU) .none Wz WA WB UW QM WC),Vu⟩) (Yr:PySem.W.codeIn K QM "is_set_for" = true) (J9:PySem.W.keepIn K (.ref RI) = true) (Ys:PySem.W.nsIn K mainGlobals "rung_of_alarm" = some (some (.ref RJ))) (Yt:K.lookup RJ = some ⟨WD,UX,.func (PySem.W.fnOf "rung_of_alarm" "rung_of_alarm" (aL bK) (aG bK) (ag bK) .none WE WG WH UY QN WI),Vv⟩) (Yu:PySem.W.codeIn K QN "rung_of_alarm" = true) (M5:PySem.W.keepIn K (.ref RJ) = true) (Yv:PySem.W.nsIn K mainGlobals "rung_by" = some (some (.ref RK))) (Yw:K.lookup RK = some ⟨WJ,UZ,.func (PySem.W.fnOf "rung_by" "rung_by" (aL iJ) (aG iJ) (ag iJ) .none WK WL WM U0 QO WN),Vw⟩) (Yx:PySem.W.codeIn K QO "rung_by" = true) (Yy:PySem.W.keepIn K (.ref RK) = true) (Yz:PySem.W.nsIn K mainGlobals "last_ring" = some (some (.ref RL))) (YA:K.lookup RL = some ⟨WO,U1,.func (PySem.W.fnOf "last_ring" "last_ring" (aL ft) (aG ft) (ag ft) .none WQ WR WS U2 QP WT),Vx⟩) (YB:PySem.W.codeIn K QP "last_ring" = true) (YC:PySem.W.keepIn K (.ref RL) = true) (YD:PySem.W.nsIn K mainGlobals "rings_of_alarm" = some (some (.ref RM))) (YE:K.lookup RM = some ⟨WU,U3,.func (PySem.W.fnOf "rings_of_alarm" "rings_of_alarm" (aL bQ) (aG bQ) (ag bQ) .none WV WW WX U4 QQ WY),Vy⟩) (YF:PySem.W.codeIn K QQ "rings_of_alarm" = true) (YG:PySem.W.keepIn K (.ref RM) = true) (YH:PySem.W.nsIn K mainGlobals "rings" = some (some (.ref RN))) (YI:K.lookup RN = some ⟨WZ,U5,.func (PySem.W.fnOf "rings" "rings" (aL nA) (aG nA) (ag nA) .none W0 W2 W3 U6 QR W4),Vz⟩) (YJ:PySem.W.codeIn K QR "rings" = true) (YK:PySem.W.keepIn K (.ref RN) = true) (YL:PySem.W.findIn K (.ref C0) "tick" = some (some (.ref Qu))) (YM:PySem.W.isFn K (.ref Qu) = true) (YN:K.lookup Qu = some ⟨W5,U7,.func (PySem.W.fnOf "tick" "House.tick" (aL cM) (aG cM) (ag cM) .none W6 W7 W8 U8 QS W9),VA⟩) (YO:PySem.W.codeIn K QS "House.tick" = true) (RQ:PySem.W.keepIn K (.ref Qu) = true) (YQ:PySem.W.findIn K (.ref C0) "sleep" = some (some (.ref Qv))) (YR:PySem.W.isFn K (.ref Qv) = true) (YS:K.lookup Qv = some ⟨Xa,U9,.func (PySem.W.fnOf "sleep" "House.sleep" (aL de) (aG de) (ag de) .none Xb Xc Xd Va QT Xe),VB⟩) (YT:PySem.W.codeIn K QT "House.sleep" = true) (RR:PySem.W.keepIn K (.ref Qv) = true) (YU:PySem.W.nsIn K mainGlobals "how_many" = some (some (.ref RO))) (YV:K.lookup RO = some ⟨Xf,Vb,.func (PySem.W.fnOf "how_many" "how_many" (aL gs) (aG gs) (ag gs) .none Xg Xh Xi Vc QU Xj),VC⟩) (YW:PySem.W.codeIn K QU "how_many" = true) (YX:PySem.W.keepIn K (.ref RO) = true) (YY:PySem.W.findIn K (.ref C0) "wake" = some (some (.ref Qw))) (YZ:PySem.W.isFn K (.ref Qw) = true) (Y0:K.lookup Qw = some ⟨Xk,Vd,.func (PySem.W.fnOf "wake" "House.wake" (aL dW) (aG dW) (ag dW) .none Xl Xm Xn Ve QV Xo),VD⟩) (Y1:PySem.W.codeIn K QV "House.wake" = true) (RS:PySem.W.keepIn K (.ref Qw) = true) (Y2:PySem.W.findIn K (.ref C0) "names" = some (some (.ref Qx))) (Y3:PySem.W.isFn K (.ref Qx) = true) (Y4:K.lookup Qx = some ⟨Xp,Vf,.func (PySem.W.fnOf "names" "House.names" (aL df) (aG df) (ag df) .none Xq Xr Xs Vg QW Xt),VE⟩) (Y5:PySem.W.codeIn K QW "House.names" = true) (RT:PySem.W.keepIn K (.ref Qx) = true) (Y6:PySem.W.findIn K (.ref C0) "moment" = some (some (.ref Qy))) (Y7:PySem.W.isFn K (.ref Qy) = true) (Y8:K.lookup Qy = some ⟨Xu,Vh,.func (PySem.W.fnOf "moment" "House.moment" (aL cC) (aG cC) (ag cC) .none Xv Xw Xx Vi QX Xy),VF⟩) (Y9:PySem.W.codeIn K QX "House.moment" = true) (RU:PySem.W.keepIn K (.ref Qy) = true) (Za:PySem.W.nsIn K mainGlobals "law" = some (some (.ref Qz))) (Zb:K.lookup Qz = some ⟨Xz,Vj,.func (PySem.W.fnOf "law" "law" (aL kW) (aG kW) (ag kW) .none QY QZ Q0 QA NP Q1),VG⟩) (Zc:PySem.W.codeIn K NP "law" = true) (Zd:PySem.W.keepIn K (.ref Qz) = true) (z0:PySem.W.nsIn K mainGlobals "len" = some none) (z1:PySem.W.nsIn K mainGlobals "list" = some none) (z2:PySem.W.nsIn K mainGlobals "max" = some none) (z3:PySem.W.nsIn K mainGlobals "min" = some none) (z4:PySem.W.nsIn K mainGlobals "range" = some none) (z5:PySem.W.nsIn K mainGlobals "set" = some none) (z6:PySem.W.nsIn K mainGlobals "sorted" = some none) (z7:PySem.W.nsIn K mainGlobals "tuple" = some none) (y0:PySem.W.nsIn K mainGlobals "DAY" = some (some (.int 1440 Z8))) (y1:PySem.W.nsIn K mainGlobals "WEEK" = some (some (.int 7 Z9))) :
  ∃ fd:FuncData,(∀ (s:Shared) (v:Value),BindsTo s fd ⟨[v],[]⟩ [("_law_script",v)])∧∀ base:Heap,K.In base→base.Ns mainGlobals mg→aJ l.prog w K mg base bT 7 fa fd ["_law_script"] (bp K uq):=by
 obtain ⟨t,T,e1,e2⟩:∃ t:Ad,Tx K mg t∧t.Aq = Qz∧t.wK = PySem.W.fnOf "law" "law" (aL kW) (aG kW) (ag kW) .none QY QZ Q0 QA NP Q1:=by
  have F0:=aY (st:=gr) l0 c0 k0
  have F1:=aY (st:=fg) l1 c1 k1
  have F2:=aY (st:=dR) l2 c2 k2
  have F3:=aY (st:=cI) l3 c3 k3
  have F4:=aY (st:=bg) l4 c4 k4
  have F5:=aY (st:=fh) l5 c5 k5
  have F6:=aY (st:=bV) l6 c6 k6
  have F7:=aY (st:=bW) l7 c7 k7
  have F8:=aY (st:=bX) l8 c8 k8
  have F9:=aY (st:=fi) l9 c9 k9
  have F10:=aY (st:=eX) XI XJ XM
  have F11:=aY (st:=dS) XO XQ XR
  have F12:=aY (st:=fj) XT XU XW
  have F13:=aY (st:=bY) XY XZ X0
  have F14:=aY (st:=fk) X2 X3 X4
  have F15:=aY (st:=aV) X7 X8 RP
  have F16:=aY (st:=cJ) Ya Yb Yc
  have F17:=aY (st:=cB) Ye Yf Yg
  have F18:=aY (st:=eY) Yi Yj Yk
  have F19:=aY (st:=bZ) Ym Yn Yo
  have F20:=aY (st:=dU) Yq Yr J9
  have F21:=aY (st:=bK) Yt Yu M5
  have F22:=aY (st:=iJ) Yw Yx Yy
  have F23:=aY (st:=ft) YA YB YC
  have F24:=aY (st:=bQ) YE YF YG
  have F25:=aY (st:=nA) YI YJ YK
  have F26:=aY (st:=cM) YN YO RQ
  have F27:=aY (st:=de) YS YT RR
  have F28:=aY (st:=gs) YV YW YX
  have F29:=aY (st:=dW) Y0 Y1 RS
  have F30:=aY (st:=df) Y4 Y5 RT
  have F31:=aY (st:=cC) Y8 Y9 RU
  have F32:=aY (st:=kW) Zb Zc Zd
  exact ⟨⟨f0,_,f1,_,f2,_,f3,_,f4,_,f5,_,f6,_,f7,_,f8,_,f9,_,Rx,_,Ry,_,Rz,_,RA,_,RB,_,Qt,_,RE,_,RF,_,RG,_,RH,_,RI,_,RJ,_,RK,_,RL,_,RM,_,RN,_,Qu,_,Qv,_,RO,_,Qw,_,Qx,_,Qy,_,Qz,_,Z8,Z9,C0⟩,⟨F0,F0.binds (ps:=["_law_script","_law_k"]) (fun _ _ _ _ _ _=>vA (fun _ _=>rfl)),PySem.W.mg_of X G a0,F1,F1.binds (ps:=["_law_script","_law_k","_law_many"]) (fun _ _ _ _ _ _=>Qo (fun _ _ _=>rfl)),PySem.W.mg_of X G a1,F2,F2.binds (ps:=["self","now"]) (fun _ _ _ _ _ _=>vA (fun _ _=>rfl)),⟨a2,i2,k2⟩,F3,F3.binds (ps:=["_law_script","_law_at"]) (fun _ _ _ _ _ _=>vA (fun _ _=>rfl)),PySem.W.mg_of X G a3,F4,F4.binds (ps:=["self"]) (fun _ _ _ _ _ _=>NJ (fun _=>rfl)),⟨a4,i4,k4⟩,F5,F5.binds (ps:=["self","name","clock"]) (fun _ _ _ _ _ _=>Qo (fun _ _ _=>rfl)),⟨a5,i5,k5⟩,F6,F6.binds (ps:=["clock","now"]) (fun _ _ _ _ _ _=>vA (fun _ _=>rfl)),PySem.W.mg_of X G a6,F7,F7.binds (ps:=["clock","moment"]) (fun _ _ _ _ _ _=>vA (fun _ _=>rfl)),PySem.W.mg_of X G a7,F8,F8.binds (ps:=["clock","now"]) (fun _ _ _ _ _ _=>vA (fun _ _=>rfl)),PySem.W.mg_of X G a8,F9,F9.binds (ps:=["clock","moment"]) (fun _ _ _ _ _ _=>vA (fun _ _=>rfl)),PySem.W.mg_of X G a9,F10,F10.binds (ps:=["clock","now"]) (fun _ _ _ _ _ _=>vA (fun _ _=>rfl)),PySem.W.mg_of X G XH,F11,F11.binds (ps:=["rising","most"]) (fun _ _ _ _ _ _=>vA (fun _ _=>rfl)),PySem.W.mg_of X G XN,F12,F12.binds (ps:=["rising","number"]) (fun _ _ _ _ _ _=>vA (fun _ _=>rfl)),PySem.W.mg_of X G XS,F13,F13.binds (ps:=["clock","now"]) (fun _ _ _ _ _ _=>vA (fun _ _=>rfl)),PySem.W.mg_of X G XX,F14,F14.binds (ps:=["clock","now"]) (fun _ _ _ _ _ _=>vA (fun _ _=>rfl)),PySem.W.mg_of X G X1,F15,F15.binds (ps:=["self"]) (fun _ _ _ _ _ _=>NJ (fun _=>rfl)),⟨X5,X6,RP⟩,F16,F16.binds (ps:=["_law_some"]) (fun _ _ _ _ _ _=>NJ (fun _=>rfl)),PySem.W.mg_of X G X9,F17,F17.binds (ps:=["earlier","now"]) (fun _ _ _ _ _ _=>vA (fun _ _=>rfl)),PySem.W.mg_of X G Yd,F18,F18.binds (ps:=["clock","now"]) (fun _ _ _ _ _ _=>vA (fun _ _=>rfl)),PySem.W.mg_of X G Yh,F19,F19.binds (ps:=["clock","now"]) (fun _ _ _ _ _ _=>vA (fun _ _=>rfl)),PySem.W.mg_of X G Yl,F20,F20.binds (ps:=["clock","moment"]) (fun _ _ _ _ _ _=>vA (fun _ _=>rfl)),PySem.W.mg_of X G Yp,F21,F21.binds (ps:=["clock","moment"]) (fun _ _ _ _ _ _=>vA (fun _ _=>rfl)),PySem.W.mg_of X G Ys,F22,F22.binds (ps:=["clock","moment"]) (fun _ _ _ _ _ _=>vA (fun _ _=>rfl)),PySem.W.mg_of X G Yv,F23,F23.binds (ps:=["clock","now"]) (fun _ _ _ _ _ _=>vA (fun _ _=>rfl)),PySem.W.mg_of X G Yz,F24,F24.binds (ps:=["clock","first","end"]) (fun _ _ _ _ _ _=>Qo (fun _ _ _=>rfl)),PySem.W.mg_of X G YD,F25,F25.binds (ps:=["clock","start","end"]) (fun _ _ _ _ _ _=>Qo (fun _ _ _=>rfl)),PySem.W.mg_of X G YH,F26,F26.binds (ps:=["self","now"]) (fun _ _ _ _ _ _=>vA (fun _ _=>rfl)),⟨YL,YM,RQ⟩,F27,F27.binds (ps:=["self"]) (fun _ _ _ _ _ _=>NJ (fun _=>rfl)),⟨YQ,YR,RR⟩,F28,F28.binds (ps:=["clock","start","end"]) (fun _ _ _ _ _ _=>Qo (fun _ _ _=>rfl)),PySem.W.mg_of X G YU,F29,F29.binds (ps:=["self","now"]) (fun _ _ _ _ _ _=>vA (fun _ _=>rfl)),⟨YY,YZ,RS⟩,F30,F30.binds (ps:=["self"]) (fun _ _ _ _ _ _=>NJ (fun _=>rfl)),⟨Y2,Y3,RT⟩,F31,F31.binds (ps:=["self"]) (fun _ _ _ _ _ _=>NJ (fun _=>rfl)),⟨Y6,Y7,RU⟩,F32,F32.binds (ps:=["_law_script"]) (fun _ _ _ _ _ _=>NJ (fun _=>rfl)),PySem.W.mg_of X G Za,PySem.W.mg_none_of X G z0,PySem.W.mg_none_of X G z1,PySem.W.mg_none_of X G z2,PySem.W.mg_none_of X G z3,PySem.W.mg_none_of X G z4,PySem.W.mg_none_of X G z5,PySem.W.mg_none_of X G z6,PySem.W.mg_none_of X G z7,PySem.W.mg_of X G y0,PySem.W.mg_of X G y1,⟨XB,XC,XD,XE⟩,NQ,NR,NS,⟨XF,a2,i2,XG⟩,PySem.W.mg_of X G XA⟩,rfl,rfl⟩
 have e:=hfa.symm.trans T.Qr
 cases e
 refine ⟨t.wK,fun s v=>?_,fun base KB NB=>NN T⟩
 rw [e2]
 exact .of_eq rfl
theorem walk {l:PySem.W.OpenLaw} {q:Program} {loose:List Str} {XP:(Str→Option Value)→Heap→Prop} {YP:World→Heap→Prop} {d:DefRec} {K:Params→PySem.W.Frag} (hn:l.most = some 63) (OU:d.params.defaults = [])
  (hY:∀ (w:World) (h:Heap),YP w h→(K w.params).In h)
  (F:∀ (w:World) (mg:Str→Option Value) (fa:Addr) (h:Heap),(K w.params).In h→h.Ns mainGlobals mg→mg d.name = some (.ref fa) →
   ∃ fd:FuncData,(∀ (s:Shared) (u:Value),BindsTo s fd ⟨[u],[]⟩ [("_law_script",u)])∧∀ base:Heap,(K w.params).In base→base.Ns mainGlobals mg→aJ l.prog w (K w.params) mg base bT 7 fa fd ["_law_script"] (bp (K w.params) uq)) :
  PySem.W.WalkO q loose XP YP l.row.toRowW d [] (fun f vs=>PySem.call f vs) :=
 L2.Ji (n:=63) (k:=7) (x:="_law_script") (CX:=fun _=>bT) (sp:=fun w=>bp (K w.params) uq) hn (by decide) OU ⟨rfl,by decide,by decide⟩ hY F
  (fun w H a ns hl _ hS=>⟨H,[.lst (ns.map D.int)],fun d=>d = .bl true,av.refl _,.cons (.lst hS (aH.ints ns)) .nil,⟨ns,rfl,hl,rfl⟩,fun v G' H' d _ dv e=>by subst e; exact dv.w8⟩) fun _ _ _ _ _ z=>z
end rV
open PySem PySem.W PyProof.Rows
set_option maxRecDepth 100000 in
set_option maxHeartbeats 0 in
theorem PySem.Challenge.cw_latebells_k53_whole_two_houses_holds : PySem.Challenge.rw_latebells_k53_whole_two_houses.Holds := by
 w_on; o_law; k_head; (case hw=>w_witness2)
 k_fill
 refine rV.walk (l:=PySem.Challenge.rw_latebells_k53_whole_two_houses) rfl rfl (fun w h Y=>PySem.W.kIn_of Y) ?F
 case F =>
  intro w mg fa h KX G hmg
  refine' rV.NO KX G hmg ?aC0 ?pg0 ?hd0 ?po0 ?sa0 ?mk0 ?kc0 ?n0x0 ?n0x1 ?n0x2 ?a0 ?l0 ?c0 ?k0 ?a1 ?l1 ?c1 ?k1 ?a2 ?i2 ?l2 ?c2 ?k2 ?a3 ?l3 ?c3 ?k3 ?a4 ?i4 ?l4 ?c4 ?k4 ?a5 ?i5 ?l5 ?c5 ?k5 ?a6 ?l6 ?c6 ?k6 ?a7 ?l7 ?c7 ?k7 ?a8 ?l8 ?c8 ?k8 ?a9 ?l9 ?c9 ?k9 ?a10 ?l10 ?c10 ?k10 ?a11 ?l11 ?c11 ?k11 ?a12 ?l12 ?c12 ?k12 ?a13 ?l13 ?c13 ?k13 ?a14 ?l14 ?c14 ?k14 ?a15 ?i15 ?l15 ?c15 ?k15 ?a16 ?l16 ?c16 ?k16 ?a17 ?l17 ?c17 ?k17 ?a18 ?l18 ?c18 ?k18 ?a19 ?l19 ?c19 ?k19 ?a20 ?l20 ?c20 ?k20 ?a21 ?l21 ?c21 ?k21 ?a22 ?l22 ?c22 ?k22 ?a23 ?l23 ?c23 ?k23 ?a24 ?l24 ?c24 ?k24 ?a25 ?l25 ?c25 ?k25 ?a26 ?i26 ?l26 ?c26 ?k26 ?a27 ?i27 ?l27 ?c27 ?k27 ?a28 ?l28 ?c28 ?k28 ?a29 ?i29 ?l29 ?c29 ?k29 ?a30 ?i30 ?l30 ?c30 ?k30 ?a31 ?i31 ?l31 ?c31 ?k31 ?a32 ?l32 ?c32 ?k32 ?z0 ?z1 ?z2 ?z3 ?z4 ?z5 ?z6 ?z7 ?y0 ?y1
  (case aC0=>k_is); (case pg0=>k_is); (case hd0=>k_is); (case po0=>k_is)
  (case sa0=>k_is); (case mk0=>k_is); (case kc0=>k_is); (case n0x0=>k_is)
  (case n0x1=>k_is); (case n0x2=>k_is); (case a0=>k_is); (case l0=>k_is)
  (case c0=>k_is); (case k0=>k_is); (case a1=>k_is); (case l1=>k_is)
  (case c1=>k_is); (case k1=>k_is); (case a2=>k_is); (case i2=>k_is)
  (case l2=>k_is); (case c2=>k_is); (case k2=>k_is); (case a3=>k_is)
  (case l3=>k_is); (case c3=>k_is); (case k3=>k_is); (case a4=>k_is)
  (case i4=>k_is); (case l4=>k_is); (case c4=>k_is); (case k4=>k_is)
  (case a5=>k_is); (case i5=>k_is); (case l5=>k_is); (case c5=>k_is)
  (case k5=>k_is); (case a6=>k_is); (case l6=>k_is); (case c6=>k_is)
  (case k6=>k_is); (case a7=>k_is); (case l7=>k_is); (case c7=>k_is)
  (case k7=>k_is); (case a8=>k_is); (case l8=>k_is); (case c8=>k_is)
  (case k8=>k_is); (case a9=>k_is); (case l9=>k_is); (case c9=>k_is)
  (case k9=>k_is); (case a10=>k_is); (case l10=>k_is); (case c10=>k_is)
  (case k10=>k_is); (case a11=>k_is); (case l11=>k_is); (case c11=>k_is)
  (case k11=>k_is); (case a12=>k_is); (case l12=>k_is); (case c12=>k_is)
  (case k12=>k_is); (case a13=>k_is); (case l13=>k_is); (case c13=>k_is)
  (case k13=>k_is); (case a14=>k_is); (case l14=>k_is); (case c14=>k_is)
  (case k14=>k_is); (case a15=>k_is); (case i15=>k_is); (case l15=>k_is)
  (case c15=>k_is); (case k15=>k_is); (case a16=>k_is); (case l16=>k_is)
  (case c16=>k_is); (case k16=>k_is); (case a17=>k_is); (case l17=>k_is)
  (case c17=>k_is); (case k17=>k_is); (case a18=>k_is); (case l18=>k_is)
  (case c18=>k_is); (case k18=>k_is); (case a19=>k_is); (case l19=>k_is)
  (case c19=>k_is); (case k19=>k_is); (case a20=>k_is); (case l20=>k_is)
  (case c20=>k_is); (case k20=>k_is); (case a21=>k_is); (case l21=>k_is)
  (case c21=>k_is); (case k21=>k_is); (case a22=>k_is); (case l22=>k_is)
  (case c22=>k_is); (case k22=>k_is); (case a23=>k_is); (case l23=>k_is)
  (case c23=>k_is); (case k23=>k_is); (case a24=>k_is); (case l24=>k_is)
  (case c24=>k_is); (case k24=>k_is); (case a25=>k_is); (case l25=>k_is)
  (case c25=>k_is); (case k25=>k_is); (case a26=>k_is); (case i26=>k_is)
  (case l26=>k_is); (case c26=>k_is); (case k26=>k_is); (case a27=>k_is)
  (case i27=>k_is); (case l27=>k_is); (case c27=>k_is); (case k27=>k_is)
  (case a28=>k_is); (case l28=>k_is); (case c28=>k_is); (case k28=>k_is)
  (case a29=>k_is); (case i29=>k_is); (case l29=>k_is); (case c29=>k_is)
  (case k29=>k_is); (case a30=>k_is); (case i30=>k_is); (case l30=>k_is)
  (case c30=>k_is); (case k30=>k_is); (case a31=>k_is); (case i31=>k_is)
  (case l31=>k_is); (case c31=>k_is); (case k31=>k_is); (case a32=>k_is)
  (case l32=>k_is); (case c32=>k_is); (case k32=>k_is); (case z0=>k_is)
  (case z1=>k_is); (case z2=>k_is); (case z3=>k_is); (case z4=>k_is)
  (case z5=>k_is); (case z6=>k_is); (case z7=>k_is); (case y0=>k_is)
  (case y1=>k_is)
