import PyProof.Rows.All
import Wide.All
import OpenK.AllK
import Wide.FinOn
import Lean
import PyProof.EqAt
import PyProof.EqKinds
import PyProof.TupleCall
import PyProof.NeData
import PyProof.P3In
import PySem.Challenge.RW_latebells_k50_houses
set_option compiler.extract_closed false
set_option Elab.async false
set_option linter.all false
set_option maxRecDepth 100000
set_option maxHeartbeats 4000000
open PySem.W (Frag keepIn nsIn kitOne codeIn findIn fnOf excIn mroIn mg_of mg_none_of OpenLaw isFn plainGet hasDictIn plainOver makesIn)
namespace PySem.W.Fast
def tw10493832421209970546:=True
def tw15402374680359968012:=True
def tw15785365557169164295:=True
def tw3606986413513867786:=True
def tw14900181992059279460:=True
def tw12429958940237047071:=True
def tw8716282569584824132:=True
def tw16776187777151223631:=True
def tw2183533116068793912:=True
def tw10293136600603742994:=True
def tw14561124350310903486:=True
def tw2312357623662453450:=True
def tw16373236025210341275:=True
def tw4501519040918419405:=True
def tw9060780557423871833:=True
def tw5833393313003042867:=True
def tw6635120815815148240:=True
def tw10956116014647060982:=True
def tw2540321128104534327:=True
def tw9495418938507019351:=True
def tw2004470788699290707:=True
def tw15153167545629349598:=True
def tw12496082950867742463:=True
def tw10605622486480838198:=True
def tw4695397079461274178:=True
def tw1051903274918456517:=True
def tw1497784223759300738:=True
def tw9981015443403450540:=True
def tw13074339522586843289:=True
def tw3654697435535534904:=True
def tw15036617867934052569:=True
def tw3011189500057750707:=True
def tw2230297642058658137:=True
def tw18342859616764388837:=True
def tw6475379035132120952:=True
def tw15801120437069099465:=True
def tw1555881670588346902:=True
def tw17212086576965876729:=True
def tw4690360642628873835:=True
def tw16936256422458155604:=True
def tw3779526145462899442:=True
def tw11376107031044993901:=True
def tw17438382449638894695:=True
def tw10069854527061362581:=True
def tw11584049722202375763:=True
def tw16019319770513645365:=True
def tw1327381431900922170:=True
def tw2444791446452196870:=True
def tw3719334639157968168:=True
def tw16357588395297288241:=True
def tw15725572750579179013:=True
def tw3377856393787687625:=True
def tw11261809624549793459:=True
def tw7653955672275965684:=True
def tw13054922522282486335:=True
def tw6866619798913653191:=True
def tw17107451696615891791:=True
def tw15775617776978608713:=True
def tw7982157981108635732:=True
def tw11107668659433955545:=True
end PySem.W.Fast
abbrev aa := @PySem.wpAny_bind
abbrev ag := @PySem.wpAny_pure
abbrev ai := @PySem.Heap.get?_push_of_some
abbrev aj := @List.mem_cons_self
abbrev ak := @List.mem_map
abbrev ao := @Nat.le_refl
abbrev aw := @List.mem_cons_of_mem
abbrev ay := @Nat.le_trans
abbrev aB := @PySem.Heap.get?_push_size
abbrev az := @PySem.Heap.lt_size
abbrev aE := @List.mem_cons
abbrev aI := @List.getElem?_eq_getElem
abbrev aJ := @List.length_filterMap_le
abbrev aK := @List.getElem?_eq_some_iff
abbrev aM := @Nat.lt_of_lt_of_le
abbrev aN := @List.mem_append_right
abbrev aP := @Nat.ne_of_lt
abbrev aU := @List.lookup_eq_none_iff
abbrev aW := @List.pairwise_cons
abbrev aV := @PySem.wpAny_mono
abbrev aZ := @PySem.wpAny_newObj_type
abbrev bc := @beq_eq_false_iff_ne
abbrev bf := @List.mem_of_getElem?
abbrev bh := @Array.getElem?_eq_getElem
abbrev bt := @Option.some.inj
abbrev bj := @Nat.le_of_lt
abbrev bB := @List.mem_singleton
abbrev bC := @List.mem_filterMap
abbrev bw := @Nat.zero_le
abbrev bD := @List.length_filter_le
abbrev bI := @PySem.wpAny_call_entry
abbrev bJ := @PySem.mem_of_lookup
abbrev bK := @PySem.Heap.SameBut.update
abbrev bH := @PyProof.Rows.slot_tuple_getitem
abbrev bN := @PySem.codeAny_builtin
abbrev bO := @List.pairwise_lt_range
abbrev bQ := @Nat.lt_irrefl
abbrev bW := @PySem.wpAny_holding
abbrev b7 := @PySem.Heap.get?_update_self
abbrev b9 := @PySem.Obj.data_mapFields
abbrev cf := @Nat.le_succ
abbrev cg := @List.mem_append_left
abbrev cj := @PySem.wpAny_callSpecial?_slot
abbrev cB := @PySem.PassesOwn.never
abbrev cC := @List.mem_filter
abbrev cJ := @beq_iff_eq
abbrev cK := @Classical.choose_spec
abbrev cR := @decide_eq_false
abbrev cS := @List.mem_append
abbrev cT := @PySem.wpAny_loadPart_at
abbrev cU := @Nat.lt_succ_of_lt
abbrev de := @PySem.plainId_quiet
abbrev df := @List.map_congr_left
abbrev dh := @List.filter_sublist
namespace L2
open PySem PySem.Spec PyProof.Rows
abbrev Key:=Sum Int Str
noncomputable def Ah:Key->Value->Bool
 | .inl k,v=>Value.isInt k v
 | .inr x,v=>Value.isStrOf x v
noncomputable def Zy (w:World):Key->Int
 | .inl k=>hashInt k
 | .inr x=>hashStr w x
theorem fu:∀{k:Key}{v:Value},Ah k v=true->(∃i t,k=Sum.inl i/\v=Value.int i t)\/(∃x t,k=Sum.inr x/\v=Value.str x t)
 | .inl i,v,h=>by
  obtain ⟨t,e⟩:=Value.isInt_shape (k:=i) (v:=v) h;exact .inl ⟨i,t,rfl,e⟩
 | .inr x,v,h=>by
  obtain ⟨t,e⟩:=Value.isStrOf_shape (x:=x) (v:=v) h;exact .inr ⟨x,t,rfl,e⟩
def Lu (i:Int) (t:Tok):Ah (.inl i) (.int i t)=true:=by simp [Ah,Value.isInt]
def Lv (x:Str) (t:Tok):Ah (.inr x) (.str x t)=true:=by simp [Ah,Value.isStrOf]
def TM (a b:Int):decide ((Sum.inl a:Key)=Sum.inl b)=(a==b):=by
 by_cases e:a=b
 ·subst e;simp
 ·have h:¬(Sum.inl a:Key)=Sum.inl b:=fun q=>e (Sum.inl.inj q)
  rw [decide_eq_false h];exact (bc.mpr e).symm
def TN (a b:Str):decide ((Sum.inr a:Key)=Sum.inr b)=decide (a=b):=by
 by_cases e:a=b
 ·subst e;simp
 ·have h:¬(Sum.inr a:Key)=Sum.inr b:=fun q=>e (Sum.inr.inj q)
  rw [decide_eq_false h,decide_eq_false e]
def TQ (a:Int) (b:Str):decide ((Sum.inl a:Key)=Sum.inr b)=false:=cR (fun q=>nomatch q)
def TR (a:Str) (b:Int):decide ((Sum.inr a:Key)=Sum.inl b)=false:=cR (fun q=>nomatch q)
noncomputable def dG (prog:Program) (w:World):PySem.KeyKind prog w Key where
 is:=Ah
 hash:=Zy w
 inj:=fun v a b ha hb=>by
  rcases fu ha with ⟨i,t,rfl,rfl⟩ | ⟨x,t,rfl,rfl⟩
  ·rcases fu hb with ⟨j,u,rfl,e⟩ | ⟨y,u,rfl,e⟩
   ·injection e with e1 _;rw [e1]
   ·exact nomatch e
  ·rcases fu hb with ⟨j,u,rfl,e⟩ | ⟨y,u,rfl,e⟩
   ·exact nomatch e
   ·injection e with e1 _;rw [e1]
 byValue:=fun k v h=>by
  rcases fu h with ⟨i,t,rfl,rfl⟩ | ⟨x,t,rfl,rfl⟩ <;> rfl
 pyHash:=fun hv h=>by
  rcases fu hv with ⟨i,t,rfl,rfl⟩ | ⟨x,t,rfl,rfl⟩
  ·exact wpAny_pyHash_int h
  ·exact wpAny_pyHash_str h
 eqBool:=fun hu hv h=>by
  rcases fu hu with ⟨i,t,rfl,rfl⟩ | ⟨x,t,rfl,rfl⟩
  ·rcases fu hv with ⟨j,u,rfl,rfl⟩ | ⟨y,u,rfl,rfl⟩
   ·rw [TM] at h;exact wpAny_eqBool_int h
   ·rw [TQ] at h;exact SeqAt.EqAt.int_str i t y u _ _ _ _ h
  ·rcases fu hv with ⟨j,u,rfl,rfl⟩ | ⟨y,u,rfl,rfl⟩
   ·rw [TR] at h;exact SeqAt.EqAt.str_int x t j u _ _ _ _ h
   ·rw [TN] at h;exact wpAny_eqBool_str h
 «strs»:=fun k x t v h=>by
  rcases fu h with ⟨i,u,rfl,e⟩ | ⟨y,u,rfl,e⟩
  ·exact nomatch e
  ·injection e with e1 _
   subst e1;cases v <;> rfl
def Ga (prog:Program) (w:World) (i:Int) (t:Tok):(dG prog w).is (.inl i) (.int i t)=true:=Lu i t
def Gb (prog:Program) (w:World) (x:Str) (t:Tok):(dG prog w).is (.inr x) (.str x t)=true:=Lv x t
inductive V where
 | bX | bl (b:Bool) | int (i:Int) | str (x:Str) | WG (b:Array UInt8) | YX (b:UInt64) | ref (a:Addr) | ty (n:String)
 deriving DecidableEq
def RelV:V->Value->Prop
 | .bX,u=>u=Value.none
 | .bl b,u=>u=Value.bool b
 | .int i,u=>∃t,u=Value.int i t
 | .str x,u=>∃t,u=Value.str x t
 | .WG b,u=>∃t,u=Value.bytes b t
 | .YX b,u=>∃t,u=Value.float b t
 | .ref a,u=>u=Value.ref a
 | .ty n,u=>u=Value.type n
abbrev Vals:List V->List Value->Prop:=Paired RelV
theorem Vals.length {xs:List V}{us:List Value} (r:Vals xs us):xs.length=us.length:=Paired.length r
theorem Vals.get:∀{xs:List V}{us:List Value}{i:Nat}{x:V},Vals xs us->xs[i]?=some x->∃u,us[i]?=some u/\RelV x u
 | _,_,_,_,.nil,e=>by simp at e
 | _,_,0,_,.cons r _,e=>by simp at e;subst e;exact ⟨_,rfl,r⟩
 | _,_,i+1,x,.cons _ t,e=>by
  obtain ⟨u,h1,h2⟩:=Vals.get (i:=i) (x:=x) t (by simpa using e);exact ⟨u,by simpa using h1,h2⟩
theorem Vals.append:∀{xs ys:List V}{us ws:List Value},Vals xs us->Vals ys ws->Vals (xs++ys) (us++ws)
 | _,_,_,_,.nil,s=>s
 | _,_,_,_,.cons r t,s=>.cons r (Vals.append t s)
theorem Vals.take:∀{xs:List V}{us:List Value} (n:Nat),Vals xs us->Vals (xs.take n) (us.take n)
 | _,_,0,_=>.nil
 | _,_,_+1,.nil=>.nil
 | _,_,n+1,.cons r t=>.cons r (Vals.take n t)
theorem Vals.drop:∀{xs:List V}{us:List Value} (n:Nat),Vals xs us->Vals (xs.drop n) (us.drop n)
 | _,_,0,r=>r
 | _,_,_+1,.nil=>.nil
 | _,_,n+1,.cons _ t=>Vals.drop n t
def pH:Option V->Option Value->Prop
 | some v,some u=>RelV v u
 | none,none=>True
 | _,_=>False
def KV {κ:Type}:List (κ×V)->List (κ×Value)->Prop:=Paired fun (p:κ×V) (q:κ×Value)=>p.1=q.1/\RelV p.2 q.2
noncomputable def kV:Key->V
 | .inl i=>.int i
 | .inr x=>.str x
inductive HO where
 | lst (xs:List V)
 | tup (xs:List V)
 | dK (kvs:List (Key×V)) | dT (kvs:List (List Key×V))
 | set (S:Int->Bool) (n:Nat)
 | ins (C dx:Addr) (fs:List (Str×V))
 | own (x:Addr)
 | xd (fs:List (Str×V))
 | met (f x:Addr)
 | W4 (lo hi:Int)
 | mR (o:Obj) (u:HO)
 | Qt (ps:Array Value)
 | ext (φ:Heap->Prop)
abbrev Hp:=Addr->Option HO
noncomputable def upd (H:Hp) (a:Addr) (o:HO):Hp:=fun b=>if b=a then some o else H b
def aO {H:Hp}{a:Addr}{o:HO}:upd H a o a=some o:=by unfold upd;rw [if_pos rfl]
def aF {H:Hp}{a b:Addr}{o:HO} (h:b≠a):upd H a o b=H b:=by unfold upd;rw [if_neg h]
def W5 {H:Hp}{a b:Addr}{o u:HO} (h:H a=some o) (h':H b=some u) (d:o≠u):a≠b:=by
 intro e;subst e;rw [h] at h';exact d (bt h')
def cq {H:Hp}{a b:Addr}{o:HO} (h:H a=some o) (h':H b=none):a≠b:=by
 intro e;subst e;rw [h] at h';cases h'
section
variable (P:Program) (w:World)
def fL (H:Hp) (h:Heap) (a:Addr):HO->Prop
 | .lst xs=>xs.length<=sizeLine/\∃(its:List Value) (n:Nat),Vals xs its/\h.get? a=some { cls:=.type "list",data:=.seq its.toArray n }
 | .tup xs=>xs.length<=sizeLine/\∃its:List Value,Vals xs its/\IsTup h a its.toArray
 | .dK kvs=>kvs.length<=sizeLine/\(a==sysModules)=false/\∃vs,KV kvs vs/\h.DictOf (dG P w) a vs
 | .dT kvs=>kvs.length<=sizeLine/\(a==sysModules)=false/\∃xs:List (List Key×Addr×Value),
   Paired (fun (p:List Key×V) (q:List Key×Addr×Value)=>p.1=q.1/\H q.2.1=some (.tup (p.1.map kV))/\RelV p.2 q.2.2) kvs xs /\
   ∃o es ep,h.get? a=some o/\o.ExactDict/\o.data=.dict es ep/\es.toList=xs.map (entryOfKey (tupleKind (dG P w)))/\(xs.map (·.1)).Nodup
 | .set S n=>h.SetOf (intKind P w) a S n
 | .ins C dx fs=>H dx=some (.own a)/\fs.length<=1000/\dx≠a/\h.get? a=some (PySem.W.instObj C dx) /\
   ∃mA,h.Ns1 dx mA/\(∀f,pH (fs.lookup f) (mA f))/\PySem.Within mA (fs.map (·.1))
 | .own _=>∃o,h.get? a=some o
 | .xd fs=>∃mA,h.Ns1 a mA/\∀f,pH (fs.lookup f) (mA f)
 | .W4 lo hi=>∃t u v,h.get? a=some { cls:=.type "range",data:=.fields #[.int lo t,.int hi u,.int 1 v] }
 | .mR o u=>h.get? a=some o/\fL H h a u
 | .Qt ps=>h.get? a=some { cls:=.none,data:=.fields ps }
 | .met f x=>h.get? a=some (PySem.W.methodObj (.ref f) (.ref x))
 | .ext φ=>φ h/\(∃o,h.get? a=some o)/\∀h1 h2:Heap,φ h1->(∀o,h1.get? a=some o->h2.get? a=some o)->φ h2
def t7 (H:Hp) (h:Heap):Prop:=∀a o,H a=some o->fL P w H h a o
end
section
variable {P:Program}{w:World}{H H':Hp}{h h':Heap}{a:Addr}{o:HO}
theorem fL.lt (x:fL P w H h a o):a<h.objs.size:=by
 cases o with
 | lst xs=>have ⟨_,_,_,_,e⟩:=x;exact az e
 | tup xs=>have ⟨_,_,_,p⟩:=x;exact p.lt
 | dK kvs=>obtain ⟨_,_,_,_,o,_,_,e,_⟩:=x;exact az e
 | dT kvs=>obtain ⟨_,_,_,_,o,_,_,e,_⟩:=x;exact az e
 | set S n=>obtain ⟨o,_,_,_,e,_⟩:=x;exact az e
 | ins C dx fs=>have ⟨_,_,_,e,_⟩:=x;exact az e
 | own y=>have ⟨_,e⟩:=x;exact az e
 | xd fs=>have ⟨_,⟨_,_,_,e,_⟩,_⟩:=x;exact az e
 | W4 lo hi=>have ⟨_,_,_,e⟩:=x;exact az e
 | mR ob u=>have ⟨e,_⟩:=x;exact az e
 | Qt ps=>exact az (show h.get? a=some _ from x)
 | met f y=>exact az (show h.get? a=some _ from x)
 | ext φ=>have ⟨_,⟨_,e⟩,_⟩:=x;exact az e
theorem Paired.TU {α β:Type}{F G:α->β->Prop}:∀{l₁:List α}{l₂:List β},Paired F l₁ l₂->(∀a b,F a b->G a b)->Paired G l₁ l₂
 | _,_,.nil,_=>.nil
 | _,_,.cons r t,f=>.cons (f _ _ r) (Paired.TU t f)
def fL.rY (x:fL P w H h a o) (k:∀b u,(b=a\/H b=some (.own a))->h.get? b=some u->h'.get? b=some u)
  (ho:∀b,H b=some (.own a)->H' b=some (.own a)) (ht:∀b xs,H b=some (.tup xs)->H' b=some (.tup xs)):fL P w H' h' a o:=by
 induction o with
 | lst xs=>obtain ⟨z,its,n,r,e⟩:=x;exact ⟨z,its,n,r,k _ _ (.inl rfl) e⟩
 | tup xs=>obtain ⟨z,its,r,ob,e,c⟩:=x;exact ⟨z,its,r,ob,k _ _ (.inl rfl) e,c⟩
 | dK kvs=>obtain ⟨z,y,vs,r,ob,es,ep,e,c⟩:=x;exact ⟨z,y,vs,r,ob,es,ep,k _ _ (.inl rfl) e,c⟩
 | dT kvs =>
  obtain ⟨z,y,xs,r,ob,es,ep,e,c⟩:=x;exact ⟨z,y,xs,Paired.TU r fun p q z=>⟨z.1,ht _ _ z.2.1,z.2.2⟩,ob,es,ep,k _ _ (.inl rfl) e,c⟩
 | set S n=>obtain ⟨ob,es,ep,t,e,c⟩:=x;exact ⟨ob,es,ep,t,k _ _ (.inl rfl) e,c⟩
 | ins C dx fs =>
  obtain ⟨d,z,ne,e,mA,⟨od,es,ep,e2,c⟩,r⟩:=x;exact ⟨ho _ d,z,ne,k _ _ (.inl rfl) e,mA,⟨od,es,ep,k _ _ (.inr d) e2,c⟩,r⟩
 | own y=>have ⟨ob,e⟩:=x;exact ⟨ob,k _ _ (.inl rfl) e⟩
 | xd fs=>obtain ⟨mA,⟨od,es,ep,e,c⟩,r⟩:=x;exact ⟨mA,⟨od,es,ep,k _ _ (.inl rfl) e,c⟩,r⟩
 | W4 lo hi=>obtain ⟨t,u,v,e⟩:=x;exact ⟨t,u,v,k _ _ (.inl rfl) e⟩
 | mR ob u ih=>have ⟨e,q⟩:=x;exact ⟨k _ _ (.inl rfl) e,ih q⟩
 | Qt ps =>
  have e:h.get? a=some { cls:=.none,data:=.fields ps }:=x;show h'.get? a=some { cls:=.none,data:=.fields ps };exact k a _ (.inl rfl) e
 | met f y =>
  have e:h.get? a=some (PySem.W.methodObj (.ref f) (.ref y)):=x;show h'.get? a=some (PySem.W.methodObj (.ref f) (.ref y));exact k a _ (.inl rfl) e
 | ext φ=>obtain ⟨p,⟨o,e⟩,st⟩:=x;exact ⟨st _ _ p fun o q=>k _ _ (.inl rfl) q,⟨o,k _ _ (.inl rfl) e⟩,st⟩
theorem t7.lt (x:t7 P w H h) (e:H a=some o):a<h.objs.size:=(x a o e).lt
def t7.fresh (x:t7 P w H h) (e:h.objs.size<=a):H a=none:=by
 cases q:H a with
 | none=>rfl
 | some u=>exact absurd (aM (x.lt q) e) (bQ _)
def t7.kept (x:t7 P w H h) (k:∀b u,h.get? b=some u->h'.get? b=some u):t7 P w H h':=fun a o e =>
 (x a o e).rY (fun b u _ q=>k b u q) (fun _ q=>q) fun _ _ q=>q
def t7.laid (x:t7 P w H h) (k:∀b u,h.get? b=some u->h'.get? b=some u) (hp:h.objs.size<=a) (new:fL P w (upd H a o) h' a o):t7 P w (upd H a o) h':=fun b u e=>by
 have hn:=x.fresh hp
 by_cases hb:b=a
 ·subst hb;rw [aO] at e;cases e;exact new
 ·rw [aF hb] at e
  exact (x b u e).rY (fun c v _ q=>k c v q) (fun c q=>by rw [aF (cq q hn)];exact q) fun c xs q=>by rw [aF (cq q hn)];exact q
end
def Rd (H:Hp) (a:Addr) (u:HO):Prop:=H a=some u\/∃o,H a=some (.mR o u)
def Rd.ok {P:Program}{w:World}{H:Hp}{h:Heap}{a:Addr}{u:HO} (r:Rd H a u) (x:t7 P w H h):fL P w H h a u:=by
 rcases r with r | ⟨o,r⟩
 ·exact x a u r
 ·obtain ⟨_,q⟩:=x a _ r
  exact q
def W6:Option HO->Prop
 | some (.lst _)=>True
 | some (.dK _)=>True
 | some (.dT _)=>True
 | some (.set _ _)=>True
 | some (.ins _ _ _)=>True
 | some (.ext _)=>True
 | _=>False
section
variable {P:Program}{w:World}{H:Hp}{h h':Heap}{x e:Addr}{o':HO}
def t7.write (ok:t7 P w H h) (mu:W6 (H x)) (he:e=x\/H e=some (.own x)) (k:∀b u,b≠e->h.get? b=some u->h'.get? b=some u) (WH:∃u,h'.get? e=some u)
  (new:fL P w (upd H x o') h' x o'):t7 P w (upd H x o') h':=fun b u q=>by
 have W7:∀c y,H c=some (.own y)->c≠x:=fun c y r z=>by subst z;rw [r] at mu;exact mu
 have Zz:∀c xs,H c=some (.tup xs)->c≠x:=fun c xs r z=>by subst z;rw [r] at mu;exact mu
 by_cases hb:b=x
 ·subst hb;rw [aO] at q;cases q;exact new
 ·rw [aF hb] at q
  by_cases TV:b=e
  ·have q':H b=some (.own x):=by
    rcases he with z | z
    ·exact absurd (TV.trans z) hb
    ·rw [TV];exact z
   rw [q] at q';cases q';obtain ⟨v,hv⟩:=WH;exact ⟨v,by rw [TV];exact hv⟩
  ·refine (ok b u q).rY (fun c v hc r=>k c v ?_ r) (fun c r=>by rw [aF (W7 c b r)];exact r) fun c xs r=>by rw [aF (Zz c xs r)];exact r
   rcases hc with rfl | hc
   ·exact TV
   ·rintro rfl
    rcases he with z | z
    ·exact W7 c b hc z
    ·rw [hc] at z;cases z;exact hb rfl
end
structure Un (fs ex:List Addr) (H H':Hp) (h h':Heap):Prop where
 keep:∀b o,h.get? b=some o->H b=none->b∉fs->b∉ex->h'.get? b=some o
 slot:∀b o,h.get? b=some o->H b=none->b∈fs->b∉ex->∃sl,h'.get? b=some { o with slots:=sl }
 free:∀b o,h.get? b=some o->H b=none->b∉ex->H' b=none
 there:∀b o,h.get? b=some o->b∉ex->∃o',h'.get? b=some o'
 vj:∀b xs,H b=some (.tup xs)->H' b=some (.tup xs)
 rZ:∀b o u,H b=some (.mR o u)->H' b=some (.mR o u)
 vk:∀b ps,H b=some (.Qt ps)->∃more,H' b=some (.Qt (ps++more))
section
variable {fs fs' ex ex':List Addr}{H H1 H2:Hp}{h h1 h2 h':Heap}{a x e:Addr}{o:HO}
def Un.any (u:Un fs ex H H1 h h1) {b:Addr}{ob:Obj} (q:h.get? b=some ob) (n:H b=none) (hx:b∉ex):∃sl,h1.get? b=some { ob with slots:=sl }:=by
 by_cases hb:b∈fs
 ·exact u.slot b ob q n hb hx
 ·exact ⟨ob.slots,u.keep b ob q n hb hx⟩
def Un.kept (k:∀b u,h.get? b=some u->h'.get? b=some u):Un fs ex H H h h' :=
 ⟨fun b ob q _ _ _=>k b ob q,fun b ob q _ _ _=>⟨ob.slots,k b ob q⟩,fun _ _ _ n _=>n,fun b ob q _=>⟨ob,k b ob q⟩,fun _ _ q=>q,fun _ _ _ q=>q,fun _ ps q=>⟨#[],by rw [q];simp⟩⟩
def Un.refl:Un fs ex H H h h:=Un.kept fun _ _ q=>q
def Un.laid (k:∀b u,h.get? b=some u->h'.get? b=some u) (hp:h.objs.size<=a) (hn:H a=none):Un fs ex H (upd H a o) h h' where
 keep:=fun b u q _ _ _=>k b u q
 slot:=fun b u q _ _ _=>⟨u.slots,k b u q⟩
 free:=fun b u q n _=>by rw [aF (Nat.ne_of_lt (Nat.lt_of_lt_of_le (Heap.lt_size q) hp))];exact n
 there:=fun b u q _=>⟨u,k b u q⟩
 vj:=fun b xs q=>by rw [aF (cq q hn)];exact q
 rZ:=fun b u xs q=>by rw [aF (cq q hn)];exact q
 vk:=fun b ps q=>⟨#[],by rw [aF (cq q hn),q];simp⟩
def Un.write (mu:W6 (H x)) (he:e=x\/H e=some (.own x)) (k:∀b u,b≠e->h.get? b=some u->h'.get? b=some u) (WH:∃u,h'.get? e=some u):Un fs ex H (upd H x o) h h':=by
 have hx:∀b,H b=none->b≠x:=fun b n z=>by subst z;rw [n] at mu;exact mu
 have hb:∀b,H b=none->b≠e:=fun b n z=>by
  subst z;rcases he with r | r
  ·exact hx b n r
  ·rw [n] at r;cases r
 have hm:∀b u,H b=some u->¬W6 (some u)->b≠x:=fun b u q nm z=>by subst z;rw [q] at mu;exact nm mu
 refine ⟨fun b u q n _ _=>k b u (hb b n) q,fun b u q n _ _=>⟨u.slots,k b u (hb b n) q⟩,fun b u q n _=>by rw [aF (hx b n)];exact n,fun b u q _=>?_,
  fun b xs q=>by rw [aF (hm b _ q fun z=>z)];exact q,fun b u xs q=>by rw [aF (hm b _ q fun z=>z)];exact q,fun b ps q=>⟨#[],by rw [aF (hm b _ q fun z=>z),q];simp⟩⟩
 by_cases TV:b=e
 ·subst TV;exact WH
 ·exact ⟨u,k b u TV q⟩
end
noncomputable def Qh (h:Heap) (H:Hp):List Addr:=(List.range h.objs.size).filter fun a=>(H a).isSome
noncomputable def D6 (h:Heap) (H:Hp):Heap:=PySem.W.hideAll h (Qh h H)
def Lw (h:Heap) (H:Hp):(D6 h H).objs.size=h.objs.size:=PySem.W.hideAll_size _ _
def M6 {h:Heap}{H:Hp}{b:Addr}{o:Obj} (e:h.get? b=some o) (n:H b=none):(D6 h H).get? b=some o :=
 PySem.W.hideAll_get _ e fun hm=>by
  have q:(H b).isSome=true:=(cC.mp hm).2;rw [n] at q;simp at q
def Qu {h:Heap}{H:Hp}{b:Addr}{o:Obj} (e:(D6 h H).get? b=some o):h.get? b=some o/\H b=none:=by
 have e':h.get? b=some o:=PySem.W.of_hideAll (Qh h H) e;refine ⟨e',?_⟩;cases q:H b with
 | none=>rfl
 | some x =>
  have hm:b∈Qh h H:=cC.mpr ⟨List.mem_range.mpr (az e'),by simp [q]⟩;have z:(D6 h H).get? b=none:=PySem.W.hideAll_none (Qh h H) hm;rw [z] at e;cases e
noncomputable def zL (g h:Heap) (L:Addr):List (Addr×Obj):=(List.range h.objs.size).filterMap fun a=>if a=L\/(g.get? a).isSome=true then none else (h.get? a).map fun o=>(a,o)
def yp {g h:Heap}{L a:Addr}{o:Obj} (h1:a≠L) (h2:g.get? a=none) (h3:h.get? a=some o):(a,o)∈zL g h L :=
 bC.mpr ⟨a,List.mem_range.mpr (az h3),by simp [h1,h2,h3]⟩
def Ai {g h:Heap}{L:Addr}{p:Addr×Obj} (hp:p∈zL g h L):p.1≠L/\g.get? p.1=none/\h.get? p.1=some p.2:=by
 obtain ⟨b,_,e⟩:=bC.mp hp
 split at e
 ·cases e
 ·rename_i hn
  cases q:h.get? b with
  | none=>rw [q] at e;simp at e
  | some u =>
   rw [q] at e;simp only [Option.map_some,Option.some.injEq] at e;subst e;refine ⟨fun z=>hn (.inl z),?_,q⟩;show g.get? b=none;cases r:g.get? b with
   | none=>rfl
   | some v=>exact (hn (.inr (by simp [r]))).elim
def M8 {g h:Heap}{L:Addr}:News g L h (zL g h L):=fun p hp=>let ⟨a,b,c⟩:=Ai hp;⟨c,a,b⟩
structure Mod (K:Frag) (mg:Str->Option Value) (base:Heap):Prop where
 MX:K.In base
 glob:base.Ns mainGlobals mg
 blt:∃mb,base.Ns builtinsNs mb/\∀x:Str,x≠"__name__"->mb x=bootBuiltins x
 nolimit:base.NoLimit
structure Cx where
 prog:Program
 w:World
 K:Frag
 mg:Str->Option Value
 base:Heap
 A:Around
 N:List Str
 s₀:Shared
 H₀:Hp
 env:Env
 outer:List Env
 stack:List Env
 ex:List Addr
 fn:Str->Bool
 calm:Bool
 pn:List (Addr×Obj)
 xe:Value->Shared->Prop
noncomputable def oM (l:List Env):List Addr:=l.filterMap (·.frame)
noncomputable abbrev Cx.fs (X:Cx):List Addr:=oM X.outer
def rX (sc:Scope) (x:Str):Prop:=sc.names.lookup x=some .local\/sc.names.lookup x=some .cell\/sc.names.lookup x=some .free
def Loc (sc:Scope) (x:Str):Prop:=sc.names.lookup x=some .local\/sc.names.lookup x=some .cell
def Look (env:Env) (h:Heap) (m:Str->Option Value) (x:Str) (u:Value):Prop :=
 (env.kindOf x=some .local/\m x=some u)\/((env.kindOf x=some .cell\/env.kindOf x=some .free)/\∃c,env.cells.lookup x=some c/\h.IsCell c (some u))
structure Cx.Ok (X:Cx):Prop where
 mod:Mod X.K X.mg X.base
 kind:X.env.scope.kind=.function
 glob:X.env.globals=mainGlobals
 blt:X.env.builtins=builtinsNs
 above:X.s₀.heap.objs.size<=X.env.locals
 inj:∀x y c,X.env.cells.lookup x=some c->X.env.cells.lookup y=some c->x=y
 has:∀x,(X.env.kindOf x=some .cell\/X.env.kindOf x=some .free)->∃c,X.env.cells.lookup x=some c
 M9:∀x c,X.fn x=true->X.env.cells.lookup x=some c->X.s₀.heap.objs.size<=c
 hd:X.calm=true->X.A.handled=none
 frames:X.A.frames=some X.stack
 MY:X.stack=X.outer\/(X.stack=X.env::X.outer/\X.env.frame=some X.env.locals)
 Qi:∀b∈X.ex,b≠X.env.locals/\∀x c,X.env.cells.lookup x=some c->c≠b
 bs:∀b o,X.base.get? b=some o->X.s₀.heap.get? b=some o/\X.H₀ b=none
 FW:X.base.objs.size<=X.s₀.heap.objs.size
 Aj:∀b o,X.base.get? b=some o->b∉X.ex
 Ak:∀b∈X.ex,b∉X.fs
 oN:X.s₀.heap.FunFrames X.base X.outer
 Im:∀b∈X.fs,X.H₀ b=none
structure Inv (X:Cx) (pins:List (Addr×Obj)) (U:List (Option V)) (H:Hp) (s:Shared):Prop where
 ok:X.Ok
 os:s.os=X.s₀.os
 bare:AllBare s.gens
 base:Un X.fs X.ex X.H₀ H X.s₀.heap s.heap
 loc:∃m,s.heap.Ns X.env.locals m/\∀(i:Nat) (x:Str) (v:V),X.N[i]?=some x->U[i]?=some (some v)->rX X.env.scope x->∃u,RelV v u/\Look X.env s.heap m x u
 cell:∀x c,X.env.cells.lookup x=some c->∃v,s.heap.IsCell c v
 free:H X.env.locals=none
 iE:∀x c,X.env.cells.lookup x=some c->H c=none
 pin:∀p∈X.pn++pins,s.heap.get? p.1=some p.2/\H p.1=none/\p.1≠X.env.locals/\p.1∉X.fs/\∀v,p.2.data≠.cell v
 dD:t7 X.prog X.w H s.heap
 len:U.length=X.N.length
section
variable {X:Cx}{pins:List (Addr×Obj)}{U:List (Option V)}{H H':Hp}{s:Shared}{h':Heap}
def Cx.Ok.ZA (ok:X.Ok) {b:Addr}{o:Obj} (e:X.base.get? b=some o):b∉X.fs:=fun hb=>by
 have:=(ok.oN.mem hb).1;rw [e] at this;cases this
theorem Inv.bs (I:Inv X pins U H s):∀b o,X.base.get? b=some o->s.heap.get? b=some o/\H b=none:=fun b o e =>
 ⟨I.base.keep b o (I.ok.bs b o e).1 (I.ok.bs b o e).2 (I.ok.ZA e) (I.ok.Aj b o e),I.base.free b o (I.ok.bs b o e).1 (I.ok.bs b o e).2 (I.ok.Aj b o e)⟩
def Inv.bk (I:Inv X pins U H s):∀b o,X.base.get? b=some o->s.heap.get? b=some o:=fun b o e=>(I.bs b o e).1
theorem Inv.mod (I:Inv X pins U H s):Mod X.K X.mg X.base:=I.ok.mod
def Inv.Gd (I:Inv X pins U H s):X.K.In s.heap:=I.ok.mod.MX.keeps I.bk
theorem Inv.nolimit (I:Inv X pins U H s):s.heap.NoLimit:=I.ok.mod.nolimit.keeps I.bk
def Inv.fr (I:Inv X pins U H s):∃m,Fr X.base X.env.locals s.heap m :=
 let ⟨m,hn,_⟩:=I.loc
 ⟨m,hn,I.bk,ay I.ok.FW I.ok.above⟩
theorem Inv.lt (I:Inv X pins U H s):X.env.locals<s.heap.objs.size:=let ⟨_,hn,_⟩:=I.loc;hn.lt
def Inv.sz (I:Inv X pins U H s):X.s₀.heap.objs.size<=s.heap.objs.size:=ay I.ok.above (bj I.lt)
def Inv.ZC (I:Inv X pins U H s) {a:Addr} (h:s.heap.objs.size<=a):a∉X.fs:=fun hb=>by
 obtain ⟨_,o,ho,_⟩:=I.ok.oN.mem hb;exact absurd (aM (az ho) (ay I.sz h)) (bQ _)
def Inv.SO (I:Inv X pins U H s):∀x c,X.env.cells.lookup x=some c->c≠X.env.locals:=fun x c e z=>by
 obtain ⟨v,o,ho,hd⟩:=I.cell x c e;obtain ⟨m,⟨o',es,ep,ho',hd',_⟩,_⟩:=I.loc;rw [z,ho'] at ho;cases ho;rw [hd'] at hd;cases hd
theorem Inv.oN (I:Inv X pins U H s):s.heap.FunFrames X.base X.outer:=by
 have all:∀(l:List Env),(∀b∈oM l,b∈X.fs)->X.s₀.heap.FunFrames X.base l->s.heap.FunFrames X.base l:=by
  intro l
  induction l with
  | nil=>intro _ _;trivial
  | cons env r ih =>
   intro hs hl;obtain ⟨hk,⟨L,o,hf,hn,ho,hd⟩,hr⟩:=hl;have hL:L∈X.fs:=hs L (by unfold oM;rw [List.filterMap_cons,hf];exact aj);obtain ⟨sl,e⟩:=I.base.slot L o ho (I.ok.Im L hL) hL fun z=>I.ok.Ak L z hL
   exact ⟨hk,⟨L,_,hf,hn,e,hd⟩,ih (fun b hb=>hs b (by unfold oM;rw [List.filterMap_cons,hf];exact aw _ hb)) hr⟩
 exact all X.outer (fun _ hb=>hb) I.ok.oN
def Inv.stack (I:Inv X pins U H s):s.heap.FunFrames X.base X.stack:=by
 rcases I.ok.MY with e | ⟨e,hf⟩
 ·rw [e];exact I.oN
 ·rw [e]
  obtain ⟨m,hn,_⟩:=I.loc;refine .cons (by rw [I.ok.kind];decide) hf hn ?_ I.oN;exact Heap.get?_none_of_le (ay I.ok.FW I.ok.above)
def Inv.Io (I:Inv X pins U H s):∀b∈oM X.stack,b∈X.env.locals::X.fs:=fun b hb=>by
 rcases I.ok.MY with e | ⟨e,hf⟩
 ·rw [e] at hb;exact aw _ hb
 ·rw [e] at hb
  unfold oM at hb;rw [List.filterMap_cons,hf] at hb;exact hb
def Inv.vW (I:Inv X pins U H s):∀b∈oM X.stack,H b=none:=fun b hb=>by
 rcases aE.mp (I.Io b hb) with e | hb
 ·rw [e];exact I.free
 ·obtain ⟨_,o,ho,_⟩:=I.ok.oN.mem hb
  exact I.base.free b o ho (I.ok.Im b hb) fun z=>I.ok.Ak b z hb
def Inv.step {g':Array GenState}{t':Nat}{d':Drawn}{ch:List Addr} (I:Inv X pins U H s)
  (Qj:∀b∈ch,(b∈X.ex\/X.s₀.heap.objs.size<=b)/\b≠X.env.locals/\(∀x c,X.env.cells.lookup x=some c->c≠b)/\∀p∈X.pn++pins,p.1≠b)
  (keep:∀b o,b≠X.env.locals->b∉X.fs->b∉ch->s.heap.get? b=some o->H b=none->h'.get? b=some o)
  (slot:∀b o,b≠X.env.locals->b∈X.fs->b∉ch->s.heap.get? b=some o->H b=none->∃sl,h'.get? b=some { o with slots:=sl }) (free:∀b o,b∉ch->s.heap.get? b=some o->H b=none->H' b=none)
  (there:∀b o,b∉ch->s.heap.get? b=some o->∃o',h'.get? b=some o')
  (vj:∀b xs,H b=some (.tup xs)->H' b=some (.tup xs)) (rZ:∀b o u,H b=some (.mR o u)->H' b=some (.mR o u)) (vk:∀b ps,H b=some (.Qt ps)->∃more,H' b=some (.Qt (ps++more)))
  (ns:∀m,s.heap.Ns X.env.locals m->h'.Ns X.env.locals m) (dD:t7 X.prog X.w H' h') (hg:AllBare g') :
  Inv X pins U H' { s with heap:=h',gens:=g',drawn:=d',toks:=t' }:=by
 have neL:∀b o,X.s₀.heap.get? b=some o->b≠X.env.locals:=fun b o e=>aP (aM (az e) I.ok.above)
 have YY:∀b o,X.s₀.heap.get? b=some o->b∉X.ex->b∉ch:=fun b o e hx hb=>by
  rcases (Qj b hb).1 with z | z
  ·exact hx z
  ·exact absurd (aM (az e) z) (bQ _)
 have cellK:∀x c,X.env.cells.lookup x=some c->∀v,s.heap.IsCell c v->h'.IsCell c v:=fun x c e v ⟨o,ho,hd⟩=>by
  have W8:c∉ch:=fun z=>(Qj c z).2.2.1 x c e rfl
  by_cases hc:c∈X.fs
  ·obtain ⟨sl,q⟩:=slot c o (I.SO x c e) hc W8 ho (I.iE x c e)
   exact ⟨_,q,hd⟩
  ·exact ⟨o,keep c o (I.SO x c e) hc W8 ho (I.iE x c e),hd⟩
 refine ⟨I.ok,I.os,hg,⟨fun b o e n hb hx=>?_,fun b o e n hb hx=>?_,fun b o e n hx=>?_,fun b o e hx=>?_,fun b xs e=>vj b xs (I.base.vj b xs e),fun b o xs e=>rZ b o xs (I.base.rZ b o xs e),fun b ps e=>?_⟩,?_,fun x c e=>?_,?_,fun x c e=>?_,fun p hp=>?_,dD,I.len⟩
 ·exact keep b o (neL b o e) hb (YY b o e hx) (I.base.keep b o e n hb hx) (I.base.free b o e n hx)
 ·obtain ⟨sl,e1⟩:=I.base.slot b o e n hb hx
  obtain ⟨sl',e2⟩:=slot b _ (neL b o e) hb (YY b o e hx) e1 (I.base.free b o e n hx);exact ⟨sl',e2⟩
 ·obtain ⟨o',e1⟩:=I.base.there b o e hx
  exact free b o' (YY b o e hx) e1 (I.base.free b o e n hx)
 ·obtain ⟨o',e1⟩:=I.base.there b o e hx
  exact there b o' (YY b o e hx) e1
 ·obtain ⟨m1,e1⟩:=I.base.vk b ps e
  obtain ⟨m2,e2⟩:=vk b _ e1;exact ⟨m1++m2,by rw [e2,Array.append_assoc]⟩
 ·obtain ⟨m,hn,hl⟩:=I.loc
  refine ⟨m,ns m hn,fun i x v e1 e2 e3=>?_⟩;obtain ⟨u,r,l⟩:=hl i x v e1 e2 e3;refine ⟨u,r,?_⟩;rcases l with l | ⟨k,c,e,z⟩
  ·exact .inl l
  ·exact .inr ⟨k,c,e,cellK x c e _ z⟩
 ·obtain ⟨v,z⟩:=I.cell x c e
  exact ⟨v,cellK x c e v z⟩
 ·obtain ⟨m,⟨o,_,_,ho,_⟩,_⟩:=I.loc
  exact free _ o (fun z=>(Qj _ z).2.1 rfl) ho I.free
 ·obtain ⟨v,o,ho,hd⟩:=I.cell x c e
  exact free c o (fun z=>(Qj c z).2.2.1 x c e rfl) ho (I.iE x c e)
 ·obtain ⟨e,n,ne,nf,d⟩:=I.pin p hp
  have W8:p.1∉ch:=fun z=>(Qj p.1 z).2.2.2 p hp rfl
  exact ⟨keep p.1 p.2 ne nf W8 e n,free p.1 p.2 W8 e n,ne,nf,d⟩
def Inv.un {t':Nat} (I:Inv X pins U H s) (u:Un X.fs [] H H' s.heap h') (dD:t7 X.prog X.w H' h'):Inv X pins U H' { s with heap:=h',toks:=t' }:=by
 obtain ⟨m,⟨o,es,ep,ho,r⟩,_⟩:=id I.loc;obtain ⟨sl,hL⟩:=u.any ho I.free (by simp);exact I.step (g':=s.gens) (d':=s.drawn) (ch:=[]) (fun _ z=>nomatch z) (fun b o _ hb _ e n=>u.keep b o e n hb (by simp)) (fun b o _ hb _ e n=>u.slot b o e n hb (by simp)) (fun b o _ e n=>u.free b o e n (by simp)) (fun b o _ e=>u.there b o e (by simp)) u.vj u.rZ u.vk (fun m' hm=>by
  have ⟨o',es',ep',ho',r'⟩:=hm;rw [ho] at ho';cases ho';exact ⟨_,es',ep',hL,r'⟩) dD I.bare
def Inv.call {g':Array GenState}{t':Nat}{d':Drawn}{ch:List Addr} (I:Inv X pins U H s) (u:Un (oM X.stack) ch H H' s.heap h') (dD:t7 X.prog X.w H' h') (hg:AllBare g')
  (Qj:∀b∈ch,(b∈X.ex\/X.s₀.heap.objs.size<=b)/\b≠X.env.locals/\(∀x c,X.env.cells.lookup x=some c->c≠b)/\∀p∈X.pn++pins,p.1≠b) :
  Inv X pins U H' { s with heap:=h',gens:=g',drawn:=d',toks:=t' }:=by
 obtain ⟨m,⟨o,es,ep,ho,r⟩,_⟩:=id I.loc;obtain ⟨sl,hL⟩:=u.any ho I.free fun z=>(Qj _ z).2.1 rfl
 exact I.step (ch:=ch) Qj (fun b o hL hb hc e n=>u.keep b o e n (fun z=>(aE.mp (I.Io b z)).elim hL hb) hc) (fun b o _ _ hc e n=>u.any e n hc) (fun b o hc e n=>u.free b o e n hc) (fun b o hc e=>u.there b o e hc) u.vj u.rZ u.vk (fun m' hm=>by
  have ⟨o',es',ep',ho',r'⟩:=hm;rw [ho] at ho';cases ho';exact ⟨_,es',ep',hL,r'⟩) dD hg
def Inv.turned {t':Nat}{it:Addr} (I:Inv X pins U H s) (k:∀b o,b≠it->s.heap.get? b=some o->h'.get? b=some o) (hn:H it=none) (hL:it≠X.env.locals)
  (h1:it∈X.ex\/X.s₀.heap.objs.size<=it) (h2:∀x c,X.env.cells.lookup x=some c->c≠it) (h3:∀p∈X.pn++pins,p.1≠it):Inv X pins U H { s with heap:=h',toks:=t' }:=by
 have nit:∀b u,H b=some u->b≠it:=fun b u e z=>by rw [z,hn] at e;cases e
 refine I.step (g':=s.gens) (d':=s.drawn) (ch:=[it]) (fun b hb=>?_) (fun b o _ _ hc e _=>k b o (fun z=>hc (by simp [z])) e) (fun b o _ _ hc e _=>⟨o.slots,k b o (fun z=>hc (by simp [z])) e⟩) (fun _ _ _ _ n=>n)
  (fun b o hc e=>⟨o,k b o (fun z=>hc (by simp [z])) e⟩) (fun _ _ e=>e) (fun _ _ _ e=>e) (fun b ps e=>⟨#[],by rw [e];simp⟩) (fun m hm=>?_) (fun b u e=>?_) I.bare
 ·have e:b=it:=by simpa using hb
  subst e;exact ⟨h1,hL,h2,h3⟩
 ·obtain ⟨o,es,ep,ho,r⟩:=hm
  exact ⟨o,es,ep,k _ o (Ne.symm hL) ho,r⟩
 ·refine (I.dD b u e).rY (fun c v hc q=>k c v ?_ q) (fun _ q=>q) fun _ _ q=>q
  rcases hc with z | z
  ·rw [z];exact nit b u e
  ·exact nit c _ z
def Inv.tok (I:Inv X pins U H s) (t:Nat):Inv X pins U H { s with toks:=t }:=I.un (h':=s.heap) (t':=t) Un.refl I.dD
theorem Inv.kept {t':Nat} (I:Inv X pins U H s) (k:∀b u,s.heap.get? b=some u->h'.get? b=some u):Inv X pins U H { s with heap:=h',toks:=t' }:=I.un (Un.kept k) (I.dD.kept k)
theorem Inv.laid {a:Addr}{o:HO}{t':Nat} (I:Inv X pins U H s) (k:∀b u,s.heap.get? b=some u->h'.get? b=some u) (hp:s.heap.objs.size<=a) (new:fL X.prog X.w (upd H a o) h' a o) :
  Inv X pins U (upd H a o) { s with heap:=h',toks:=t' }:=I.un (Un.laid k hp (I.dD.fresh hp)) (I.dD.laid k hp new)
theorem Inv.write {x e:Addr}{o:HO}{t':Nat} (I:Inv X pins U H s) (mu:W6 (H x)) (he:e=x\/H e=some (.own x)) (k:∀b u,b≠e->s.heap.get? b=some u->h'.get? b=some u) (WH:∃u,h'.get? e=some u)
  (new:fL X.prog X.w (upd H x o) h' x o):Inv X pins U (upd H x o) { s with heap:=h',toks:=t' }:=I.un (Un.write mu he k WH) (I.dD.write mu he k WH new)
def Inv.vX {pins':List (Addr×Obj)} (I:Inv X pins U H s) (h:∀p∈pins',s.heap.get? p.1=some p.2/\H p.1=none/\p.1≠X.env.locals/\p.1∉X.fs/\∀v,p.2.data≠.cell v):Inv X pins' U H s :=
 ⟨I.ok,I.os,I.bare,I.base,I.loc,I.cell,I.free,I.iE,fun p hp=>(cS.mp hp).elim (fun z=>I.pin p (cg _ z)) (h p),I.dD,I.len⟩
def Ge {N:List Str} (hN:N.Nodup) {i j:Nat}{x:Str} (a:N[i]?=some x) (b:N[j]?=some x):i=j:=by
 obtain ⟨h1,e1⟩:=aK.mp a;obtain ⟨h2,e2⟩:=aK.mp b;exact (List.getElem_inj hN).mp (e1.trans e2.symm)
def CY {M:Model}{A:Around}{E:Value->Shared->Prop}{i:Nat}{x:Str}{v:V}{u:Value}{Q:Unit->Shared->Prop} (I:Inv X pins U H s) (hN:X.N.Nodup) (hi:X.N[i]?=some x) (hx:Loc X.env.scope x) (r:RelV v u)
  (h:∀s',Inv X pins (U.set i (some v)) H s'->(∃a,Heap.SameBut a s.heap s'.heap/\(a=X.env.locals\/X.env.cells.lookup x=some a))->Q () s') (hf:X.fn x=true\/X.env.scope.names.lookup x=some .local:=by first | exact .inl rfl | exact .inr rfl | assumption):wpAny M A (storeName X.env x u) Q E s:=by
 obtain ⟨m,hn,hl⟩:=id I.loc;have jN:(X.env.scope.kind==.class || (X.env.scope.kind==.module&&X.env.locals != X.env.globals))=false:=by rw [I.ok.kind];rfl
 have YZ:i<U.length:=by rw [I.len];exact (aK.mp hi).1
 have SO:=I.SO;have tracked:∀{a:Addr}{h':Heap},(∃o,s.heap.get? a=some o/\H a=none)->Heap.SameBut a s.heap h'->t7 X.prog X.w H h':=fun {a h'} ha hs b ob e=>by
  have ⟨_,_,Al⟩:=ha;refine (I.dD b ob e).rY (fun c w' hc q=>(hs.2 c ?_).trans q) (fun _ q=>q) fun _ _ q=>q
  rintro rfl;rcases hc with rfl | hc
  ·rw [Al] at e;cases e
  ·rw [Al] at hc;cases hc
 rcases hx with hk | hk
 ·refine wpAny_storeName_local hk hn (fun h' hn' hs=>?_) jN
  obtain ⟨oL,_,_,MZ,_⟩:=id hn;refine h _ ⟨I.ok,I.os,I.bare,⟨fun b o e n hb hx=>?_,fun b o e n hb hx=>?_,I.base.free,fun b o e hx=>?_,I.base.vj,I.base.rZ,I.base.vk⟩,⟨_,hn',fun j y v' e1 e2 e3=>?_⟩,fun y c e=>?_,I.free,I.iE,fun p hp=>?_,tracked ⟨oL,MZ,I.free⟩ hs,by simpa using I.len⟩ ⟨_,hs,.inl rfl⟩
  ·exact (hs.2 b (aP (aM (az e) I.ok.above))).trans (I.base.keep b o e n hb hx)
  ·obtain ⟨sl,e1⟩:=I.base.slot b o e n hb hx
   exact ⟨sl,(hs.2 b (aP (aM (az e) I.ok.above))).trans e1⟩
  ·obtain ⟨o',e1⟩:=I.base.there b o e hx
   exact ⟨o',(hs.2 b (aP (aM (az e) I.ok.above))).trans e1⟩
  ·by_cases hj:j=i
   ·subst hj
    rw [hi] at e1;cases e1;rw [List.getElem?_set_self YZ] at e2;cases e2;exact ⟨u,r,.inl ⟨hk,by simp⟩⟩
   ·rw [List.getElem?_set_ne (Ne.symm hj)] at e2
    obtain ⟨u',r',q⟩:=hl j y v' e1 e2 e3;refine ⟨u',r',?_⟩;rcases q with ⟨k,e⟩ | ⟨k,c,e,z⟩
    ·refine .inl ⟨k,?_⟩
     have:y≠x:=fun e=>hj (Ge hN e1 (e▸hi))
     simp [this,e]
    ·exact .inr ⟨k,c,e,z.sameBut hs (SO y c e)⟩
  ·obtain ⟨w',z⟩:=I.cell y c e
   exact ⟨w',z.sameBut hs (SO y c e)⟩
  ·obtain ⟨e,n,ne,nf,d⟩:=I.pin p hp
   exact ⟨(hs.2 p.1 ne).trans e,n,ne,nf,d⟩
 ·have ZD:X.fn x=true:=by
   rcases hf with z | z
   ·exact z
   ·rw [z] at hk;cases hk
  obtain ⟨c,hc⟩:=I.ok.has x (.inl hk);obtain ⟨w',z⟩:=I.cell x c hc;refine wpAny_storeName_cell I.ok.kind hk hc z (fun h' hc' hs=>?_);obtain ⟨oc,hoc,ZE⟩:=id z;refine h { s with heap:=h' } ⟨I.ok,I.os,I.bare,⟨fun b o e n hb hx=>?_,fun b o e n hb hx=>?_,I.base.free,fun b o e hx=>?_,I.base.vj,I.base.rZ,I.base.vk⟩,⟨m,hn.sameBut hs (Ne.symm (SO x c hc)),fun j y v' e1 e2 e3=>?_⟩,fun y c' e=>?_,I.free,I.iE,fun p hp=>?_,tracked ⟨oc,hoc,I.iE x c hc⟩ hs,by simpa using I.len⟩ ⟨c,hs,.inr hc⟩
  ·exact (hs.2 b (aP (aM (az e) (I.ok.M9 x c ZD hc)))).trans (I.base.keep b o e n hb hx)
  ·obtain ⟨sl,e1⟩:=I.base.slot b o e n hb hx
   exact ⟨sl,(hs.2 b (aP (aM (az e) (I.ok.M9 x c ZD hc)))).trans e1⟩
  ·obtain ⟨o',e1⟩:=I.base.there b o e hx
   exact ⟨o',(hs.2 b (aP (aM (az e) (I.ok.M9 x c ZD hc)))).trans e1⟩
  ·by_cases hj:j=i
   ·subst hj
    rw [hi] at e1;cases e1;rw [List.getElem?_set_self YZ] at e2;cases e2;exact ⟨u,r,.inr ⟨.inl hk,c,hc,hc'⟩⟩
   ·rw [List.getElem?_set_ne (Ne.symm hj)] at e2
    obtain ⟨u',r',q⟩:=hl j y v' e1 e2 e3;refine ⟨u',r',?_⟩;rcases q with q | ⟨k,c',e,z'⟩
    ·exact .inl q
    ·refine .inr ⟨k,c',e,z'.sameBut hs ?_⟩
     rintro rfl;exact hj (Ge hN e1 (I.ok.inj _ _ _ e hc▸hi))
  ·by_cases hcc:c'=c
   ·subst hcc;exact ⟨_,hc'⟩
   ·obtain ⟨w2,z2⟩:=I.cell y c' e
    exact ⟨w2,z2.sameBut hs hcc⟩
  ·obtain ⟨e,n,ne,nf,d⟩:=I.pin p hp
   refine ⟨(hs.2 p.1 ?_).trans e,n,ne,nf,d⟩;intro q;rw [q,hoc] at e;have q':oc=p.2:=bt e;exact d w' (by rw [<-q'];exact ZE)
def Am {M:Model}{A:Around}{E:Value->Shared->Prop}{i:Nat}{x:Str}{v:V}{u:Value}{Q:Unit->Shared->Prop} (I:Inv X pins U H s) (hN:X.N.Nodup) (hi:X.N[i]?=some x) (hx:Loc X.env.scope x) (r:RelV v u)
  (h:∀s',Inv X pins (U.set i (some v)) H s'->Q () s') (hf:X.fn x=true\/X.env.scope.names.lookup x=some .local:=by first | exact .inl rfl | exact .inr rfl | assumption):wpAny M A (storeName X.env x u) Q E s :=
 CY I hN hi hx r (fun s' I' _=>h s' I') hf
def Inv.call' {s':Shared}{ch:List Addr} (I:Inv X pins U H s) (ho:s'.os=s.os) (u:Un (oM X.stack) ch H H' s.heap s'.heap) (dD:t7 X.prog X.w H' s'.heap) (hg:AllBare s'.gens)
  (Qj:∀b∈ch,(b∈X.ex\/X.s₀.heap.objs.size<=b)/\b≠X.env.locals/\(∀x c,X.env.cells.lookup x=some c->c≠b)/\∀p∈X.pn++pins,p.1≠b):Inv X pins U H' s':=by
 have ⟨h',g',d',t',o'⟩:=s';have e:o'=s.os:=ho;subst e;exact I.call (g':=g') (t':=t') (d':=d') u dD hg Qj
end
abbrev XK:=Value->Option Addr->Hp->Prop
abbrev St:=List (Option V)
abbrev VK:=V->Hp->Prop
abbrev TE:=St->Hp->VK->Prop
abbrev TT:=St->Hp->(Bool->Hp->Prop)->Prop
abbrev TA:=St->Hp->(List V->Hp->Prop)->Prop
structure Ends where
 nx:St->Hp->Prop
 rt:VK
 bk:St->Hp->Prop:=fun _ _=>False
 ct:St->Hp->Prop:=fun _ _=>False
abbrev TS:=Ends->St->Hp->Prop
def EP (X:Cx) (pins:List (Addr×Obj)) (U:St) (Q:VK) (u:Value) (s':Shared):Prop:=∃v H',Inv X pins U H' s'/\RelV v u/\Q v H'
def TP (X:Cx) (pins:List (Addr×Obj)) (U:St) (Q:Bool->Hp->Prop) (b:Bool) (s':Shared):Prop:=∃H',Inv X pins U H' s'/\Q b H'
def AP (X:Cx) (pins:List (Addr×Obj)) (U:St) (Q:List V->Hp->Prop) (us:List Value) (s':Shared):Prop:=∃vs H',Inv X pins U H' s'/\Vals vs us/\Q vs H'
def SP (X:Cx) (pins:List (Addr×Obj)) (D:Ends) (f:Flow) (s':Shared):Prop :=
 match f with
 | .next=>∃U' H',Inv X pins U' H' s'/\D.nx U' H'
 | .brk=>∃U' H',Inv X pins U' H' s'/\D.bk U' H'
 | .cont=>∃U' H',Inv X pins U' H' s'/\D.ct U' H'
 | .ret u=>∃v U' H',Inv X pins U' H' s'/\RelV v u/\D.rt v H'
def PE (X:Cx) (e:Expr) (t:TE):Prop :=
 ∀(pins:List (Addr×Obj)) (s:Shared) (U:St) (H:Hp) (Q:VK),Inv X pins U H s->t U H Q->wpAny (model X.prog X.w) X.A (eval e X.env) (EP X pins U Q) X.xe s
def PT (X:Cx) (e:Expr) (t:TT):Prop :=
 ∀(pins:List (Addr×Obj)) (s:Shared) (U:St) (H:Hp) (Q:Bool->Hp->Prop),Inv X pins U H s->t U H Q->wpAny (model X.prog X.w) X.A (isTrue e X.env (eval e X.env)) (TP X pins U Q) X.xe s
def PW (X:Cx) (e:Expr) (t:TT):Prop :=
 ∀(whole:Sem Value) (pins:List (Addr×Obj)) (s:Shared) (U:St) (H:Hp) (Q:Bool->Hp->Prop),Inv X pins U H s->t U H Q->wpAny (model X.prog X.w) X.A (isTrue e X.env whole) (TP X pins U Q) X.xe s
def PW.pt {X:Cx}{e:Expr}{t:TT} (h:PW X e t):PT X e t:=h _
def PA (X:Cx) (es:List Expr) (t:TA):Prop :=
 ∀(pos:Pos) (pins:List (Addr×Obj)) (s:Shared) (U:St) (H:Hp) (Q:List V->Hp->Prop),Inv X pins U H s->t U H Q->wpAny (model X.prog X.w) X.A (spliced (backTo pos (starEach es X.env))) (AP X pins U Q) X.xe s
def PS (X:Cx) (st:Stmt) (t:TS):Prop :=
 ∀(pins:List (Addr×Obj)) (s:Shared) (U:St) (H:Hp) (D:Ends),Inv X pins U H s->t D U H->wpAny (model X.prog X.w) X.A (exec st X.env) (SP X pins D) X.xe s
def Gf (X:Cx) (st:List Stmt) (t:TS):Prop :=
 ∀(pins:List (Addr×Obj)) (s:Shared) (U:St) (H:Hp) (D:Ends),Inv X pins U H s->t D U H->wpAny (model X.prog X.w) X.A (execs st X.env) (SP X pins D) X.xe s
def gy {α:Type}{t:Sem α}{Q Q':α->Shared->Prop}{M:Model}{A:Around}{E:Value->Shared->Prop}{s:Shared} (h:wpAny M A t Q E s) (hQ:∀a s,Q a s->Q' a s):wpAny M A t Q' E s:=aV h hQ fun _ _ x=>x
section
variable {X:Cx}
def TX (i:Nat):TE:=fun U H Q=>∃v,U[i]?=some (some v)/\Q v H
def tC (v:V):TE:=fun _ H Q=>Q v H
def fe {i:Nat}{x:Str}{pos:Pos} (hN:X.N[i]?=some x) (hv:rX X.env.scope x) (hd:(x==("__debug__":Str))=false:=by decide) (gL:(x==("__classdict__":Str))=false:=by decide):PE X (.Name x pos) (TX i):=by
 intro pins s U H Q I h;obtain ⟨v,e,h⟩:=h;obtain ⟨m,hn,hl⟩:=I.loc;obtain ⟨u,r,l⟩:=hl i x v hN e hv;have fin:EP X pins U Q u s:=⟨v,H,I,r,h⟩;rcases l with ⟨hk,hm⟩ | ⟨hk,c,hc,CZ⟩
 ·exact wpAny_Name (wpAny_loadName_local I.ok.kind hk hn hm fin) hd
 ·rcases hk with hk | hk
  ·exact wpAny_Name (wpAny_loadName_cell I.ok.kind hk hc CZ fin) hd
  ·exact wpAny_Name (wpAny_loadName_free I.ok.kind hk hc CZ fin gL) hd
def TY {i j pos}:PE X (.Constant (.int i) j pos) (tC (.int i)):=fun _ _ _ H _ I h=>wpAny_Constant_int ⟨.int i,H,I.tok _,⟨_,rfl⟩,h⟩
def Na {b j pos}:PE X (.Constant (.bool b) j pos) (tC (.bl b)):=fun _ _ _ H _ I h=>Constant_bool ⟨.bl b,H,I,rfl,h⟩
def Nb {j pos}:PE X (.Constant .none j pos) (tC .bX):=fun _ _ _ H _ I h=>Constant_none ⟨.bX,H,I,rfl,h⟩
def xq {x j pos}:PE X (.Constant (.str x) j pos) (tC (.str x)):=fun _ _ _ H _ I h=>Calls.Constant_str ⟨.str x,H,I.tok _,⟨_,rfl⟩,h⟩
def Gl (X:Cx) (x:Str):Prop:=X.env.kindOf x=some .globalImplicit
def t8 {E:Value->Shared->Prop}{pins:List (Addr×Obj)}{s:Shared}{U:St}{H:Hp}{x:Str}{u:Value}{pos:Pos}{Q:Value->Shared->Prop} (I:Inv X pins U H s) (hg:Gl X x) (hm:X.mg x=some u) (h:Q u s)
  (hd:(x==("__debug__":Str))=false:=by decide):wpAny (model X.prog X.w) X.A (eval (.Name x pos) X.env) Q E s :=
 Calls.Name_function_global I.ok.kind hg (Calls.loadGlobal_global (by rw [I.ok.glob];exact I.mod.glob.keeps I.bk) hm h) hd
def An {E:Value->Shared->Prop}{pins:List (Addr×Obj)}{s:Shared}{U:St}{H:Hp}{x:Str}{u:Value}{pos:Pos}{Q:Value->Shared->Prop} (I:Inv X pins U H s) (hg:Gl X x) (hm:X.mg x=none) (hv:bootBuiltins x=some u) (h:Q u s)
  (hn:x≠"__name__":=by decide) (hd:(x==("__debug__":Str))=false:=by decide):wpAny (model X.prog X.w) X.A (eval (.Name x pos) X.env) Q E s:=by
 obtain ⟨mb,h1,h2⟩:=I.mod.blt;exact Calls.Name_function_global I.ok.kind hg (Calls.loadGlobal_builtin (by rw [I.ok.glob];exact I.mod.glob.keeps I.bk) hm (by rw [I.ok.blt];exact h1.keeps I.bk) ((h2 x hn).trans hv) h) hd
def vY {x:Str}{v:V}{u:Value}{pos:Pos} (hg:Gl X x) (hm:X.mg x=some u) (r:RelV v u) (hd:(x==("__debug__":Str))=false:=by decide):PE X (.Name x pos) (tC v) :=
 fun _ _ _ H _ I h=>t8 I hg hm ⟨v,H,I,r,h⟩ hd
def Qv {x:Str}{v:V}{u:Value}{pos:Pos} (hg:Gl X x) (hm:X.mg x=none) (hv:bootBuiltins x=some u) (r:RelV v u) (hn:x≠"__name__":=by decide) (hd:(x==("__debug__":Str))=false:=by decide):PE X (.Name x pos) (tC v) :=
 fun _ _ _ H _ I h=>An I hg hm hv ⟨v,H,I,r,h⟩ hn hd
variable {a b:Expr}{ta tb:TE}{pos:Pos}
variable {tA tB':TT}{rest:List Expr}
def ZF (t u:TT):TT:=fun U H Q=>t U H fun c H1=>if c=true then u U H1 Q else Q false H1
def tOr (t u:TT):TT:=fun U H Q=>t U H fun c H1=>if c=true then Q true H1 else u U H1 Q
def ZG (t:TT):TT:=fun U H Q=>t U H fun c H1=>Q (!c) H1
def Qw (ha:PT X a tA):PW X (.BoolOp .And [a] pos) tA:=by
 intro wh pins s U H Q I h;refine isTrue_and (gy (ha pins s U H Q I h) fun c s1 e=>?_);cases c with
 | true=>exact isTrue_and_nil e
 | false=>exact e
def TZ (ha:PT X a tA):PW X (.BoolOp .Or [a] pos) tA:=by
 intro wh pins s U H Q I h;refine isTrue_or (gy (ha pins s U H Q I h) fun c s1 e=>?_);cases c with
 | false=>exact isTrue_or_nil e
 | true=>exact e
def T1 (ha:PT X a tA) (hb:PW X (.BoolOp .And (b::rest) pos) tB'):PW X (.BoolOp .And (a::b::rest) pos) (ZF tA tB'):=by
 intro wh pins s U H Q I h;refine isTrue_and (gy (ha pins s U H _ I h) fun c s1 ⟨H1,I1,q1⟩=>?_);cases c with
 | true=>exact hb wh pins s1 U H1 Q I1 q1
 | false=>exact ⟨H1,I1,q1⟩
def W9 (ha:PT X a tA) (hb:PW X (.BoolOp .Or (b::rest) pos) tB'):PW X (.BoolOp .Or (a::b::rest) pos) (tOr tA tB'):=by
 intro wh pins s U H Q I h;refine isTrue_or (gy (ha pins s U H _ I h) fun c s1 ⟨H1,I1,q1⟩=>?_);cases c with
 | true=>exact ⟨H1,I1,q1⟩
 | false=>exact hb wh pins s1 U H1 Q I1 q1
def T3 (ha:PT X a tA):PT X (.UnaryOp .Not a pos) (ZG tA):=by
 intro pins s U H Q I h;exact isTrue_not (ha pins s U H (fun c H1=>Q (!c) H1) I h)
def Xa (ta tb:TE):TE:=fun U H Q=>ta U H fun x H1=>∃c,x=.bl c/\if c=true then tb U H1 Q else Q (.bl false) H1
def T4 {op}{t:TE} (h:PE X a t):PE X (.BoolOp op [a] pos) t:=fun pins s U H Q I hw=>BoolOp_one (h pins s U H Q I hw)
def T5 (ha:PE X a ta) (hb:PE X (.BoolOp .And (b::rest) pos) tb):PE X (.BoolOp .And (a::b::rest) pos) (Xa ta tb):=by
 intro pins s U H Q I h;refine BoolOp_and (gy (ha pins s U H _ I h) fun v s1 ⟨x,H1,I1,r1,q1⟩=>?_);obtain ⟨c,rfl,q1⟩:=q1;cases r1;refine wpAny_truthy_bool ?_;cases c with
 | true=>exact hb pins s1 U H1 Q I1 q1
 | false=>exact ⟨.bl false,H1,I1,rfl,q1⟩
def tIf (t:TT) (ta tb:TE):TE:=fun U H Q=>t U H fun c H1=>if c=true then ta U H1 Q else tb U H1 Q
def Gg {c:Expr} (hc:PT X c tA) (ha:PE X a ta) (hb:PE X b tb):PE X (.IfExp c a b pos) (tIf tA ta tb):=by
 intro pins s U H Q I h;refine wpAny_IfExp (gy (hc pins s U H _ I h) fun d s1 ⟨H1,I1,q1⟩=>?_);cases d with
 | true=>exact ha pins s1 U H1 Q I1 q1
 | false=>exact hb pins s1 U H1 Q I1 q1
end
def kC (K:Frag) (H:Hp) (a:Addr) (xs:List V):Prop :=
 Rd H a (.lst xs) \/
  ∃(o:Obj) (its:Array Value) (n:Nat),K.lookup a=some o/\o.cls=.type "list"/\o.dict=none/\o.data=.seq its n/\its.size<=sizeLine/\Vals xs its.toList
def rE (K:Frag) (H:Hp) (a:Addr) (xs:List V):Prop :=
 Rd H a (.tup xs) \/
  ∃(o:Obj) (its:Array Value) (n:Nat),K.lookup a=some o/\o.cls=.type "tuple"/\o.data=.seq its n/\its.size<=sizeLine/\Vals xs its.toList
noncomputable def ZH:Value->Option V
 | .none=>some .bX
 | .bool b=>some (.bl b)
 | .int i _=>some (.int i)
 | .str x _=>some (.str x)
 | .bytes b _=>some (.WG b)
 | .float b _=>some (.YX b)
 | .ref a=>some (.ref a)
 | .type n=>some (.ty n)
 | _=>none
def RelV.abs {x:V}{u:Value} (r:RelV x u):ZH u=some x:=by
 cases x with
 | bX=>cases r;rfl
 | bl _=>cases r;rfl
 | int _=>obtain ⟨t,rfl⟩:=r;rfl
 | str _=>obtain ⟨t,rfl⟩:=r;rfl
 | WG _=>obtain ⟨t,rfl⟩:=r;rfl
 | YX _=>obtain ⟨t,rfl⟩:=r;rfl
 | ref _=>cases r;rfl
 | ty _=>cases r;rfl
def RelV.inj {x y:V}{u:Value} (r:RelV x u) (q:RelV y u):x=y:=bt (r.abs.symm.trans q.abs)
theorem Vals.inj:∀{xs ys:List V}{us:List Value},Vals xs us->Vals ys us->xs=ys
 | _,_,_,.nil,.nil=>rfl
 | _,_,_,.cons r t,.cons r' t'=>by rw [r.inj r',Vals.inj t t']
section
variable {X:Cx}{pins:List (Addr×Obj)}{U:St}{H:Hp}{s:Shared}{a:Addr}{xs ys:List V}
def kC.of {K:Frag} (h:H a=some (.lst xs)):kC K H a xs:=.inl (.inl h)
def rE.of {K:Frag} (h:H a=some (.tup xs)):rE K H a xs:=.inl (.inl h)
def Inv.list (I:Inv X pins U H s) (h:kC X.K H a xs):∃its:List Value,Vals xs its/\PlainL s.heap a its.toArray/\xs.length<=sizeLine:=by
 rcases h with h | ⟨o,its,n,hk,hc,hd,hs,hz,r⟩
 ·obtain ⟨z,its,n,r,e⟩:=h.ok I.dD
  exact ⟨its,r,⟨_,n,e,rfl,rfl,rfl⟩,z⟩
 ·refine ⟨its.toList,r,⟨o,n,I.Gd a o hk,hc,hd,by simpa using hs⟩,?_⟩
  have e:=r.length;simp only [Array.length_toList] at e;omega
def Inv.tuple (I:Inv X pins U H s) (h:rE X.K H a xs):∃its:List Value,Vals xs its/\IsTup s.heap a its.toArray/\xs.length<=sizeLine:=by
 rcases h with h | ⟨o,its,n,hk,hc,hs,hz,r⟩
 ·obtain ⟨z,its,r,p⟩:=h.ok I.dD
  exact ⟨its,r,p,z⟩
 ·refine ⟨its.toList,r,⟨o,I.Gd a o hk,hc,n,by simpa using hs⟩,?_⟩
  have e:=r.length;simp only [Array.length_toList] at e;omega
def Inv.Nc (I:Inv X pins U H s) (h:kC X.K H a xs) (h':kC X.K H a ys):xs=ys:=by
 obtain ⟨its,r,⟨o,n,e,_,_,d⟩,_⟩:=I.list h;obtain ⟨its',r',⟨o',n',e',_,_,d'⟩,_⟩:=I.list h';rw [e] at e';cases e';rw [d] at d';injection d' with d1 _
 have:its=its':=by simpa using congrArg Array.toList d1
 subst this;exact r.inj r'
def Inv.Lx (I:Inv X pins U H s) (h:rE X.K H a xs) (h':rE X.K H a ys):xs=ys:=by
 obtain ⟨its,r,⟨o,e,_,n,d⟩,_⟩:=I.tuple h;obtain ⟨its',r',⟨o',e',_,n',d'⟩,_⟩:=I.tuple h';rw [e] at e';cases e';rw [d] at d';injection d' with d1 _
 have:its=its':=by simpa using congrArg Array.toList d1
 subst this;exact r.inj r'
end
noncomputable abbrev Cx.Ao (X:Cx) (E:Value->Shared->Prop):Cx:={ X with xe:=E }
noncomputable abbrev Cx.Qk (X:Cx):Cx:=X.Ao fun _ _=>False
def Cx.Ok.Ao {X:Cx} (ok:X.Ok) (E:Value->Shared->Prop):(X.Ao E).Ok :=
 ⟨ok.mod,ok.kind,ok.glob,ok.blt,ok.above,ok.inj,ok.has,ok.M9,ok.hd,ok.frames,ok.MY,ok.Qi,ok.bs,ok.FW,ok.Aj,ok.Ak,ok.oN,ok.Im⟩
def Cx.Ok.pI {X:Cx}{E:Value->Shared->Prop} (ok:(X.Ao E).Ok):X.Ok :=
 ⟨ok.mod,ok.kind,ok.glob,ok.blt,ok.above,ok.inj,ok.has,ok.M9,ok.hd,ok.frames,ok.MY,ok.Qi,ok.bs,ok.FW,ok.Aj,ok.Ak,ok.oN,ok.Im⟩
section
variable {X:Cx}{pins:List (Addr×Obj)}{U:St}{H:Hp}{s:Shared}{E:Value->Shared->Prop}
theorem Inv.Ao (I:Inv X pins U H s) (E:Value->Shared->Prop):Inv (X.Ao E) pins U H s:=⟨I.ok.Ao E,I.os,I.bare,I.base,I.loc,I.cell,I.free,I.iE,I.pin,I.dD,I.len⟩
theorem Inv.pI (I:Inv (X.Ao E) pins U H s):Inv X pins U H s:=⟨I.ok.pI,I.os,I.bare,I.base,I.loc,I.cell,I.free,I.iE,I.pin,I.dD,I.len⟩
theorem SP.pI {D:Ends}{f:Flow}{s':Shared} (h:SP (X.Ao E) pins D f s'):SP X pins D f s':=by
 cases f with
 | next=>have ⟨U',H',I,q⟩:=h;exact ⟨U',H',I.pI,q⟩
 | brk=>have ⟨U',H',I,q⟩:=h;exact ⟨U',H',I.pI,q⟩
 | cont=>have ⟨U',H',I,q⟩:=h;exact ⟨U',H',I.pI,q⟩
 | ret u=>obtain ⟨v,U',H',I,r,q⟩:=h;exact ⟨v,U',H',I.pI,r,q⟩
def Gf.Qk {st:List Stmt}{t:TS} (h:Gf X.Qk st t):Gf X st t:=fun pins s U H D I hw =>
 aV (h pins s U H D (I.Ao _) hw) (fun _ _ q=>q.pI) fun _ _ z=>False.elim z
end
section
variable {X:Cx}{st:Stmt}{rest:List Stmt}{t u:TS}{e:Expr}{te:TE}{pos:Pos}
def Xb:TS:=fun D U H=>D.nx U H
def ZI (t u:TS):TS:=fun D U H=>t { D with nx:=u D } U H
def D7:Gf X [] Xb:=fun _ _ U H _ I h=>wpAny_execs_nil ⟨U,H,I,h⟩
def r8 (h1:PS X st t) (h2:Gf X rest u):Gf X (st::rest) (ZI t u):=by
 intro pins s U H D I h;refine wpAny_execs_cons (gy (h1 pins s U H { D with nx:=u D } I h) fun f s1 q=>?_);cases f with
 | next =>
  obtain ⟨U',H',I',q⟩:=q;exact h2 pins s1 U' H' D I' q
 | ret v=>exact q
 | brk=>exact q
 | cont=>exact q
def Kf (h1:PS X st t):Gf X [st] t:=by
 intro pins s U H D I h;refine wpAny_execs_cons (gy (h1 pins s U H D I h) fun f s1 q=>?_);cases f with
 | next=>exact wpAny_execs_nil q
 | ret v=>exact q
 | brk=>exact q
 | cont=>exact q
def Inv.quiet {pins:List (Addr×Obj)}{U:St}{H:Hp}{s:Shared} (I:Inv X pins U H s):interactive X.env=false:=by simp [interactive,I.ok.kind]
def Xc (te:TE):TS:=fun D U H=>te U H fun _ H1=>D.nx U H1
def t9 (he:PE X e te) (hs:swapsWith e none pos.line X.env=pure false:=by rfl):PS X (.Expr e pos) (Xc te):=by
 intro pins s U H D I h;exact wpAny_Expr_any (gy (he pins s U H _ I h) fun v s1 ⟨x,H1,I1,r1,q1⟩=>⟨U,H1,I1,q1⟩) I.quiet hs
def ZJ (te:TE):TS:=fun D U H=>te U H D.rt
def Ip (he:PE X e te):PS X (.Return (some e) pos) (ZJ te):=by
 intro pins s U H D I h;exact wpAny_Return_some (gy (he pins s U H _ I h) fun v s1 ⟨x,H1,I1,r1,q1⟩=>⟨x,U,H1,I1,r1,q1⟩)
def ZK (c:TT) (t u:TS):TS:=fun D U H=>c U H fun b H1=>if b=true then t D U H1 else u D U H1
def Nd {c:Expr}{a b:List Stmt}{tc:TT} (hc:PT X c tc) (ha:Gf X a t) (hb:Gf X b u):PS X (.If c a b pos) (ZK tc t u):=by
 intro pins s U H D I h;refine wpAny_If (gy (hc pins s U H _ I h) fun d s1 ⟨H1,I1,q1⟩=>?_);cases d with
 | true=>exact ha pins s1 U H1 D I1 q1
 | false=>exact hb pins s1 U H1 D I1 q1
end
abbrev TG:=V->St->Hp->(St->Hp->Prop)->Prop
abbrev T6:=List V->St->Hp->(St->Hp->Prop)->Prop
def PG (X:Cx) (target:Expr) (t:TG):Prop :=
 ∀(pins:List (Addr×Obj)) (s:Shared) (U:St) (H:Hp) (v:V) (u:Value) (Q:St->Hp->Prop),Inv X pins U H s->RelV v u->t v U H Q ->
  wpAny (model X.prog X.w) X.A (assign target X.env u) (fun _ s'=>∃U' H',Inv X pins U' H' s'/\Q U' H') X.xe s
def Y0 (X:Cx) (ts:List Expr) (t:T6):Prop :=
 ∀(pins:List (Addr×Obj)) (s:Shared) (U:St) (H:Hp) (vs:List V) (us:List Value) (Q:St->Hp->Prop),Inv X pins U H s->Vals vs us->t vs U H Q ->
  wpAny (model X.prog X.w) X.A (assignInOrder ((assignEach ts X.env).map (·.2)) us) (fun _ s'=>∃U' H',Inv X pins U' H' s'/\Q U' H') X.xe s
section
variable {X:Cx}{pos:Pos}
def SQ (i:Nat):TG:=fun v U H Q=>Q (U.set i (some v)) H
def D8 {i:Nat}{x:Str} (hN:X.N.Nodup) (hi:X.N[i]?=some x) (hx:Loc X.env.scope x) (hf:X.fn x=true\/X.env.scope.names.lookup x=some .local:=by first | exact .inl rfl | exact .inr rfl | assumption):PG X (.Name x pos) (SQ i):=by
 intro pins s U H v u Q I r h;exact wpAny_assign_Name (Am I hN hi hx r (fun s' I'=>⟨_,H,I',h⟩) hf)
def ZL:T6:=fun vs U H Q=>vs=[]/\Q U H
def Xd (t:TG) (u:T6):T6:=fun vs U H Q=>∃v r,vs=v::r/\t v U H fun U' H'=>u r U' H' Q
def Qx:Y0 X [] ZL:=by
 intro pins s U H vs us Q I r h;obtain ⟨e,h⟩:=h;subst e;cases r;exact assignInOrder_nil ⟨U,H,I,h⟩
def Gh {e:Expr}{es:List Expr}{t:TG}{u:T6} (h1:PG X e t) (h2:Y0 X es u)
  (hs:(assignEach (e::es) X.env).map (·.2)=assign e X.env::(assignEach es X.env).map (·.2):=by rfl):Y0 X (e::es) (Xd t u):=by
 intro pins s U H vs us Q I r h;obtain ⟨v,vr,e1,h⟩:=h;subst e1;cases r with
 | cons r rr =>
  rw [hs];refine assignInOrder_cons (gy (h1 pins s U H _ _ _ I r h) fun _ s1 ⟨U1,H1,I1,q1⟩=>?_);exact h2 pins s1 U1 H1 _ _ Q I1 rr q1
def ZM (K:Frag) (n:Nat) (t:T6):TG:=fun v U H Q=>∃a xs,v=.ref a/\rE K H a xs/\xs.length=n/\t xs U H Q
def T7 {es:List Expr}{k:Nat}{t:T6}{n:Nat} (hc:X.calm=true) (h:Y0 X es t)
  (hn:(assignEach es X.env).length=n:=by rfl) (mz:(assignEach es X.env).findIdx? (·.1)=none:=by rfl):PG X (.Tuple es k pos) (ZM X.K n t):=by
 intro pins s U H v u Q I r hw;obtain ⟨a,xs,e1,hq,hl,hw⟩:=hw;subst e1;cases r;obtain ⟨its,rv,ht,hz⟩:=I.tuple hq;refine assign_Tuple_tuple (I.ok.hd hc) ht (by simp [hn,<-hl,rv.length]) mz fun h' hx=>?_
 have I1:Inv X pins U H { s with heap:=h' }:=I.kept (t':=s.toks) fun b o e=>hx b o (aP (az e)) e
 exact h pins _ U H xs _ Q I1 (by simpa using rv) hw
def ZN (te:TE) (g:TG):TS:=fun D U H=>te U H fun x H1=>g x U H1 D.nx
def xt {i:Nat}{x:Str}{e:Expr}{te:TE}{pos':Pos} (hN:X.N.Nodup) (hi:X.N[i]?=some x) (hx:Loc X.env.scope x) (he:PE X e te) (hs:swapsWith e (some (.Name x pos')) pos.line X.env=pure false:=by rfl) (hf:X.fn x=true\/X.env.scope.names.lookup x=some .local:=by first | exact .inl rfl | exact .inr rfl | assumption) :
  PS X (.Assign [.Name x pos'] e pos) (ZN te (SQ i)):=by
 intro pins s U H D I h;refine wpAny_Assign_Name (gy (he pins s U H _ I h) fun v s1 ⟨y,H1,I1,r1,q1⟩=>?_) hs;exact Am I1 hN hi hx r1 (fun s2 I2=>⟨_,H1,I2,q1⟩) hf
end
section
variable {X:Cx}{pos:Pos}
def T8 (c:TT) (tb:TS):TS:=fun D U H=>∃W:Nat->St->Hp->Prop,(∃m,W m U H)/\∀m U H,W m U H ->
 c U H fun b H1=>if b=true then ∃N:St->Hp->Prop,(∀U' H',N U' H'->∃m',m'<m/\W m' U' H')/\tb { D with nx:=N,ct:=N,bk:=D.nx } U H1 else D.nx U H1
def Nf {c:Expr}{body:List Stmt}{tc:TT}{tb:TS} (hp:PassesOwn (model X.prog X.w) X.A X.env X.xe) (hc:PT X c tc) (hb:Gf X body tb):PS X (.While c body [] pos) (T8 tc tb):=by
 intro pins s U H D I h;have ⟨W,⟨m0,w0⟩,turn⟩:=h;refine wpAny_While (codeAny_whileLoop (fun n s'=>∃U' H',Inv X pins U' H' s'/\W n U' H') ?_ m0 ⟨U,H,I,w0⟩);rintro n s1 ⟨U1,H1,I1,w1⟩;refine wpAny_passesOwn hp (gy (hc pins s1 U1 H1 _ I1 (turn n U1 H1 w1)) fun b s2 ⟨H2,I2,q2⟩=>?_);cases b with
 | true =>
  obtain ⟨N,hN,q2⟩:=q2;rw [if_pos rfl];refine wpAny_passesOwn hp (gy (hb pins s2 U1 H2 _ I2 q2) fun f s3 q3=>?_);cases f with
  | next =>
   have ⟨U3,H3,I3,n3⟩:=q3;obtain ⟨m',hm,w3⟩:=hN U3 H3 n3;exact ⟨m',hm,U3,H3,I3,w3⟩
  | cont =>
   have ⟨U3,H3,I3,n3⟩:=q3;obtain ⟨m',hm,w3⟩:=hN U3 H3 n3;exact ⟨m',hm,U3,H3,I3,w3⟩
  | brk=>exact q3
  | ret v=>exact q3
 | false =>
  rw [if_neg Bool.false_ne_true];exact wpAny_execs_nil ⟨U1,H2,I2,q2⟩
end
structure It where
 go:Nat->Hp->Prop
 Y1:Nat->Hp->V->Hp->Prop
 stop:Nat->Hp->Prop
def vZ (X:Cx) (pins:List (Addr×Obj)) (H:Hp) (b:Addr):Prop :=
 H b=none/\b≠X.env.locals/\b∉X.fs/\(b∈X.ex\/X.s₀.heap.objs.size<=b)/\(∀x c,X.env.cells.lookup x=some c->c≠b)/\∀p∈X.pn++pins,p.1≠b
def Inv.Nh {X:Cx}{pins:List (Addr×Obj)}{U:St}{H H':Hp}{s:Shared}{b:Addr} (I:Inv X pins U H s) (hb:s.heap.objs.size<=b) (hn:H' b=none):vZ X pins H' b:=by
 refine ⟨hn,Nat.ne_of_gt (aM I.lt hb),I.ZC hb,.inr (ay I.sz hb),fun x c e z=>?_,fun p hp z=>?_⟩
 ·obtain ⟨v,q⟩:=I.cell x c e
  exact absurd (aM q.lt (by rw [z];exact hb)) (bQ _)
 ·exact absurd (aM (az (I.pin p hp).1) (by rw [z];exact hb)) (bQ _)
structure Turn (P:Program) (w:World) (K:Frag) (tg:Expr) (J:It) (fp:List Addr) (it:Addr) (tn:Nat->Heap->Prop):Prop where
 mem:it∈fp
 obj:∀i h,tn i h->∀b∈fp,∃o,h.get? b=some o/\∀v,o.data≠.cell v
 keep:∀i h h',tn i h->(∀b∈fp,∀o,h.get? b=some o->h'.get? b=some o)->tn i h'
 item:∀(X:Cx),X.prog=P->X.w=w->X.K=K->X.calm=true->∀(i:Nat) (pins:List (Addr×Obj)) (s:Shared) (U:St) (H:Hp) (E:Value->Shared->Prop),Inv X pins U H s->(∀b∈fp,vZ X pins H b)->tn i s.heap->J.go i H ->
  wpAny (model P w) X.A (pyNext (.ref it)) (fun r s1=>∃u,r=some u /\
   wpAny (model P w) X.A (letOwnedTupleGo tg (.ref it) u) (fun _ s2=>∃x H',Inv X pins U H' s2/\RelV x u/\J.Y1 i H x H'/\tn (i+1) s2.heap/\∀b∈fp,H' b=none) E s1) E s
 done:∀(X:Cx),X.prog=P->X.w=w->X.K=K->X.calm=true->∀(i:Nat) (pins:List (Addr×Obj)) (s:Shared) (U:St) (H:Hp) (E:Value->Shared->Prop),Inv X pins U H s->(∀b∈fp,vZ X pins H b)->tn i s.heap->J.stop i H ->
  wpAny (model P w) X.A (pyNext (.ref it)) (fun r s1=>r=none/\Inv X pins U H s1) E s
 self:∀(A:Around) (i:Nat) (s:Shared) (Q:Value->Shared->Prop) (E:Value->Shared->Prop),tn i s.heap->Q (.ref it) s->wpAny (model P w) A (pyIter (.ref it)) Q E s
abbrev TI:=St->Hp->(It->Hp->Prop)->Prop
def PIE (X:Cx) (pins:List (Addr×Obj)) (U:St) (tg:Expr) (R:It->Hp->Prop) (SR:Value) (s2:Shared):Prop :=
 ∃(it:Addr) (fp:List Addr) (tn:Nat->Heap->Prop) (J:It) (H':Hp),SR=.ref it/\Inv X pins U H' s2/\Turn X.prog X.w X.K tg J fp it tn/\tn 0 s2.heap/\(∀b∈fp,vZ X pins H' b)/\R J H'
def PI (X:Cx) (tg iter:Expr) (wi:TI):Prop :=
 ∀(pins:List (Addr×Obj)) (s:Shared) (U:St) (H:Hp) (R:It->Hp->Prop),Inv X pins U H s->wi U H R ->
  wpAny (model X.prog X.w) X.A (eval iter X.env) (fun v s1=>wpAny (model X.prog X.w) X.A (pyIter v) (PIE X pins U tg R) X.xe s1) X.xe s
def Kg {M:Model}{A:Around}{E:Value->Shared->Prop}{s:Shared}{tg:Expr}{it:Addr}{u:Value}{o:Obj}{n:String}{vs:Array Value}{Q:Unit->Shared->Prop} (ho:s.heap.get? it=some o) (hc:o.cls=.type n) (hd:o.data=.fields vs)
  (hn:["enumerate","zip","dict_itemiterator","dict_reverseitemiterator","odict_iterator","itertools.zip_longest","itertools.pairwise"].contains n=false) (hQ:Q () s):wpAny M A (letOwnedTupleGo tg (.ref it) u) Q E s:=by
 unfold letOwnedTupleGo;cases tg <;> first
  | exact ag hQ
  | (cases u <;> first
    | exact ag hQ
    | (refine aa (wpAny_load ho ?_)
       rw [hc,hd];show wpAny M A (if (["enumerate","zip","dict_itemiterator","dict_reverseitemiterator","odict_iterator","itertools.zip_longest","itertools.pairwise"].contains n&&vs[0]?==some (rawInt _))=true then _ else _) Q E s;rw [if_neg (by intro h;rw [hn,Bool.false_and] at h;cases h)];exact ag hQ))
noncomputable def ZO (K:Frag) (a:Addr):It :=
 ⟨fun i H=>∃xs x,kC K H a xs/\xs[i]?=some x,fun i H x H'=>H'=H/\∀xs,kC K H a xs->xs[i]?=some x,fun i H=>∃xs,kC K H a xs/\xs.length<=i⟩
noncomputable def ZP (K:Frag) (a:Addr):It :=
 ⟨fun i H=>∃xs x,rE K H a xs/\xs[i]?=some x,fun i H x H'=>H'=H/\∀xs,rE K H a xs->xs[i]?=some x,fun i H=>∃xs,rE K H a xs/\xs.length<=i⟩
noncomputable def Xe (lo:Int) (n:Nat):It:=⟨fun i _=>i<n,fun i H x H'=>H'=H/\x=.int (lo+i),fun i _=>n<=i⟩
def Ly {P:Program}{w:World}{K:Frag}{tg:Expr} (a it:Addr):Turn P w K tg (ZO K a) [it] it (fun i h=>h.IsListIter it a i) where
 mem:=by simp
 obj:=fun i h st b hb=>by
  have e:b=it:=by simpa using hb
  subst e;obtain ⟨o,e,c,d⟩:=st;exact ⟨o,e,fun v z=>by rw [d] at z;cases z⟩
 keep:=fun i h h' st k=>st.at fun o e=>k it (by simp) o e
 item:=by
  intro X hP hw hK hc i pins s U H E I hf st hg;subst hP hw hK;obtain ⟨xs,x,hq,hx⟩:=hg;obtain ⟨its,rv,p,hz⟩:=I.list hq;obtain ⟨u,hu,ru⟩:=rv.get hx;obtain ⟨f0,f1,f2,f3,f4,f5⟩:=hf it (by simp);refine wpAny_pyNext_list_item st p.isList (x:=u) (by simpa using hu) fun h' st' sb=>?_
  have I1:Inv X pins U H { s with heap:=h' }:=I.turned (t':=s.toks) (fun b o hb e=>(sb.2 b hb).trans e) f0 f1 f3 f4 f5;obtain ⟨o,e,c,d⟩:=id st';exact ⟨u,rfl,Kg (s:={ s with heap:=h' }) e c d (by decide) ⟨x,H,I1,ru,⟨rfl,fun ys hy=>by rw [I.Nc hy hq];exact hx⟩,st',fun b hb=>(hf b hb).1⟩⟩
 done:=by
  intro X hP hw hK hc i pins s U H E I hf st hg;subst hP hw hK;have ⟨xs,hq,hx⟩:=hg;obtain ⟨its,rv,p,hz⟩:=I.list hq;obtain ⟨f0,f1,f2,f3,f4,f5⟩:=hf it (by simp);have hl:=rv.length;exact wpAny_pyNext_list_end (I.ok.hd hc) st p.isList (by simp;omega) fun h' eb=>⟨rfl,I.turned (t':=s.toks) (fun b o hb e=>eb b o hb e) f0 f1 f3 f4 f5⟩
 self:=fun _ _ _ _ _ st h=>wpAny_pyIter_listiter st h
def Iq {P:Program}{w:World}{K:Frag}{tg:Expr} (a it:Addr):Turn P w K tg (ZP K a) [it] it (fun i h=>h.IsTupleIter it a i) where
 mem:=by simp
 obj:=fun i h st b hb=>by
  have e:b=it:=by simpa using hb
  subst e;obtain ⟨o,e,c,d⟩:=st;exact ⟨o,e,fun v z=>by rw [d] at z;cases z⟩
 keep:=fun i h h' st k=>st.at fun o e=>k it (by simp) o e
 item:=by
  intro X hP hw hK hc i pins s U H E I hf st hg;subst hP hw hK;obtain ⟨xs,x,hq,hx⟩:=hg;obtain ⟨its,rv,p,hz⟩:=I.tuple hq;obtain ⟨u,hu,ru⟩:=rv.get hx;obtain ⟨f0,f1,f2,f3,f4,f5⟩:=hf it (by simp);refine wpAny_pyNext_tuple_item st (show s.heap.IsTuple a its.toArray from p) (x:=u) (by simpa using hu) fun h' st' sb=>?_
  have I1:Inv X pins U H { s with heap:=h' }:=I.turned (t':=s.toks) (fun b o hb e=>(sb.2 b hb).trans e) f0 f1 f3 f4 f5;obtain ⟨o,e,c,d⟩:=id st';exact ⟨u,rfl,Kg (s:={ s with heap:=h' }) e c d (by decide) ⟨x,H,I1,ru,⟨rfl,fun ys hy=>by rw [I.Lx hy hq];exact hx⟩,st',fun b hb=>(hf b hb).1⟩⟩
 done:=by
  intro X hP hw hK hc i pins s U H E I hf st hg;subst hP hw hK;have ⟨xs,hq,hx⟩:=hg;obtain ⟨its,rv,p,hz⟩:=I.tuple hq;obtain ⟨f0,f1,f2,f3,f4,f5⟩:=hf it (by simp);have hl:=rv.length;exact wpAny_pyNext_tuple_end (I.ok.hd hc) st (show s.heap.IsTuple a its.toArray from p) (by simp;omega) fun h' eb=>⟨rfl,I.turned (t':=s.toks) (fun b o hb e=>eb b o hb e) f0 f1 f3 f4 f5⟩
 self:=fun _ _ _ _ _ st h=>wpAny_pyIter_tupleiter st h
def Ir {P:Program}{w:World}{K:Frag}{tg:Expr} (it:Addr) (lo:Int) (n:Nat):Turn P w K tg (Xe lo n) [it] it (fun i h=>IsRangeIter h it (lo+(i:Nat) * 1) ((n:Int)-(i:Nat)) 1) where
 mem:=by simp
 obj:=fun i h st b hb=>by
  have e:b=it:=by simpa using hb
  subst e;exact ⟨_,st,fun v z=>by
   have z':Data.fields _=Data.cell v:=z;cases z'⟩
 keep:=fun i h h' st k=>k it (by simp) _ st
 item:=by
  intro X hP hw hK hc i pins s U H E I hf st hg;subst hP hw hK;obtain ⟨f0,f1,f2,f3,f4,f5⟩:=hf it (by simp);have W:=Walks.range (prog:=X.prog) (w:=X.w) (I.ok.hd hc) it lo 1 n;refine W.item i s _ _ hg st fun v h' tk hv st' kk=>?_
  obtain ⟨t,rfl⟩:=hv;have I1:Inv X pins U H { s with heap:=h',toks:=tk }:=I.turned (fun b o hb e=>kk b o (by simpa using hb) e) f0 f1 f3 f4 f5;refine ⟨_,rfl,Kg (s:={ s with heap:=h',toks:=tk }) (n:="range_iterator") st' rfl rfl (by decide) ⟨.int (lo+i),H,I1,⟨t,?_⟩,⟨rfl,rfl⟩,st',fun b hb=>(hf b hb).1⟩⟩;rw [Int.mul_one]
 done:=by
  intro X hP hw hK hc i pins s U H E I hf st hg;subst hP hw hK;obtain ⟨f0,f1,f2,f3,f4,f5⟩:=hf it (by simp);exact wpAny_pyNext_range_end (I.ok.hd hc) st (by have:n<=i:=hg;omega) fun h' eb=>⟨rfl,I.turned (t':=s.toks) (fun b o hb e=>eb b o hb e) f0 f1 f3 f4 f5⟩
 self:=fun _ _ _ _ _ st h=>wpAny_pyIter_rangeiter st h
section
variable {X:Cx}{tg:Expr}
def Gi {pins:List (Addr×Obj)}{U:St}{H:Hp}{s:Shared}{R:It->Hp->Prop}{E:Value->Shared->Prop}{lo hi:Int}{t u v:Tok}{tk:Nat} (I:Inv X pins U H s) (h1:-(2 ^ 62)<=lo) (h2:lo<2 ^ 62) (h3:-(2 ^ 62)<=hi) (h4:hi<2 ^ 62)
  (q:R (Xe lo (hi-lo).toNat) H):wpAny (model X.prog X.w) X.A (pyIter (.ref s.heap.objs.size)) (PIE X pins U tg R) E { s with heap:=s.heap.push { cls:=.type "range",data:=.fields #[.int lo t,.int hi u,.int 1 v] },toks:=tk }:=by
 refine wpAny_pyIter_range (IsRange.new ..) (small_one h1 h2 h3 h4) ?_;have I1:Inv X pins U H { s with heap:=s.heap.push { cls:=.type "range",data:=.fields #[.int lo t,.int hi u,.int 1 v] },toks:=tk }:=I.kept fun b o e=>ai _ e
 refine ⟨(s.heap.push { cls:=.type "range",data:=.fields #[.int lo t,.int hi u,.int 1 v] }).objs.size,[(s.heap.push { cls:=.type "range",data:=.fields #[.int lo t,.int hi u,.int 1 v] }).objs.size],_,_,H,rfl,
  I1.kept (t':=tk) fun b o e=>ai _ e,Ir _ lo (hi-lo).toNat,?_,fun b hb=>?_,q⟩
 ·have e1:lo+((0:Nat):Int) * 1=lo:=by simp
  have e2:(((hi-lo).toNat:Nat):Int)-((0:Nat):Int)=Builtin.Range.rangeSize lo hi 1:=by rw [rangeSize_one];split <;> omega
  show IsRangeIter _ _ (lo+((0:Nat):Int) * 1) ((((hi-lo).toNat:Nat):Int)-((0:Nat):Int)) 1;rw [e1,e2];exact aB _ rfl
 ·have e:b=(s.heap.push { cls:=.type "range",data:=.fields #[.int lo t,.int hi u,.int 1 v] }).objs.size:=by simpa using hb
  subst e;exact I1.Nh (ao _) (I1.dD.fresh (ao _))
def Xf (ta:TA):TI:=fun U H R=>ta U H fun vs H1=>∃j:Int,vs=[.int j]/\-(2 ^ 62)<=j/\j<2 ^ 62/\R (Xe 0 j.toNat) H1
def Xg (ta:TA):TI:=fun U H R=>ta U H fun vs H1=>∃i j:Int,vs=[.int i,.int j]/\(-(2 ^ 62)<=i/\i<2 ^ 62/\-(2 ^ 62)<=j/\j<2 ^ 62)/\R (Xe i (j-i).toNat) H1
def Lz {a:Expr}{ta:TA}{p pos:Pos} (hg:Gl X "range") (hm:X.mg "range"=none) (ha:PA X [a] ta) (hs:starEach [a] X.env=[(false,eval a X.env)]:=by rfl):PI X tg (.Call (.Name "range" p) [a] [] pos) (Xf ta):=by
 intro pins s U H R I h;refine Call_ (An I hg hm boot_range (PyProof.Rows.callWith_type1 (gy (ha pos pins s U H _ I h) fun us s1 ⟨vs,H1,I1,r1,q1⟩=>?_) hs rfl));obtain ⟨j,e,q1,q2,q⟩:=q1;subst e;cases r1 with
 | cons r rr =>
  cases rr;obtain ⟨t,rfl⟩:=r;exact call_range_1 (Gi I1 (by omega) (by omega) q1 q2 (by simpa using q))
def LA {a b:Expr}{ta:TA}{p pos:Pos} (hg:Gl X "range") (hm:X.mg "range"=none) (ha:PA X [a,b] ta) (hs:starEach [a,b] X.env=[(false,eval a X.env),(false,eval b X.env)]:=by rfl) (Qy:starEach [b] X.env=[(false,eval b X.env)]:=by rfl) :
  PI X tg (.Call (.Name "range" p) [a,b] [] pos) (Xg ta):=by
 intro pins s U H R I h;refine Call_ (An I hg hm boot_range (PyProof.Rows.callWith_type1 (gy (ha pos pins s U H _ I h) fun us s1 ⟨vs,H1,I1,r1,q1⟩=>?_) (by rw [hs,Qy]) (by rw [Qy];rfl)));obtain ⟨i,j,e,⟨q1,q2,q3,q4⟩,q⟩:=q1;subst e;cases r1 with
 | cons r rr =>
  cases rr with
  | cons r' rr =>
   cases rr;obtain ⟨t,rfl⟩:=r;obtain ⟨t',rfl⟩:=r';exact call_range_2 (Gi I1 q1 q2 q3 q4 q)
def ZQ (wi:TI) (g:TG) (tb:TS):TS:=fun D U H=>wi U H fun J H1=>∃W:Nat->Nat->St->Hp->Prop,(∃m,W 0 m U H1)/\∀i m U H,W i m U H ->
 (J.stop i H/\D.nx U H)\/(J.go i H/\∃N:St->Hp->Prop,(∀U' H',N U' H'->∃m',m'<m/\W (i+1) m' U' H')/\∀x H',J.Y1 i H x H'->g x U H' fun U2 H2=>tb { D with nx:=N,ct:=N,bk:=D.nx } U2 H2)
noncomputable def Ap (fp:List Addr) (h:Heap):List (Addr×Obj):=fp.filterMap fun b=>(h.get? b).map fun o=>(b,o)
def pJ {fp:List Addr}{h:Heap}{b:Addr}{o:Obj} (hb:b∈fp) (e:h.get? b=some o):(b,o)∈Ap fp h:=bC.mpr ⟨b,hb,by rw [e];rfl⟩
def LB {fp:List Addr}{h:Heap}{p:Addr×Obj} (hp:p∈Ap fp h):p.1∈fp/\h.get? p.1=some p.2:=by
 obtain ⟨b,hb,e⟩:=bC.mp hp;cases q:h.get? b with
 | none=>rw [q] at e;cases e
 | some o =>
  rw [q] at e;have e':(b,o)=p:=bt e;subst e';exact ⟨hb,q⟩
def Inv.pinned {pins:List (Addr×Obj)}{U:St}{H:Hp}{s:Shared}{fp:List Addr} (I:Inv X pins U H s) (hf:∀b∈fp,vZ X pins H b) (ho:∀b∈fp,∃o,s.heap.get? b=some o/\∀v,o.data≠.cell v):Inv X (pins++Ap fp s.heap) U H s :=
 I.vX fun p hp=>(cS.mp hp).elim (fun z=>I.pin p (aN _ z)) fun z=>by
  obtain ⟨hb,e⟩:=LB z;obtain ⟨f0,f1,f2,_⟩:=hf p.1 hb;obtain ⟨o,e',d⟩:=ho p.1 hb;rw [e] at e';cases e';exact ⟨e,f0,f1,f2,d⟩
def Inv.v5 {pins pl:List (Addr×Obj)}{U:St}{H:Hp}{s:Shared} (I:Inv X (pins++pl) U H s):Inv X pins U H s:=I.vX fun p hp=>I.pin p (aN _ (cg _ hp))
def T9 {iter:Expr}{body:List Stmt}{wi:TI}{g:TG}{tb:TS}{pos:Pos} (hp:PassesOwn (model X.prog X.w) X.A X.env X.xe) (hc:X.calm=true) (hi:PI X tg iter wi) (hg:PG X tg g) (hb:Gf X body tb)
  (hs:∀x,foldedSetIterable iter X.env x=pure x:=by intro _;rfl):PS X (.For tg iter body [] pos) (ZQ wi g tb):=by
 intro pins s U H D I h;refine wpAny_For (gy (hi pins s U H _ I h) fun v s1 h1=>gy h1 fun SR s2 h2=>?_) hs;have ⟨it,fp,tn,J,H2,e,I2,T,Ua,f2,W,⟨m0,w0⟩,turn⟩:=h2;subst e;have Ub:∀{H':Hp},(∀b∈fp,H' b=none)->∀b∈fp,vZ X pins H' b:=fun hn b hb=>⟨hn b hb,(f2 b hb).2⟩
 refine codeAny_forLoop_any (fun n s'=>∃i U' H',Inv X pins U' H' s'/\tn i s'.heap/\(∀b∈fp,H' b=none)/\W i n U' H') ?_ m0 ⟨0,U,H2,I2,Ua,fun b hb=>(f2 b hb).1,w0⟩;rintro n s3 ⟨i,U3,H3,I3,st3,fr3,w3⟩;rcases turn i n U3 H3 w3 with ⟨stop,qn⟩ | ⟨go,N,hN,step⟩
 ·refine wpAny_passesOwn hp (gy (T.done X rfl rfl rfl hc i pins s3 U3 H3 X.xe I3 (Ub fr3) st3 stop) fun r s4 ⟨hr,I4⟩=>?_)
  subst hr;exact wpAny_execs_nil ⟨U3,H3,I4,qn⟩
 ·refine wpAny_passesOwn hp (gy (T.item X rfl rfl rfl hc i pins s3 U3 H3 X.xe I3 (Ub fr3) st3 go) fun r s4 ⟨u,hr,h4⟩=>?_)
  subst hr;refine wpAny_passesOwn hp (gy h4 fun _ s5 ⟨x,H5,I5,r5,y5,WI,Y2⟩=>?_);have I5':=I5.pinned (Ub Y2) (T.obj _ _ WI);refine wpAny_passesOwn hp (gy (hg _ s5 U3 H5 x u _ I5' r5 (step x H5 y5)) fun _ s6 ⟨U6,H6,I6,q6⟩=>?_);refine wpAny_passesOwn hp (gy (hb _ s6 U6 H6 _ I6 q6) fun f s7 q7=>?_);have again:∀{U7:St}{H7:Hp},Inv X (pins++Ap fp s5.heap) U7 H7 s7->N U7 H7->∃m,m<n/\∃i U' H',Inv X pins U' H' s7/\tn i s7.heap/\(∀b∈fp,H' b=none)/\W i m U' H':=fun {U7 H7} I7 n7=>by
   obtain ⟨m',hm,w7⟩:=hN U7 H7 n7;refine ⟨m',hm,i+1,U7,H7,I7.v5,T.keep _ _ _ WI fun b hb o e=>(I7.pin (b,o) (aN _ (aN _ (pJ hb e)))).1,fun b hb=>?_,w7⟩;obtain ⟨o,e,d⟩:=T.obj _ _ WI b hb;exact (I7.pin (b,o) (aN _ (aN _ (pJ hb e)))).2.1
  cases f with
  | next=>have ⟨U7,H7,I7,n7⟩:=q7;exact again I7 n7
  | cont=>have ⟨U7,H7,I7,n7⟩:=q7;exact again I7 n7
  | brk=>obtain ⟨U7,H7,I7,q7⟩:=q7;exact ⟨U7,H7,I7.v5,q7⟩
  | ret v=>obtain ⟨x7,U7,H7,I7,r7,q7⟩:=q7;exact ⟨x7,U7,H7,I7.v5,r7,q7⟩
end
abbrev R2:=V->V->Hp->VK->Prop
def oO (X:Cx) (f:Value->Value->Sem Value) (r:R2):Prop :=
 ∀(pins:List (Addr×Obj)) (s:Shared) (U:St) (H:Hp) (x y:V) (v u:Value) (Q:VK),Inv X pins U H s->RelV x v->RelV y u->r x y H Q ->
  wpAny (model X.prog X.w) X.A (f v u) (EP X pins U Q) X.xe s
def ZR (X:Cx) (f:Value->Sem Value) (r:V->Hp->VK->Prop):Prop :=
 ∀(pins:List (Addr×Obj)) (s:Shared) (U:St) (H:Hp) (x:V) (v:Value) (Q:VK),Inv X pins U H s->RelV x v->r x H Q ->
  wpAny (model X.prog X.w) X.A (f v) (EP X pins U Q) X.xe s
def fU (X:Cx) (f:Value) (r:List V->Hp->VK->Prop):Prop :=
 ∀(pins:List (Addr×Obj)) (s:Shared) (U:St) (H:Hp) (xs:List V) (us:List Value) (Q:VK),Inv X pins U H s->Vals xs us->r xs H Q ->
  wpAny (model X.prog X.w) X.A (call f us) (EP X pins U Q) X.xe s
def ZS (X:Cx) (r:V->Hp->(Bool->Hp->Prop)->Prop):Prop :=
 ∀(pins:List (Addr×Obj)) (s:Shared) (U:St) (H:Hp) (x:V) (v:Value) (Q:Bool->Hp->Prop),Inv X pins U H s->RelV x v->r x H Q ->
  wpAny (model X.prog X.w) X.A (truthy v) (TP X pins U Q) X.xe s
def Xh (r:R2) (ta tb:TE):TE:=fun U H Q=>ta U H fun x H1=>tb U H1 fun y H2=>r x y H2 Q
def tUn (r:V->Hp->VK->Prop) (ta:TE):TE:=fun U H Q=>ta U H fun x H1=>r x H1 Q
def rI (C:Int->Int->Prop) (g:Int->Int->V):R2:=fun x y H Q=>∃i j,x=.int i/\y=.int j/\C i j/\Q (g i j) H
def Kh (g:Int->Int->V):R2:=fun x y H Q=>∃i j,x=.int i/\y=.int j/\Q (g i j) H
def rU (g:Int->V):V->Hp->VK->Prop:=fun x H Q=>∃i,x=.int i/\Q (g i) H
section
variable {X:Cx}{a b c:Expr}{ta tb tc:TE}{pos:Pos}
def Uc (ha:PE X a ta) (hb:PE X b tb) {pins:List (Addr×Obj)}{s:Shared}{U:St}{H:Hp}{R:V->V->Hp->Prop} (I:Inv X pins U H s)
  (h:ta U H fun x H1=>tb U H1 fun y H2=>R x y H2) {Q:Value->Shared->Prop}{f:Value->Value->Sem Value}
  (hf:∀v u s2 x y H2,Inv X pins U H2 s2->RelV x v->RelV y u->R x y H2->wpAny (model X.prog X.w) X.A (f v u) Q X.xe s2) :
  wpAny (model X.prog X.w) X.A (eval a X.env) (fun v s₁=>wpAny (model X.prog X.w) X.A (eval b X.env) (fun u s₂=>wpAny (model X.prog X.w) X.A (f v u) Q X.xe s₂) X.xe s₁) X.xe s:=by
 refine gy (ha pins s U H _ I h) fun v s1 ⟨x,H1,I1,r1,q1⟩=>?_
 refine gy (hb pins s1 U H1 _ I1 q1) fun u s2 ⟨y,H2,I2,r2,q2⟩=>?_
 exact hf v u s2 x y H2 I2 r1 r2 q2
def SS {op:Operator}{r:R2} (ho:oO X (binaryOp op) r) (ha:PE X a ta) (hb:PE X b tb):PE X (.BinOp a op b pos) (Xh r ta tb):=by
 intro pins s U H Q I h;exact wpAny_BinOp (Uc ha hb I h fun v u s2 x y H2 I2 rx ry q=>ho pins s2 U H2 x y v u Q I2 rx ry q)
def Xi {op:UnaryOp}{r:V->Hp->VK->Prop} (ho:ZR X (unaryOp op) r) (ha:PE X a ta):PE X (.UnaryOp op a pos) (tUn r ta):=by
 intro pins s U H Q I h;exact UnaryOp_ (gy (ha pins s U H _ I h) fun v s1 ⟨x,H1,I1,r1,q1⟩=>ho pins s1 U H1 x v Q I1 r1 q1)
def ZT {f:Value->Value->Sem Value}{C:Int->Int->Prop}{g:Int->Int->Int}
  (rule:∀(i j:Int) (t u:Tok) (s:Shared) (Q:Value->Shared->Prop) (E:Value->Shared->Prop),C i j->Q (.int (g i j) s.toks) { s with toks:=s.toks+1 }->wpAny (model X.prog X.w) X.A (f (.int i t) (.int j u)) Q E s) :
  oO X f (rI C fun i j=>.int (g i j)):=by
 intro pins s U H x y v u Q I rx ry h;obtain ⟨i,j,rfl,rfl,hc,q⟩:=h;obtain ⟨t,rfl⟩:=rx;obtain ⟨t',rfl⟩:=ry;exact rule i j t t' s _ _ hc ⟨.int (g i j),H,I.tok _,⟨_,rfl⟩,q⟩
def Xj {f:Value->Value->Sem Value}{g:Int->Int->Int}
  (rule:∀(i j:Int) (t u:Tok) (s:Shared) (Q:Value->Shared->Prop) (E:Value->Shared->Prop),Q (.int (g i j) s.toks) { s with toks:=s.toks+1 }->wpAny (model X.prog X.w) X.A (f (.int i t) (.int j u)) Q E s) :
  oO X f (Kh fun i j=>.int (g i j)):=by
 intro pins s U H x y v u Q I rx ry h;obtain ⟨i,j,rfl,rfl,q⟩:=h;obtain ⟨t,rfl⟩:=rx;obtain ⟨t',rfl⟩:=ry;exact rule i j t t' s _ _ ⟨.int (g i j),H,I.tok _,⟨_,rfl⟩,q⟩
def Ud {f:Value->Value->Sem Value}{g:Int->Int->Bool}
  (rule:∀(i j:Int) (t u:Tok) (s:Shared) (Q:Value->Shared->Prop) (E:Value->Shared->Prop),Q (.bool (g i j)) s->wpAny (model X.prog X.w) X.A (f (.int i t) (.int j u)) Q E s) :
  oO X f (Kh fun i j=>.bl (g i j)):=by
 intro pins s U H x y v u Q I rx ry h;obtain ⟨i,j,rfl,rfl,q⟩:=h;obtain ⟨t,rfl⟩:=rx;obtain ⟨t',rfl⟩:=ry;exact rule i j t t' s _ _ ⟨.bl (g i j),H,I,rfl,q⟩
def v7 (i j:Int):Prop:=0<j/\j<1073741824
def mW (i j:Int):Prop:=(-(2 ^ 64)<i/\i<2 ^ 64)\/(-(2 ^ 64)<j/\j<2 ^ 64)
def mW.ok {i j:Int} (h:mW i j):IntMulOk i j:=by
 rcases h with ⟨h1,h2⟩ | ⟨h1,h2⟩
 ·exact .of_left (intBits_le_64 h1 h2)
 ·exact .of_right (intBits_le_64 h1 h2)
def Ue:oO X (binaryOp .Add) (Kh fun i j=>.int (i+j)):=Xj fun _ _ _ _ _ _ _ q=>add_int q
def Ug:oO X (binaryOp .Sub) (Kh fun i j=>.int (i-j)):=Xj fun _ _ _ _ _ _ _ q=>sub_int q
def Uh:oO X (binaryOp .Mult) (rI mW fun i j=>.int (i * j)):=ZT fun _ _ _ _ _ _ _ hc q=>mul_int q hc.ok
def Qz:oO X (binaryOp .FloorDiv) (rI v7 fun i j=>.int (i / j)):=ZT fun i j _ _ _ _ _ hc q=>by
 have h1:(0:Int)<j:=hc.1;have h2:j<1073741824:=hc.2;exact floordiv_int (by omega) (by rw [Int.fdiv_eq_ediv_of_nonneg i (by omega)];exact q) (.inl (PyProof.noPylong_small (by omega)))
def Ui:oO X (binaryOp .Mod) (rI (fun _ j=>0<j) fun i j=>.int (i % j)):=ZT fun i j _ _ _ _ _ hc q=>by
 have h1:(0:Int)<j:=hc;exact mod_int' (by omega) (by rw [Int.fmod_eq_emod_of_nonneg i (by omega)];exact q)
def unI {f:Value->Sem Value}{g:Int->Int}
  (rule:∀(i:Int) (t:Tok) (s:Shared) (Q:Value->Shared->Prop) (E:Value->Shared->Prop),Q (.int (g i) s.toks) { s with toks:=s.toks+1 }->wpAny (model X.prog X.w) X.A (f (.int i t)) Q E s) :
  ZR X f (rU fun i=>.int (g i)):=by
 intro pins s U H x v Q I rx h;obtain ⟨i,rfl,q⟩:=h;obtain ⟨t,rfl⟩:=rx;exact rule i t s _ _ ⟨.int (g i),H,I.tok _,⟨_,rfl⟩,q⟩
def Uj:ZR X (unaryOp .USub) (rU fun i=>.int (-i)):=unI fun _ _ _ _ _ q=>neg_int q
end
section
variable {X:Cx}{a b c:Expr}{ta tb tc:TE}{pos:Pos}
def Ni {pins:List (Addr×Obj)}{U:St}{H:Hp}{s:Shared}{Q:VK}{k k':Bool} (I:Inv X pins U H s) (q:Q (.bl k) H) (e:k=k'):EP X pins U Q (.bool k') s:=by
 subst e;exact ⟨.bl k,H,I,rfl,q⟩
def SU:oO X (compareOp .Lt) (Kh fun i j=>.bl (decide (i<j))):=Ud fun _ _ _ _ _ _ _ q=>lt_int q
def SV:oO X (compareOp .LtE) (Kh fun i j=>.bl (decide (i<=j))):=Ud fun _ _ _ _ _ _ _ q=>le_int q
def SW:oO X (compareOp .Gt) (Kh fun i j=>.bl (decide (j<i))):=Ud fun _ _ _ _ _ _ _ q=>gt_int q
def Uk:oO X (compareOp .Is) (fun x y H Q=>y=.bX/\Q (.bl (decide (x=.bX))) H):=by
 intro pins s U H x y v u Q I rx ry h;obtain ⟨rfl,q⟩:=h;cases ry;refine is_none_gen (Ni I q ?_);cases x <;> first
  | (cases rx;rfl)
  | (obtain ⟨t,rfl⟩:=rx;rfl)
def QA:oO X (compareOp .IsNot) (fun x y H Q=>y=.bX/\Q (.bl (!decide (x=.bX))) H):=by
 intro pins s U H x y v u Q I rx ry h;obtain ⟨rfl,q⟩:=h;cases ry;refine isnot_none_gen (Ni I q ?_);cases x <;> first
  | (cases rx;rfl)
  | (obtain ⟨t,rfl⟩:=rx;rfl)
def jP (b:Expr) {op:CmpOp} (h:op≠.In:=by decide) (h2:op≠.NotIn:=by decide):behindInMarks op b=false:=by
 have e1:(op==CmpOp.In)=false:=by cases op <;> first | rfl | exact absurd rfl h
 have e2:(op==CmpOp.NotIn)=false:=by cases op <;> first | rfl | exact absurd rfl h2
 cases b <;> simp [behindInMarks,e1,e2]
def QB {op:CmpOp}{r:R2} (ho:oO X (compareOp op) r) (ha:PE X a ta) (hb:PE X b tb) (hm:behindInMarks op b=false):PE X (.Compare a [op] [b] pos) (Xh r ta tb):=by
 intro pins s U H Q I h;exact wpAny_Compare1 (Uc ha hb I h fun v u s2 x y H2 I2 rx ry q=>ho pins s2 U H2 x y v u Q I2 rx ry q) hm
def SX (t:TE):TT:=fun U H Q=>t U H fun x H'=>∃k,x=.bl k/\Q k H'
def Ea {op:CmpOp}{r:R2} (ho:oO X (compareOp op) r) (ha:PE X a ta) (hb:PE X b tb) (hm:behindInMarks op b=false):PT X (.Compare a [op] [b] pos) (SX (Xh r ta tb)):=by
 intro pins s U H Q I h;refine wpAny_isTrue_Compare1 (gy (ha pins s U H _ I h) fun v s1 ⟨x,H1,I1,r1,q1⟩=>gy (hb pins s1 U H1 _ I1 q1) fun u s2 ⟨y,H2,I2,r2,q2⟩ =>
  gy (ho pins s2 U H2 x y v u _ I2 r1 r2 q2) fun c s3 ⟨z,H3,I3,r3,k,e,q3⟩=>?_) hm
 subst e;cases r3;exact wpAny_truthy_bool ⟨H3,I3,q3⟩
def Nj (r r':R2) (ta tb tc:TE):TE:=fun U H Q=>ta U H fun x H1=>tb U H1 fun y H2=>r x y H2 fun z H3=>∃k,z=.bl k /\
 (if k=true then tc U H3 fun w' H4=>r' y w' H4 Q else Q (.bl false) H3)
def Nk {op op':CmpOp}{r r':R2} (ho:oO X (compareOp op) r) (ho':oO X (compareOp op') r') (ha:PE X a ta) (hb:PE X b tb) (hc:PE X c tc)
  (hm:lastMarks [op,op'] [b,c]=false:=by with_unfolding_all rfl):PT X (.Compare a [op,op'] [b,c] pos) (SX (Nj r r' ta tb tc)):=by
 intro pins s U H Q I h;refine isTrue_chain (gy (ha pins s U H _ I h) fun v s1 ⟨x,H1,I1,r1,q1⟩=>test_link (gy (hb pins s1 U H1 _ I1 q1) fun u s2 ⟨y,H2,I2,r2,q2⟩ =>
  gy (ho pins s2 U H2 x y v u _ I2 r1 r2 q2) fun d s3 ⟨z,H3,I3,r3,k,e,q3⟩=>?_)) hm
 subst e;cases r3;refine wpAny_truthy_bool ?_;cases k with
 | false =>
  have ⟨k',e',q'⟩:=q3;cases e';exact ite_ff ⟨H3,I3,q'⟩
 | true =>
  refine ite_tt (test_last (gy (hc pins s3 U H3 _ I3 q3) fun w' s4 ⟨z',H4,I4,r4,q4⟩=>gy (ho' pins s4 U H4 y z' u w' _ I4 r2 r4 q4) fun d' s5 ⟨z2,H5,I5,r5,k2,e2,q5⟩=>?_));subst e2;cases r5;exact wpAny_truthy_bool ⟨H5,I5,q5⟩
def Ul (K:Frag) (x:V) (H:Hp) (k:Bool):Prop :=
 match x with
 | .bX=>k=false
 | .bl b=>k=b
 | .int i=>k=(i != 0)
 | .str y=>y.length<=sizeLine/\k=((y.length:Int) != 0)
 | .WG y=>y.size<=sizeLine/\k=((y.size:Int) != 0)
 | .ref p=>(∃xs,kC K H p xs/\k=!xs.isEmpty)\/(∃xs,rE K H p xs/\k=!xs.isEmpty)\/∃kvs,H p=some (.dK kvs)/\k=!kvs.isEmpty
 | _=>False
def Iu {κ:Type}{kvs:List (κ×V)}{vs:List (κ×Value)} (r:KV kvs vs):(!vs.isEmpty)=!kvs.isEmpty:=by
 cases r <;> rfl
def Aq {xs:List V}{its:List Value} (r:Vals xs its):(!its.toArray.isEmpty)=!xs.isEmpty:=by
 cases r <;> simp
def As:(sizeLine:Nat)<2 ^ 63:=by rw [sizeLine_eq];decide
def Um:ZS X (fun x H Q=>∃k,Ul X.K x H k/\Q k H):=by
 intro pins s U H x v Q I rx h;have ⟨k,e,q⟩:=h;have hl:=As;have hs:sizeLine=16777216:=sizeLine_eq;cases x with
 | bX =>
  cases rx;have e':k=false:=e;subst e';exact truthy_none ⟨H,I,q⟩
 | bl b =>
  cases rx;have e':k=b:=e;subst e';exact wpAny_truthy_bool ⟨H,I,q⟩
 | int i =>
  obtain ⟨t,rfl⟩:=rx;have e':k=(i != 0):=e;subst e';exact PySem.P.truthy_int ⟨H,I,q⟩
 | str y =>
  obtain ⟨t,rfl⟩:=rx;obtain ⟨hy,e'⟩ : y.length<=sizeLine/\k=((y.length : Int) != 0):=e;subst e';exact PySem.P.truthy_str (by omega) ⟨H,I.tok _,q⟩
 | WG y =>
  obtain ⟨t,rfl⟩:=rx;obtain ⟨hy,e'⟩ : y.size<=sizeLine/\k=((y.size : Int) != 0):=e;subst e';exact PySem.W.truthy_bytes (by omega) ⟨H,I.tok _,q⟩
 | ref p =>
  cases rx;have e':(∃xs,kC X.K H p xs/\k=!xs.isEmpty)\/(∃xs,rE X.K H p xs/\k=!xs.isEmpty)\/∃kvs,H p=some (.dK kvs)/\k=!kvs.isEmpty:=e;rcases e' with ⟨xs,hx,e'⟩ | ⟨xs,hx,e'⟩ | ⟨kvs,hx,e'⟩
  ·subst e'
   obtain ⟨its,r,pl,hz⟩:=I.list hx;have hlen:=r.length;exact wpAny_truthy_list pl.isList (by simp only [List.size_toArray];omega) ⟨H,I.tok _,by rw [Aq r];exact q⟩
  ·subst e'
   obtain ⟨its,r,pl,hz⟩:=I.tuple hx;have hlen:=r.length;exact truthy_tuple pl (by simp only [List.size_toArray];omega) ⟨H,I.tok _,by rw [Aq r];exact q⟩
  ·subst e'
   obtain ⟨hz,hS,vs,r,m⟩ : kvs.length<=sizeLine/\(p==sysModules)=false/\∃vs,KV kvs vs/\s.heap.DictOf (dG X.prog X.w) p vs:=I.dD p _ hx;have hlen:kvs.length=vs.length:=Paired.length r;exact wpAny_truthy_dict hS m (by omega) ⟨H,I.tok _,by rw [Iu r];exact q⟩
 | _=>exact (show False from e).elim
def Nl (ha:PE X a ta) (he:∀whole,isTrue a X.env whole=(do let v <-whole;standAt a.pos;holding [v] (truthy v))) :
  PT X a (fun U H Q=>ta U H fun x H'=>∃k,Ul X.K x H' k/\Q k H'):=by
 intro pins s U H Q I h;exact isTrue_plain (gy (ha pins s U H _ I h) fun v s1 ⟨x,H1,I1,r1,q1⟩=>Um pins s1 U H1 x v Q I1 r1 q1) (he _)
def Iv:oO X (binaryOp .Add) (fun x y H Q=>∃i j,x=.str i/\y=.str j/\i.length+j.length<=sizeLine/\Q (.str (i++j)) H):=by
 intro pins s U H x y v u Q I rx ry h;obtain ⟨i,j,rfl,rfl,hz,q⟩:=h;obtain ⟨t,rfl⟩:=rx;obtain ⟨t',rfl⟩:=ry;exact add_str (fun t' tk=>⟨.str (i++j),H,I.tok _,⟨_,rfl⟩,q⟩) hz
def vals1 {x:V}{us:List Value} (r:Vals [x] us):∃u,us=[u]/\RelV x u:=by
 cases r with
 | cons r1 r2=>cases r2;exact ⟨_,rfl,r1⟩
def vals2 {x y:V}{us:List Value} (r:Vals [x,y] us):∃u w',us=[u,w']/\RelV x u/\RelV y w':=by
 cases r with
 | cons r1 r2 =>
  cases r2 with
  | cons r3 r4=>cases r4;exact ⟨_,_,rfl,r1,r3⟩
def LD (hc:X.calm=true):fU X (.builtin "max") (fun xs H Q=>∃i j,xs=[.int i,.int j]/\Q (.int (if j>i then j else i)) H):=by
 intro pins s U H xs us Q I r h;obtain ⟨i,j,rfl,q⟩:=h;obtain ⟨u,w',rfl,⟨t,rfl⟩,⟨t',rfl⟩⟩:=vals2 r;refine max_two_ints (I.ok.hd hc) fun h' tk k=>⟨_,H,I.kept k,?_,q⟩
 by_cases hj:j>i
 ·rw [if_pos hj,if_pos hj];exact ⟨_,rfl⟩
 ·rw [if_neg hj,if_neg hj];exact ⟨_,rfl⟩
def LF (hc:X.calm=true):fU X (.builtin "min") (fun xs H Q=>∃i j,xs=[.int i,.int j]/\Q (.int (if j<i then j else i)) H):=by
 intro pins s U H xs us Q I r h;obtain ⟨i,j,rfl,q⟩:=h;obtain ⟨u,w',rfl,⟨t,rfl⟩,⟨t',rfl⟩⟩:=vals2 r;refine min_two_ints (I.ok.hd hc) fun h' tk k=>⟨_,H,I.kept k,?_,q⟩
 by_cases hj:j<i
 ·rw [if_pos hj,if_pos hj];exact ⟨_,rfl⟩
 ·rw [if_neg hj,if_neg hj];exact ⟨_,rfl⟩
end
structure Iw (h:Heap) (x dx C:Addr) (mA:Str->Option Value):Prop where
 obj:h.get? x=some (PySem.W.instObj C dx)
 ns:h.Ns1 dx mA
 ne:dx≠x
def LH {h:Heap}{dx:Addr}{mA:Str->Option Value} (n:h.Ns1 dx mA):∃od,h.get? dx=some od/\∀name,PySem.W.lookIn name od=some (mA name):=by
 obtain ⟨o,es,ep,ho,hd,hk,_,hm⟩:=n;refine ⟨o,ho,fun name=>?_⟩;have e:=hm name;unfold nsFind findBy at e;rw [<-Array.find?_toList] at e;unfold PySem.W.lookIn;rw [hd];dsimp only
 split
 ·rename_i y q
  rw [q] at e;exact congrArg some e
 ·rename_i q
  rw [q] at e;have a:es.toList.any (·.refKey)=false:=by
   rw [List.any_eq_false];intro y hy;obtain ⟨z,t,Nm⟩:=hk y (Array.mem_toList_iff.mp hy);simp [DictEntry.refKey,Nm]
  have a':¬es.toList.any (·.refKey)=true:=by rw [a];exact Bool.false_ne_true
  rw [if_neg a'];exact congrArg some e
def Iw.look {h:Heap}{x dx C:Addr}{mA:Str->Option Value} (I:Iw h x dx C mA):∃od,PySem.W.InstAt h x (PySem.W.instObj C dx) C (some od)/\∀name,PySem.W.lookIn name od=some (mA name) :=
 let ⟨od,ho,hl⟩:=LH I.ns
 ⟨od,⟨I.obj,rfl,rfl,ho⟩,hl⟩
section
variable {prog:Program}{w:World}{A:Around}{E:Value->Shared->Prop}{s:Shared}{K:Frag}{x dx C f:Addr}{mA:Str->Option Value}{name:Str}{v:Value}
def get_map {expr:Bool}{Q:Value->Shared->Prop} (X:K.In s.heap) (I:Iw s.heap x dx C mA) (hg:plainGet K C name=true) (hh:hasDictIn K C=true)
  (ha:findIn K (.ref C) name=some none) (hv:mA name=some v) (hv':PySem.W.handedIn v=true) (h:Q v { s with toks:=s.toks+1 }) :
  wpAny (model prog w) A (getAttr (.ref x) name expr) Q E s:=by
 obtain ⟨od,J,hl⟩:=I.look;exact PySem.W.get_value X J (PySem.W.plainGet_of hg).1 (PySem.W.findObj_own hh ha rfl (by rw [hl,hv])) hv' h
def Nn {pl:Sem Bool}{Q:Value×List Value->Shared->Prop} (X:K.In s.heap) (I:Iw s.heap x dx C mA) (hg:plainGet K C name=true)
  (hf:findIn K (.ref C) name=some (some (.ref f))) (ht:isFn K (.ref f)=true) (hv:mA name=none) (h:Q (.ref f,[.ref x]) s) :
  wpAny (model prog w) A (getMethod (.ref x) name pl) Q E s:=by
 obtain ⟨od,J,hl⟩:=I.look;exact PySem.W.method_fn X J (PySem.W.plainGet_of hg).1 (PySem.W.plainGet_of hg).2 hf (cJ.mp ht) (by show (PySem.W.lookIn name od).map (·.isSome)=some false;rw [hl,hv];rfl) h
def QC {ns:List Str}{Q:Unit->Shared->Prop} (X:K.In s.heap) (I:Iw s.heap x dx C mA)
  (hs:findIn K (.ref C) "__setattr__"=some (some (.builtin "object.__setattr__"))) (hp:plainOver K C=true) (ht:PySem.W.takerIn K C name=some none) (hh:hasDictIn K C=true)
  (hw:PySem.Within mA ns) (hsz:ns.length<=sizeLine)
  (h:∀h',Iw h' x dx C (fun y=>if y=name then some v else mA y)->Heap.SameBut dx s.heap h'->Q () { s with heap:=h',toks:=s.toks+2 }) :
  wpAny (model prog w) A (setAttr (.ref x) name v) Q E s:=by
 obtain ⟨od,J,hl⟩:=I.look;refine PySem.W.set_plain X J hs (PySem.W.osa_open (s:={ s with toks:=s.toks+1 }) (r:=none) X J hp ht fun b=>?_);obtain ⟨cd,hc,hd'⟩:=PySem.W.any_some hh;have hx:s.heap.get? x=some ⟨.ref C,some dx,.plain,#[]⟩:=I.obj;refine wpAny_bind (wpAny_pure (wpAny_bind (wpAny_bind (wpAny_loadPart hx (wpAny_bind (PySem.W.Looks.here (s:={ s with toks:=s.toks+1 }) (PySem.W.looks_clsIn X hc) ?_))))));rw [hd'];refine wpAny_pure (a:=some dx) (wpAny_bind (wpAny_pure (wpAny_bind ?_)));refine wpAny_nsSet1 (s:={ s with toks:=s.toks+1 }) I.ns fun h' Y3 Qy=>?_
 obtain ⟨oD,esD,epD,hoD,hdD,hcD⟩:=Y3.count (PySem.Within.cons name v hw);refine aa (wpAny_lookBehind hoD (by rw [hdD];exact pastItsLine_dict (ay hcD (by rw [List.length_cons];omega))) ?_);exact ag (h _ ⟨(Qy.2 _ (Ne.symm I.ne)).trans I.obj,Y3,I.ne⟩ Qy)
def Np {R:Result->Shared->Prop}{vs:List Value}{kw:List (Str×Value)} (X:K.In s.heap) (hm:makesIn K C=true)
  (hi:findIn K (.ref C) "__init__"=some (some (.ref f))) (hf:PySem.W.typeIn K (.ref f)=some (.type "function"))
  (h:codeAny (model prog w) (A.under (.builtin "type.__call__" ⟨.ref C::vs,kw⟩)) (.call (.ref f) ⟨.ref (s.heap.objs.size+1)::vs,kw⟩) (PySem.W.InitBack (s.heap.objs.size+1) R)
   { s with heap:=(s.heap.push PySem.W.emptyDict).push (PySem.W.instObj C s.heap.objs.size) }) :
  codeAny (model prog w) A (.call (.ref C) ⟨vs,kw⟩) R s:=by
 obtain ⟨hh,g,d,t,os⟩:=s;exact PySem.W.make_core (PySem.W.makes_of X hm) (PySem.W.looks_findIn X hi) (fun self=>PySem.W.bind_fn X self hf) (.inl rfl) h
end
noncomputable def oh (f:Str) (v:V):List (Str×V)->List (Str×V)
 | []=>[(f,v)]
 | (g,x)::r=>if g=f then (g,v)::r else (g,x)::oh f v r
theorem r9 (f g:Str) (v:V):∀fs:List (Str×V),(oh f v fs).lookup g=if g=f then some v else fs.lookup g
 | []=>by
  show List.lookup g [(f,v)]=_
  by_cases h:g=f
  ·have hb:(g==f)=true:=cJ.mpr h
   simp only [List.lookup,hb,if_pos h]
  ·have hb:(g==f)=false:=bc.mpr h
   simp only [List.lookup,hb,if_neg h]
 | (k,x)::r=>by
  have ih:=r9 f g v r;rw [show oh f v ((k,x)::r)=(if k=f then (k,v)::r else (k,x)::oh f v r) from rfl]
  by_cases hk:k=f
  ·rw [if_pos hk]
   by_cases h:g=k
   ·have hb:(g==k)=true:=cJ.mpr h
    simp only [List.lookup,hb,if_pos (h.trans hk)]
   ·have hb:(g==k)=false:=bc.mpr h
    simp only [List.lookup,hb,if_neg (fun e:g=f=>h (e.trans hk.symm))]
  ·rw [if_neg hk]
   by_cases h:g=k
   ·have hb:(g==k)=true:=cJ.mpr h
    simp only [List.lookup,hb,if_neg (fun e:g=f=>hk (h.symm.trans e))]
   ·have hb:(g==k)=false:=bc.mpr h
    simp only [List.lookup,hb];exact ih
theorem xu (f:Str) (v:V):∀fs:List (Str×V),f∈(oh f v fs).map (·.1)/\∀g,g∈fs.map (·.1)->g∈(oh f v fs).map (·.1)
 | []=>⟨by simp [oh],fun g h=>by simp at h⟩
 | (k,x)::r=>by
  obtain ⟨i1,i2⟩:=xu f v r;rw [show oh f v ((k,x)::r)=(if k=f then (k,v)::r else (k,x)::oh f v r) from rfl]
  by_cases hk:k=f
  ·rw [if_pos hk]
   subst hk;exact ⟨by simp,fun g h=>by simpa using h⟩
  ·rw [if_neg hk]
   refine ⟨?_,fun g h=>?_⟩
   ·rw [List.map_cons]
    exact aw _ i1
   ·rw [List.map_cons] at h ⊢
    rcases aE.mp h with e | e
    ·exact aE.mpr (.inl e)
    ·exact aw _ (i2 g e)
theorem yq (f:Str) (v:V):∀fs:List (Str×V),(oh f v fs).length<=fs.length+1
 | []=>by simp [oh]
 | (k,x)::r=>by
  have ih:=yq f v r;rw [show oh f v ((k,x)::r)=(if k=f then (k,v)::r else (k,x)::oh f v r) from rfl]
  by_cases hk:k=f
  ·rw [if_pos hk,List.length_cons,List.length_cons];omega
  ·rw [if_neg hk,List.length_cons,List.length_cons];omega
def pH.some_of {v:V}{o:Option Value} (r:pH (some v) o):∃u,o=some u/\RelV v u:=by
 cases o with
 | none=>exact (show False from r).elim
 | some u=>exact ⟨u,rfl,r⟩
def pH.none_of {o:Option Value} (r:pH none o):o=none:=by
 cases o with
 | none=>rfl
 | some u=>exact (show False from r).elim
def LI {v:V}{u:Value} (r:RelV v u):PySem.W.handedIn u=true:=by
 cases v with
 | bX=>cases (show u=Value.none from r);rfl
 | bl b=>cases (show u=Value.bool b from r);rfl
 | int i=>obtain ⟨t,e⟩:=(show ∃t,u=Value.int i t from r);cases e;rfl
 | str x=>obtain ⟨t,e⟩:=(show ∃t,u=Value.str x t from r);cases e;rfl
 | WG b=>obtain ⟨t,e⟩:=(show ∃t,u=Value.bytes b t from r);cases e;rfl
 | YX b=>obtain ⟨t,e⟩:=(show ∃t,u=Value.float b t from r);cases e;rfl
 | ref a=>cases (show u=Value.ref a from r);rfl
 | ty n=>cases (show u=Value.type n from r);rfl
section
variable {P:Program}{w:World}{H H':Hp}{h h':Heap}{a C dx:Addr}{fs fs':List (Str×V)}
def Eb (dD:t7 P w H h) (e:H a=some (.ins C dx fs)):∃mA,Iw h a dx C mA/\(∀f,pH (fs.lookup f) (mA f))/\PySem.Within mA (fs.map (·.1))/\fs.length<=1000/\H dx=some (.own a):=by
 obtain ⟨d,z,ne,ob,mA,n,r,q⟩:=(show fL P w H h a (.ins C dx fs) from dD a _ e);exact ⟨mA,⟨ob,n,ne⟩,r,q,z,d⟩
end
structure Au (K:Frag) (C:Addr):Prop where
 pg:plainGet K C Str.empty=true
 hd:hasDictIn K C=true
 po:plainOver K C=true
 sa:findIn K (.ref C) "__setattr__"=some (some (.builtin "object.__setattr__"))
def Au.get {K:Frag}{C:Addr} (c:Au K C) (f:Str):plainGet K C f=true:=c.pg
def gM (K:Frag) (C:Addr) (f:Str):Prop:=findIn K (.ref C) f=some none
def gM.Xk {K:Frag}{C:Addr}{f:Str} (n:gM K C f):PySem.W.takerIn K C f=some none:=by
 unfold PySem.W.takerIn;rw [show findIn K (.ref C) f=some none from n]
 rfl
structure Meth (K:Frag) (C:Addr) (m:Str) (f:Addr):Prop where
 at_:findIn K (.ref C) m=some (some (.ref f))
 fn:isFn K (.ref f)=true
 kp:keepIn K (.ref f)=true
section
variable {X:Cx}{pins:List (Addr×Obj)}{U:St}{H:Hp}{s:Shared}{a C dx:Addr}{fs:List (Str×V)}{f:Str}{v:V}{A:Around}{E:Value->Shared->Prop}
def Iy {b:Bool}{Q:Value->Shared->Prop} (I:Inv X pins U H s) (e:H a=some (.ins C dx fs)) (c:Au X.K C) (n:gM X.K C f) (l:fs.lookup f=some v)
  (h:∀u s',Inv X pins U H s'->RelV v u->Q u s'):wpAny (model X.prog X.w) A (getAttr (.ref a) f b) Q E s:=by
 obtain ⟨mA,O,r,_,_,_⟩:=Eb I.dD e;obtain ⟨u,hu,ru⟩:=pH.some_of (v:=v) (o:=mA f) (by rw [<-l];exact r f);exact get_map I.Gd O (c.get f) c.hd n hu (LI ru) (h u _ (I.tok _) ru)
def Av {m:Str}{g:Addr}{pl:Sem Bool}{Q:Value×List Value->Shared->Prop} (I:Inv X pins U H s) (e:H a=some (.ins C dx fs)) (c:Au X.K C) (k:Meth X.K C m g) (l:fs.lookup m=none)
  (h:Q (.ref g,[.ref a]) s):wpAny (model X.prog X.w) A (getMethod (.ref a) m pl) Q E s:=by
 obtain ⟨mA,O,r,_,_,_⟩:=Eb I.dD e;have hn:mA m=none:=pH.none_of (by rw [<-l];exact r m);exact Nn I.Gd O (c.get m) k.at_ k.fn hn h
def Iz {y:V}{u:Value}{Q:Unit->Shared->Prop} (I:Inv X pins U H s) (e:H a=some (.ins C dx fs)) (c:Au X.K C) (n:gM X.K C f) (hl:fs.length<1000) (ry:RelV y u)
  (h:∀s',Inv X pins U (upd H a (.ins C dx (oh f y fs))) s'->Q () s'):wpAny (model X.prog X.w) A (setAttr (.ref a) f u) Q E s:=by
 obtain ⟨mA,O,r,wi,_,ho⟩:=Eb I.dD e;have hz:(fs.map (·.1)).length<=sizeLine:=by rw [List.length_map,sizeLine_eq];omega
 refine QC I.Gd O c.sa c.po n.Xk c.hd wi hz fun h' O' sb=>h _ ?_
 have hd:∃o,h'.get? dx=some o:=let ⟨o,_,_,e',_⟩:=O'.ns;⟨o,e'⟩
 refine I.write (x:=a) (e:=dx) (by rw [e];exact True.intro) (.inr ho) (fun b q hb z=>(sb.2 b hb).trans z) hd ?_;refine ⟨by rw [aF O.ne];exact ho,?_,O.ne,O'.obj,_,O'.ns,fun g=>?_,fun g hg=>?_⟩
 ·have:=yq f y fs;omega
 ·show pH ((oh f y fs).lookup g) (if g=f then some u else mA g)
  rw [r9]
  by_cases q:g=f
  ·rw [if_pos q,if_pos q];exact ry
  ·rw [if_neg q,if_neg q];exact r g
 ·by_cases q:g=f
  ·rw [q];exact (xu f y fs).1
  ·refine (xu f y fs).2 g (wi g fun z=>hg ?_)
   show (if g=f then some u else mA g)=none;rw [if_neg q];exact z
def Inv.made (I:Inv X pins U H s):Inv X pins U (upd (upd H s.heap.objs.size (.own (s.heap.objs.size+1))) (s.heap.objs.size+1) (.ins C s.heap.objs.size []))
  { s with heap:=(s.heap.push PySem.W.emptyDict).push (PySem.W.instObj C s.heap.objs.size) }:=by
 have e1:(s.heap.push PySem.W.emptyDict).get? s.heap.objs.size=some PySem.W.emptyDict:=aB s.heap rfl;have e2:((s.heap.push PySem.W.emptyDict).push (PySem.W.instObj C s.heap.objs.size)).get? (s.heap.objs.size+1)=some (PySem.W.instObj C s.heap.objs.size):=by
  have:=aB (s.heap.push PySem.W.emptyDict) (o:=PySem.W.instObj C s.heap.objs.size) rfl;rwa [Heap.size_push] at this
 have e3:(s.heap.push PySem.W.emptyDict).Ns s.heap.objs.size (fun _=>none):=⟨PySem.W.emptyDict,#[],_,e1,rfl,(fun e he=>absurd he (by simp)),fun _=>rfl⟩;have I1:=I.laid (a:=s.heap.objs.size) (o:=.own (s.heap.objs.size+1)) (h':=s.heap.push PySem.W.emptyDict) (t':=s.toks) (fun b u q=>ai _ q) (ao _) ⟨_,e1⟩;refine I1.laid (a:=s.heap.objs.size+1) (o:=.ins C s.heap.objs.size []) (t':=s.toks) (fun b u q=>ai _ q) (Nat.le_of_eq (Heap.size_push _ _)) ?_;have ne:s.heap.objs.size≠s.heap.objs.size+1:=aP (Nat.lt_succ_self _);refine ⟨by rw [aF ne,aO],bw _,ne,e2,fun _=>none,(Heap.Ns1.of_empty e3).at fun o q=>ai _ q,fun _=>True.intro,fun y hy=>absurd rfl hy⟩
def QD {prog:Program}{w:World}{env:Env}{e:Expr}{f:Str}{pos:Pos}{s:Shared}{Q:Value->Shared->Prop} (hb:attributeBase e f env (eval e env)=eval e env)
  (h:wpAny (model prog w) A (eval e env) (fun o s₁=>wpAny (model prog w) A (getAttr o f true) Q E s₁) E s):wpAny (model prog w) A (eval (.Attribute e f pos) env) Q E s :=
 Attribute_any_ h (by rw [arm_eval_Attribute,hb])
end
def ZU (K:Frag) (ta:TE) (f:Str):TE:=fun U H Q=>ta U H fun x H1=>∃a C dx fs v,x=.ref a/\H1 a=some (.ins C dx fs)/\Au K C/\gM K C f/\fs.lookup f=some v/\Q v H1
def ZV (K:Frag) (ta tv:TE) (f:Str):TS:=fun D U H=>tv U H fun y H1=>ta U H1 fun x H2=>∃a C dx fs,x=.ref a/\H2 a=some (.ins C dx fs)/\Au K C/\gM K C f/\fs.length<1000 /\
 D.nx U (upd H2 a (.ins C dx (oh f y fs)))
section
variable {X:Cx}{o e value:Expr}{f:Str}{pos pos' ZW:Pos}{ta tv:TE}
def vm (he:PE X e ta) (hb:attributeBase e f X.env (eval e X.env)=eval e X.env):PE X (.Attribute e f pos) (ZU X.K ta f):=by
 intro pins s U H Q I h;refine QD hb (gy (he pins s U H _ I h) fun u s1 ⟨x,H1,I1,rx,a,C,dx,fs,v,ex,ea,c,n,l,q⟩=>?_);subst ex;obtain rfl : u=Value.ref a:=rx;exact Iy I1 ea c n l fun u' s2 I2 ru=>⟨v,H1,I2,ru,q⟩
def Nq (ha:PE X o ta) (hv:PE X value tv) (hs:swapsWith value (some (.Attribute o f pos')) pos.line X.env=pure false):PS X (.Assign [.Attribute o f pos'] value pos) (ZV X.K ta tv f):=by
 intro pins s U H D I h;refine plainObj_wpAny_Assign_Attribute (gy (hv pins s U H _ I h) fun u s1 ⟨y,H1,I1,ry,q⟩=>gy (ha pins s1 U H1 _ I1 q) fun ov s2 ⟨x,H2,I2,rx,a,C,dx,fs,ex,ea,c,n,l,q2⟩=>?_) hs;subst ex;obtain rfl : ov=Value.ref a:=rx;exact Iz I2 ea c n l ry fun s3 I3=>⟨U,_,I3,q2⟩
end
section
variable {X:Cx}{pins:List (Addr×Obj)}{U:St}{H:Hp}{s:Shared}{A:Around}{E:Value->Shared->Prop}{Q:Value->Shared->Prop}{c:Value}{b:Bool}
end
structure fG (k:Nat) (A:Around):Prop where
 hd:A.handled=none
 dp:A.depth+3 * k+5<recursionLimit
 un:A.units+16 * k+200<cLine
def fG.mono {j k:Nat}{A:Around} (r:fG k A) (h:j<=k):fG j A:=⟨r.hd,by have:=r.dp;omega,by have:=r.un;omega⟩
def fG.deeper {k:Nat}{A:Around} (r:fG (k+1) A) (env:Env):fG k (A.deeper env) :=
 ⟨r.hd,by have:=r.dp;show A.depth+1+3 * k+5<_;omega,by have:=r.un;show A.units+3+16 * k+200<_;omega⟩
def IA {A:Around}{C:Addr}{us:List Value}{kw:List (Str×Value)}:(A.under (.builtin "type.__call__" ⟨.ref C::us,kw⟩)).depth=A.depth+1:=by
 first | rfl | simp [Around.under,Code.weight,Code.isCreation,Code.isGuard,Code.isCaller,Code.frames,Code.isFrame,guardIds]
def IB {A:Around}{C:Addr}{us:List Value}{kw:List (Str×Value)}:(A.under (.builtin "type.__call__" ⟨.ref C::us,kw⟩)).units=A.units+1:=by
 first | rfl | simp [Around.under,Code.cUnits,Code.frames,Code.isFrame]
def fG.make {k:Nat}{A:Around} (r:fG (k+1) A) (C:Addr) (us:List Value) (kw:List (Str×Value)):fG k (A.under (.builtin "type.__call__" ⟨.ref C::us,kw⟩)) :=
 ⟨r.hd,by have:=r.dp;rw [IA];omega,by have:=r.un;rw [IB];omega⟩
def fG.depth {k:Nat}{A:Around} (r:fG k A):A.depth<recursionLimit:=by have:=r.dp;omega
def fG.units {k:Nat}{A:Around} (r:fG k A):A.units+64<cLine:=by have:=r.un;omega
def Xl:TA:=fun _ H Q=>Q [] H
def Xm (ta:TE) (tr:TA):TA:=fun U H Q=>ta U H fun x H1=>tr U H1 fun xs H2=>Q (x::xs) H2
section
variable {X:Cx}{e:Expr}{es:List Expr}{te:TE}{t:TA}{pos:Pos}
def kD:PA X [] Xl:=fun _ _ _ _ H Q I h=>Calls.spliced_nil ⟨[],H,I,.nil,h⟩
def gm (ha:PE X e te) (hr:PA X es t) (hs:starEach (e::es) X.env=(false,eval e X.env)::starEach es X.env:=by rfl):PA X (e::es) (Xm te t):=by
 intro pos pins s U H Q I h;rw [hs];show wpAny _ _ (spliced ((false,eval e X.env)::backTo pos (starEach es X.env))) _ _ s;refine Calls.spliced_cons (gy (ha pins s U H _ I h) fun u s1 ⟨x,H1,I1,r1,q1⟩=>?_);exact gy (hr pos pins s1 U H1 _ I1 q1) fun us s2 ⟨xs,H2,I2,r2,q2⟩=>⟨x::xs,H2,I2,.cons r1 r2,q2⟩
def ZX (t:TA):TE:=fun U H Q=>t U H fun xs H1=>xs.length<=sizeLine/\∀p,H1 p=none->Q (.ref p) (upd H1 p (.tup xs))
def ZY (t:TA):TE:=fun U H Q=>t U H fun xs H1=>xs.length<=sizeLine/\∀p,H1 p=none->Q (.ref p) (upd H1 p (.lst xs))
def Uo {x1} (h:PA X es t):PE X (.Tuple es x1 pos) (ZX t):=by
 intro pins s U H Q I hq;refine wpAny_Tuple_spliced (gy (h pos pins s U H _ I hq) fun us s1 ⟨xs,H1,I1,r,z,q⟩=>⟨by rw [<-r.length];exact z,?_⟩);have hf:H1 s1.heap.objs.size=none:=I1.dD.fresh (ao _);refine ⟨.ref s1.heap.objs.size,upd H1 s1.heap.objs.size (.tup xs),I1.laid (t':=s1.toks) (fun b u e=>ai _ e) (ao _) ?_,rfl,q _ hf⟩;exact ⟨z,us,r,⟨_,aB _ rfl,rfl,_,rfl⟩⟩
def Nr (h:PA X es t):PE X (.List es pos) (ZY t):=by
 intro pins s U H Q I hq;refine wpAny_List_spliced (gy (h pos pins s U H _ I hq) fun us s1 ⟨xs,H1,I1,r,z,q⟩=>⟨by rw [<-r.length];exact z,?_⟩);have hf:H1 s1.heap.objs.size=none:=I1.dD.fresh (ao _);refine ⟨.ref s1.heap.objs.size,upd H1 s1.heap.objs.size (.lst xs),I1.laid (t':=s1.toks) (fun b u e=>ai _ e) (ao _) ?_,rfl,q _ hf⟩;exact ⟨z,us,0,r,aB _ rfl⟩
end
abbrev Sp:=List V->Hp->VK->XK->Prop
abbrev M0:=List Env->Hp->Shared->XK->Value->Shared->Prop
structure Aw (P:Program) (w:World) (K:Frag) (mg:Str->Option Value) (base:Heap) (A:Around) (outer:List Env) (s:Shared) (H:Hp):Prop where
 frames:A.frames=some outer
 mod:Mod K mg base
 bs:∀b o,base.get? b=some o->s.heap.get? b=some o/\H b=none
 FW:base.objs.size<=s.heap.objs.size
 oN:s.heap.FunFrames base outer
 Im:∀b∈oM outer,H b=none
 dD:t7 P w H s.heap
 bare:AllBare s.gens
def CE (outer:List Env) (P:Program) (w:World) (H:Hp) (s:Shared) (Q:VK) (u:Value) (s':Shared):Prop :=
 ∃v H',s'.os=s.os/\AllBare s'.gens/\Un (oM outer) [] H H' s.heap s'.heap/\t7 P w H' s'.heap/\RelV v u/\Q v H'
def CR (CX:M0) (outer:List Env) (P:Program) (w:World) (H:Hp) (s:Shared) (Q:VK) (E:XK) (r:Result) (s':Shared):Prop :=
 match r with
 | .ok (.ret u)=>CE outer P w H s Q u s'
 | .ok _=>False
 | .error e=>CX outer H s E e s'
structure cM (P:Program) (w:World) (K:Frag) (mg:Str->Option Value) (base:Heap) (CX:M0) (k:Nat) (f:Addr) (fd:FuncData) (ps:List Str) (sp:Sp):Prop where
 len:∀vs H Q E,sp vs H Q E->vs.length=ps.length
 run:∀(A:Around) (outer:List Env) (s:Shared) (H:Hp) (args:Args) (us:List Value) (vs:List V) (Q:VK) (E:XK),fG k A->Aw P w K mg base A outer s H->BindsTo s fd args (ps.zip us)->Vals vs us->sp vs H Q E ->
  codeAny (model P w) A (.call (.ref f) args) (CR CX outer P w H s Q E) s
def Aw.make {P:Program}{w:World}{K:Frag}{mg:Str->Option Value}{base:Heap}{A:Around}{outer:List Env}{s:Shared}{H:Hp} (e:Aw P w K mg base A outer s H) (C:Addr) (us:List Value) (kw:List (Str×Value)) :
  Aw P w K mg base (A.under (.builtin "type.__call__" ⟨.ref C::us,kw⟩)) outer s H:=⟨by first | exact e.frames | (simpa [Around.under,Code.envs,Code.isFrame,pushEnvs] using e.frames),e.mod,e.bs,e.FW,e.oN,e.Im,e.dD,e.bare⟩
section
variable {X:Cx}{pins:List (Addr×Obj)}{U:St}{H:Hp}{s s':Shared}
def Inv.Uq (I:Inv X pins U H s):Aw X.prog X.w X.K X.mg X.base X.A X.stack s H :=
 ⟨I.ok.frames,I.ok.mod,I.bs,ay I.ok.FW I.sz,I.stack,I.vW,I.dD,I.bare⟩
def Inv.after {Q:VK}{u:Value} (I:Inv X pins U H s) (h:CE X.stack X.prog X.w H s Q u s'):EP X pins U Q u s':=by
 obtain ⟨v,H',os,bare,un,dD,r,q⟩:=h;obtain ⟨hh,g,d,t,os'⟩:=s';obtain rfl : os'=s.os:=os;exact ⟨v,H',I.call (h':=hh) (g':=g) (d':=d) (t':=t) (ch:=[]) un dD bare (fun b z=>absurd z (by simp)),r,q⟩
end
def Xn (sp:Sp) (Cd:List V) (E:XK) (t:TA):TE:=fun U H Q=>t U H fun vs H1=>sp (vs++Cd) H1 Q E
def SY (C:Addr) (m:Str) (sp:Sp) (Cd:List V) (E:XK) (ta:TE) (t:TA):TE:=fun U H Q=>ta U H fun x H1=>∃a dx fs,x=.ref a/\H1 a=some (.ins C dx fs)/\fs.lookup m=none /\
 t U H1 fun vs H2=>sp (x::(vs++Cd)) H2 Q E
def Xo (C:Addr) (sp:Sp) (Cd:List V) (E:XK) (t:TA):TE:=fun U H Q=>t U H fun vs H1=>∀x dx,H1 x=none->H1 dx=none->dx≠x ->
 sp (.ref x::(vs++Cd)) (upd (upd H1 dx (.own x)) x (.ins C dx [])) (fun v H2=>v=.bX/\Q (.ref x) H2) E
def Binds (K:Frag) (fd:FuncData) (ps:List Str) (ds:List Value):Prop :=
 ∀(s:Shared) (us:List Value),K.In s.heap->(us++ds).length=ps.length->BindsTo s fd ⟨us,[]⟩ (ps.zip (us++ds))
def Binds.all {K:Frag}{fd:FuncData}{ps:List Str} (h:∀us:List Value,us.length=ps.length->bindArgs fd ⟨us,[]⟩=pure (ps.zip us)):Binds K fd ps []:=fun s us _ hl=>by
 rw [List.append_nil] at hl ⊢;exact .of_eq (h us hl)
def Passes (CX:M0) (X:Cx) (E:XK):Prop:=∀(pins:List (Addr×Obj)) (U:St) (H:Hp) (s:Shared) (e:Value) (s':Shared),Inv X pins U H s->CX X.stack H s E e s'->X.xe e s'
section
variable {X:Cx}{CX:M0}{k:Nat}{f C:Addr}{fd:FuncData}{ps:List Str}{sp:Sp}{Cd:List V}{ds:List Value}{E:XK}{x m:Str}{p pos apos:Pos}{e o:Expr}{es:List Expr}{ta:TE}{t:TA}
def IC {pins:List (Addr×Obj)}{U:St}{H:Hp}{s:Shared}{Q:VK}{us:List Value}{vs:List V} (F:cM X.prog X.w X.K X.mg X.base CX k f fd ps sp) (hr:fG k X.A) (hb:Binds X.K fd ps ds) (hd:Vals Cd ds) (hx:Passes CX X E)
  (I:Inv X pins U H s) (r:Vals vs us) (h:sp (vs++Cd) H Q E):wpAny (model X.prog X.w) X.A (call (.ref f) us) (EP X pins U Q) X.xe s:=by
 have r2:Vals (vs++Cd) (us++ds):=r.append hd;have hl:(us++ds).length=ps.length:=by rw [<-r2.length];exact F.len _ _ _ _ h
 refine wpAny_call (codeAny_mono (F.run X.A X.stack s H ⟨us,[]⟩ (us++ds) (vs++Cd) Q E hr I.Uq (hb s us I.Gd hl) r2 h) fun r s' hq=>?_);cases r with
 | error e=>exact hx pins U H s e s' I hq
 | ok fl =>
  cases fl with
  | ret u=>exact I.after hq
  | next=>exact False.elim hq
  | brk=>exact False.elim hq
  | cont=>exact False.elim hq
def Ec (F:cM X.prog X.w X.K X.mg X.base CX k f fd ps sp) (hr:fG k X.A) (hg:Gl X x) (hm:X.mg x=some (.ref f)) (hk:keepIn X.K (.ref f)=true) (hb:Binds X.K fd ps ds) (hd:Vals Cd ds) (hx:Passes CX X E)
  (ha:PA X (e::es) t) (zg:(x==("__debug__":Str))=false:=by decide) (he:starEach (e::es) X.env=(false,eval e X.env)::starEach es X.env:=by rfl) (lL:(backTo pos (starEach es X.env)).any (·.1)=false:=by rfl) :
  PE X (.Call (.Name x p) (e::es) [] pos) (Xn sp Cd E t):=by
 intro pins s U H Q I h;refine wpAny_Call_Name_kw (t8 I hg hm ?_ zg);refine PySem.W.callWith_K (h₀:=X.base) I.ok.mod.MX hk (gy (ha pos pins s U H _ I h) fun us s1 ⟨vs,H1,I1,r,q⟩=>⟨I1.Gd,?_⟩) he lL;exact IC F hr hb hd hx I1 r q
def Ki {pl:Sem Bool} (he:PE X o ta) (c:Au X.K C) (hm:Meth X.K C m f) (F:cM X.prog X.w X.K X.mg X.base CX k f fd ps sp) (hr:fG k X.A) (hb:Binds X.K fd ps ds) (hd:Vals Cd ds) (hx:Passes CX X E) (ha:PA X (e::es) t)
  (mz:starEach (e::es) X.env=(false,eval e X.env)::starEach es X.env:=by rfl) (lL:(backTo pos (starEach es X.env)).any (·.1)=false:=by rfl)
  (ht:eval (.Call (.Attribute o m apos) (e::es) [] pos) X.env=(do
   let ov <-eval o X.env
   standAt apos.atName
   let (f,first) <-holding [ov] (getMethod ov m pl)
   callWith pos f first (backTo pos (starEach (e::es) X.env)) (backToKw pos (keywordEach [] X.env))):=by rfl) :
  PE X (.Call (.Attribute o m apos) (e::es) [] pos) (SY C m sp Cd E ta t):=by
 intro pins s U H Q I h;refine PySem.W.methodCall_KW (pl:=pl) (gy (he pins s U H _ I h) fun u s1 ⟨x,H1,I1,rx,a,dx,fs,ex,ea,l,q⟩=>?_) ht;subst ex;obtain rfl : u=Value.ref a:=rx;refine Av I1 ea c hm l ?_;refine PySem.W.callWith_K (first:=[.ref a]) (h₀:=X.base) I.ok.mod.MX hm.kp (gy (ha pos pins s1 U H1 _ I1 q) fun us s2 ⟨vs,H2,I2,r,q2⟩=>⟨I2.Gd,?_⟩) mz lL;exact IC (us:=.ref a::us) (vs:=.ref a::vs) F hr hb hd hx I2 (.cons rfl r) q2
def Gj {pl:Sem Bool} (he:PE X o ta) (c:Au X.K C) (hm:Meth X.K C m f) (F:cM X.prog X.w X.K X.mg X.base CX k f fd ps sp) (hr:fG k X.A) (hb:Binds X.K fd ps ds) (hd:Vals Cd ds) (hx:Passes CX X E)
  (ht:eval (.Call (.Attribute o m apos) [] [] pos) X.env=(do
   let ov <-eval o X.env
   standAt apos.atName
   let (f,first) <-holding [ov] (getMethod ov m pl)
   callWith pos f first (backTo pos (starEach [] X.env)) (backToKw pos (keywordEach [] X.env))):=by rfl) :
  PE X (.Call (.Attribute o m apos) [] [] pos) (SY C m sp Cd E ta Xl):=by
 intro pins s U H Q I h;refine PySem.W.methodCall_KW (pl:=pl) (gy (he pins s U H _ I h) fun u s1 ⟨x,H1,I1,rx,a,dx,fs,ex,ea,l,q⟩=>?_) ht;subst ex;obtain rfl : u=Value.ref a:=rx;refine Av I1 ea c hm l ?_;exact PySem.W.callWith_K0 (first:=[.ref a]) I1.Gd hm.kp (IC (us:=[.ref a]) (vs:=[.ref a]) F hr hb hd hx I1 (.cons rfl .nil) q)
structure Mk (K:Frag) (C f:Addr):Prop where
 makes:makesIn K C=true
 init:findIn K (.ref C) "__init__"=some (some (.ref f))
 fn:isFn K (.ref f)=true
 kp:keepIn K (.ref C)=true
def Nt {pins:List (Addr×Obj)}{U:St}{H:Hp}{s:Shared}{Q:VK}{us:List Value}{vs:List V} (M:Mk X.K C f) (F:cM X.prog X.w X.K X.mg X.base CX k f fd ps sp) (hr:fG (k+1) X.A) (hb:Binds X.K fd ps ds) (hd:Vals Cd ds)
  (hx:Passes CX X E) (I:Inv X pins U H s) (r:Vals vs us)
  (h:∀x dx,H x=none->H dx=none->dx≠x->sp (.ref x::(vs++Cd)) (upd (upd H dx (.own x)) x (.ins C dx [])) (fun v H2=>v=.bX/\Q (.ref x) H2) E) :
  wpAny (model X.prog X.w) X.A (call (.ref C) us) (EP X pins U Q) X.xe s:=by
 have hq:=h (s.heap.objs.size+1) s.heap.objs.size (I.dD.fresh (cf _)) (I.dD.fresh (ao _)) (aP (Nat.lt_succ_self _));have I2:=Inv.made (C:=C) I;have r2:Vals (V.ref (s.heap.objs.size+1)::(vs++Cd)) (Value.ref (s.heap.objs.size+1)::(us++ds)):=.cons rfl (r.append hd);have hl:(Value.ref (s.heap.objs.size+1)::us++ds).length=ps.length:=by
  have e:=r2.length;rw [F.len _ _ _ _ hq] at e;exact e.symm
 refine wpAny_call (Np (f:=f) I.Gd M.makes M.init (cJ.mp M.fn) (codeAny_mono (F.run _ X.stack _ _ ⟨Value.ref (s.heap.objs.size+1)::us,[]⟩ (Value.ref (s.heap.objs.size+1)::(us++ds)) _ _ E (hr.make C us [])
  (I2.Uq.make C us []) (hb _ (Value.ref (s.heap.objs.size+1)::us) I2.Gd hl) r2 hq) fun r s' hq'=>?_))
 cases r with
 | error e=>exact hx pins U _ _ e s' I2 hq'
 | ok fl =>
  cases fl with
  | ret u =>
   obtain ⟨v,H',I3,rv,ev,q3⟩:=I2.after hq';subst ev;exact ⟨rv,⟨V.ref (s.heap.objs.size+1),H',I3,rfl,q3⟩⟩
  | next=>exact False.elim hq'
  | brk=>exact False.elim hq'
  | cont=>exact False.elim hq'
def QF (M:Mk X.K C f) (F:cM X.prog X.w X.K X.mg X.base CX k f fd ps sp) (hr:fG (k+1) X.A) (hg:Gl X x) (hm:X.mg x=some (.ref C)) (hb:Binds X.K fd ps ds) (hd:Vals Cd ds) (hx:Passes CX X E)
  (ha:PA X (e::es) t) (zg:(x==("__debug__":Str))=false:=by decide) (he:starEach (e::es) X.env=(false,eval e X.env)::starEach es X.env:=by rfl) (lL:(backTo pos (starEach es X.env)).any (·.1)=false:=by rfl) :
  PE X (.Call (.Name x p) (e::es) [] pos) (Xo C sp Cd E t):=by
 intro pins s U H Q I h;refine wpAny_Call_Name_kw (t8 I hg hm ?_ zg);refine PySem.W.callWith_K (h₀:=X.base) I.ok.mod.MX M.kp (gy (ha pos pins s U H _ I h) fun us s1 ⟨vs,H1,I1,r,q⟩=>⟨I1.Gd,?_⟩) he lL;exact Nt M F hr hb hd hx I1 r q
end
section
variable {X:Cx}{CX:M0}{k:Nat}{f C:Addr}{fd:FuncData}{ps ks:List Str}{sp:Sp}{E:XK}{x m:Str}{p pos apos kpos:Pos}{e o:Expr}{es:List Expr}{kws:List Keyword}{te ta:TE}{t tk:TA}{nm:Option Str}
variable {g:List Value->List Value->List Value}{gV:List V->List V->List V}
end
structure bx (N P:List Str) (sc:Scope):Prop where
 kind:sc.kind=.function
 co:sc.isCoroutine=false
 gen:sc.isGenerator=false
 nd:N.Nodup
 pre:N.take P.length=P
 par:∀x∈P,sc.names.lookup x=some .local\/sc.names.lookup x=some .cell
 Ur:∀y∈sc.names,y.2≠.free
theorem C1 {kindOf:Str->Option NameKind}{x:Str}:∀{binds:List (Str×Value)}{m:Str->Option Value},(∀v,(x,v)∉binds)->bindL kindOf binds m x=m x
 | [],_,_=>rfl
 | (n,v)::r,m,h=>by
  unfold bindL;rw [C1 fun w hw=>h w (List.mem_cons_of_mem _ hw)]
  split
  ·have:x≠n:=by rintro rfl;exact h v aj
   simp [this]
  ·rfl
theorem C2 {kindOf:Str->Option NameKind}{x:Str}:∀{binds:List (Str×Value)}{m:Str->Option Value},(∀v,(x,v)∉binds)->bindC kindOf binds m x=m x
 | [],_,_=>rfl
 | (n,v)::r,m,h=>by
  unfold bindC;rw [C2 fun w hw=>h w (List.mem_cons_of_mem _ hw)]
  split
  ·rfl
  ·have:x≠n:=by rintro rfl;exact h v aj
   simp [this]
theorem C3 {kindOf:Str->Option NameKind}{x:Str}{v:Value}:∀{P:List Str}{vs:List Value}{i:Nat}{m:Str->Option Value},P.Nodup->P[i]?=some x->vs[i]?=some v->kindOf x=some .local ->
  bindL kindOf (P.zip vs) m x=some v
 | [],_,_,_,_,h,_,_=>by simp at h
 | _::_,[],_,_,_,_,h,_=>by simp at h
 | p::P,w::vs,0,m,nd,h1,h2,hk=>by
  simp at h1 h2;subst h1;subst h2;show bindL kindOf ((p,w)::P.zip vs) m p=_;unfold bindL;rw [C1 fun v hv=>(List.nodup_cons.mp nd).1 (List.of_mem_zip hv).1,if_pos hk];simp
 | p::P,w::vs,i+1,m,nd,h1,h2,hk=>by
  show bindL kindOf ((p,w)::P.zip vs) m x=_;unfold bindL;exact C3 (i:=i) (List.nodup_cons.mp nd).2 (by simpa using h1) (by simpa using h2) hk
theorem C4 {kindOf:Str->Option NameKind}{x:Str}{v:Value}:∀{P:List Str}{vs:List Value}{i:Nat}{m:Str->Option Value},P.Nodup->P[i]?=some x->vs[i]?=some v->kindOf x≠some .local ->
  bindC kindOf (P.zip vs) m x=some v
 | [],_,_,_,_,h,_,_=>by simp at h
 | _::_,[],_,_,_,_,h,_=>by simp at h
 | p::P,w::vs,0,m,nd,h1,h2,hk=>by
  simp at h1 h2;subst h1;subst h2;show bindC kindOf ((p,w)::P.zip vs) m p=_;unfold bindC;rw [C2 fun v hv=>(List.nodup_cons.mp nd).1 (List.of_mem_zip hv).1,if_neg hk];simp
 | p::P,w::vs,i+1,m,nd,h1,h2,hk=>by
  show bindC kindOf ((p,w)::P.zip vs) m x=_;unfold bindC;exact C4 (i:=i) (List.nodup_cons.mp nd).2 (by simpa using h1) (by simpa using h2) hk
noncomputable def start (N:List Str) (vs:List V):St:=vs.map some++List.replicate (N.length-vs.length) none
noncomputable def mB (CX:M0) (P:Program) (w:World) (K:Frag) (mg:Str->Option Value) (base:Heap) (N:List Str) (qual:Str) (scope:Scope) (f:Addr) (cd:Value) (A:Around) (outer:List Env) (s:Shared) (H:Hp) (E:XK):Cx where
 prog:=P
 w:=w
 K:=K
 mg:=mg
 base:=base
 A:=A.deeper (envOfC qual scope s.heap.objs.size f cd)
 N:=N
 s₀:=s
 H₀:=H
 env:=envOfC qual scope s.heap.objs.size f cd
 outer:=outer
 stack:=envOfC qual scope s.heap.objs.size f cd::outer
 ex:=[]
 calm:=true
 fn:=fun _=>true
 pn:=[]
 xe:=fun e s'=>wpAny (model P w) (A.deeper (envOfC qual scope s.heap.objs.size f cd)) (leaving (envOfC qual scope s.heap.objs.size f cd) e) (fun _ s''=>CX outer H s E e s'') (fun e' s''=>CX outer H s E e' s'') s'
def Gk {sc:Scope}{n:Nat}{x:Str} (h:sc.names.lookup x=some .cell):∃c,(cellsFrom n sc.names []).lookup x=some c:=by
 have q:=PySem.W.cellsFrom_some sc.names n [] (.inl h);exact Option.isSome_iff_exists.mp q
def C5 {CX:M0}{P:Program}{w:World}{K:Frag}{mg:Str->Option Value}{base:Heap}{N ps:List Str}{qual:Str}{scope:Scope}{f:Addr}{cd:Value}{A:Around}{outer:List Env}{s s1:Shared}{H:Hp}{E:XK}{us:List Value}{vs:List V}
  (S:bx N ps scope) (hd:A.handled=none) (e0:Aw P w K mg base A outer s H) (hl:vs.length=ps.length) (r:Vals vs us)
  (x:InCallC s s.heap.objs.size (bindL (envOfC qual scope s.heap.objs.size f cd).kindOf (ps.zip us) fun _=>none) (cellsFrom (s.heap.objs.size+1) scope.names []) (bindC (envOfC qual scope s.heap.objs.size f cd).kindOf (ps.zip us) fun _=>none) s1) :
  Inv (mB CX P w K mg base N qual scope f cd A outer s H E) [] (start N vs) H s1:=by
 have lL:ps.length<=N.length:=by have:=congrArg List.length S.pre;rw [List.length_take] at this;omega
 obtain ⟨h1,tk,rfl,hk⟩:=x.done;have Xp:∀b:Addr,b∉(mB CX P w K mg base N qual scope f cd A outer s H E).ex:=fun b z=>absurd (show b∈([]:List Addr) from z) (by simp)
 refine ⟨⟨e0.mod,S.kind,rfl,rfl,ao _,fun y z c h1 h2=>?_,fun y hy=>?_,fun y c _ h=>?_,fun _=>hd,Around.frames_deeper e0.frames,.inr ⟨rfl,rfl⟩,fun b z=>absurd z (Xp b),e0.bs,e0.FW,fun b _ _=>Xp b,fun b z=>absurd z (Xp b),e0.oN,e0.Im⟩,
  rfl,e0.bare,Un.kept hk,⟨_,x.toInCall.ns,fun i y v h1 h2 h3=>?_⟩,fun y c h=>⟨_,x.cell y c h⟩,e0.dD.fresh (ao _),fun y c h=>?_,fun p hp=>absurd (show p∈([]:List (Addr×Obj)) from hp) (by simp),e0.dD.kept hk,?_⟩
 ·exact name_of_addr x.apart (bJ h1) (bJ h2)
 ·have hy:scope.names.lookup y=some .cell\/scope.names.lookup y=some .free:=hy
  rcases hy with hy | hy
  ·exact Gk hy
  ·exact absurd rfl (S.Ur _ (bJ hy))
 ·exact bj (x.above y c (bJ h))
 ·have hi:i<vs.length:=by
   unfold start at h2
   by_cases hi:i<vs.length
   ·exact hi
   ·rw [List.getElem?_append_right (by simpa using hi)] at h2
    rw [List.getElem?_replicate] at h2
    split at h2 <;> cases h2
  have ha:vs[i]?=some v:=by
   unfold start at h2;rw [List.getElem?_append_left (by simpa using hi),List.getElem?_map] at h2;cases e:vs[i]? with
   | none=>rw [e] at h2;cases h2
   | some a=>rw [e] at h2;cases h2;rfl
  obtain ⟨u,hu,rv⟩:=r.get ha;have hp:ps[i]?=some y:=by
   rw [<-S.pre,List.getElem?_take_of_lt (by omega)];exact h1
  have ndP:ps.Nodup:=by rw [<-S.pre];exact S.nd.sublist (List.take_sublist _ _)
  refine ⟨u,rv,?_⟩;rcases S.par y (bf hp) with k | k
  ·exact .inl ⟨k,C3 ndP hp hu k⟩
  ·obtain ⟨c,e⟩:=Gk (n:=s.heap.objs.size+1) k
   refine .inr ⟨.inl k,c,e,?_⟩;have q:=x.cell y c e;rw [C4 ndP hp hu (by show scope.names.lookup y≠_;rw [k];decide)] at q;exact q
 ·exact e0.dD.fresh (bj (x.above y c (bJ h)))
 ·unfold start
  show _=N.length;rw [List.length_append,List.length_map,List.length_replicate];omega
def Nu {CX:M0}{P:Program}{w:World}{K:Frag}{mg:Str->Option Value}{base:Heap}{k:Nat}{f:Addr}{name qual:Str}{params:Arguments}{body:List Stmt}{scope:Scope}{dV kV doc pm dM ct oc:Value}{an od:Option Addr}
  {Nv:Array (Option Value)}{N ps:List Str}{sp:Sp} (lk:K.lookup f=some ⟨oc,od,.func (fnOf name qual params body scope dV kV doc pm an dM ct),Nv⟩) (gL:codeIn K dM qual=true) (S:bx N ps scope)
  (len:∀vs H Q E,sp vs H Q E->vs.length=ps.length)
  (mX:∀(A:Around) (outer:List Env) (s:Shared) (H:Hp) (vs:List V) (Q:VK) (E:XK),fG k (A.deeper (envOfC qual scope s.heap.objs.size f dM))->sp vs H Q E ->
   ∃t,Gf (mB CX P w K mg base N qual scope f dM A outer s H E) body t/\t { nx:=fun _ H'=>Q .bX H',rt:=Q } (start N vs) H) :
  cM P w K mg base CX (k+1) f (fnOf name qual params body scope dV kV doc pm an dM ct) ps sp:=by
 refine ⟨len,fun A outer s H args us vs Q E hr e0 hb r S0=>?_⟩;have hl:=len _ _ _ _ S0;have KX:K.In s.heap:=e0.mod.MX.keeps fun b o e=>(e0.bs b o e).1
 have lim:s.heap.NoLimit:=e0.mod.nolimit.keeps fun b o e=>(e0.bs b o e).1
 have Gm:∀y∈ps.zip us,scope.names.lookup y.1=some .local\/(scope.names.lookup y.1=some .cell/\((cellsFrom (s.heap.objs.size+1) scope.names []).lookup y.1).isSome=true):=fun ⟨n,v⟩ hy=>by
  rcases S.par n (List.of_mem_zip hy).1 with q | q
  ·exact .inl q
  ·exact .inr ⟨q,PySem.W.cellsFrom_some _ _ _ (.inl q)⟩
 refine codeAny_call_function hr.depth (KX _ _ lk) rfl S.co S.gen rfl (PySem.W.codeRec_of KX gL) (hb _ _ _ _ ?_);refine wpAny_newFunctionEnv_cells S.kind Gm fun env he s1 x=>?_
 subst he;refine ⟨lim.keeps x.toInCall.keep,codeAny_func ?_⟩;obtain ⟨t,ht,hq⟩:=mX A outer s H vs Q E (hr.deeper _) S0;have I:Inv (mB CX P w K mg base N qual scope f dM A outer s H E) [] (start N vs) H s1:=C5 S hr.hd e0 hl r x;refine aV (ht [] s1 (start N vs) H _ I hq) (fun fl s' hs=>?_) fun e s' hs=>hs
 have fin:∀{U':St}{H':Hp}{v:V}{u:Value},Inv (mB CX P w K mg base N qual scope f dM A outer s H E) [] U' H' s'->RelV v u->Q v H'->CE outer P w H s Q u s' :=
  fun {U' H' v u} J rv q=>⟨v,H',J.os,J.bare,J.base,J.dD,rv,q⟩
 cases fl with
 | ret u =>
  obtain ⟨v,U',H',J,rv,q⟩:=hs;exact fin J rv q
 | next =>
  have ⟨U',H',J,q⟩:=hs;exact fin (v:=V.bX) (u:=Value.none) J rfl q
 | brk =>
  have ⟨_,_,_,q⟩:=hs;exact False.elim q
 | cont =>
  have ⟨_,_,_,q⟩:=hs;exact False.elim q
section
variable {X:Cx}{x:Str}{p pos:Pos}{e:Expr}{es:List Expr}{t:TA}{id T:String}{r:List V->Hp->VK->Prop}
def ZZ (r:List V->Hp->VK->Prop) (t:TA):TE:=fun U H Q=>t U H fun vs H1=>r vs H1 Q
def oP (hc:fU X (.builtin id) r) (hg:Gl X x) (hm:X.mg x=none) (hv:bootBuiltins x=some (.builtin id)) (ha:PA X (e::es) t) (hn:x≠"__name__":=by decide) (zg:(x==("__debug__":Str))=false:=by decide)
  (he:starEach (e::es) X.env=(false,eval e X.env)::starEach es X.env:=by rfl) (lL:(backTo pos (starEach es X.env)).any (·.1)=false:=by rfl):PE X (.Call (.Name x p) (e::es) [] pos) (ZZ r t):=by
 intro pins s U H Q I h;refine wpAny_Call_Name_kw (An I hg hm hv ?_ hn zg);exact PyProof.Rows.callWith_builtin1 (gy (ha pos pins s U H _ I h) fun us s1 ⟨vs,H1,I1,r1,q1⟩=>hc pins s1 U H1 vs us Q I1 r1 q1) he lL
def ua (hc:fU X (.type T) r) (hg:Gl X x) (hm:X.mg x=none) (hv:bootBuiltins x=some (.type T)) (ha:PA X (e::es) t) (hn:x≠"__name__":=by decide) (zg:(x==("__debug__":Str))=false:=by decide)
  (he:starEach (e::es) X.env=(false,eval e X.env)::starEach es X.env:=by rfl) (lL:(backTo pos (starEach es X.env)).any (·.1)=false:=by rfl):PE X (.Call (.Name x p) (e::es) [] pos) (ZZ r t):=by
 intro pins s U H Q I h;refine wpAny_Call_Name_kw (An I hg hm hv ?_ hn zg);exact PyProof.Rows.callWith_type1 (gy (ha pos pins s U H _ I h) fun us s1 ⟨vs,H1,I1,r1,q1⟩=>hc pins s1 U H1 vs us Q I1 r1 q1) he lL
end
end L2
namespace HT
open PySem PyProof.Rows
section
open PySem.SeqAt
open PySem.AutoSeq1 (wpAny_loadPart')
open PySem.MeetsSeq PySem.MeetsSeq2 PySem.MeetsSeq3
end
section
variable {prog:Program}{w:World}{A:Around}{E:Value->Shared->Prop}{s:Shared}
def QG {t b:Addr}{vs ws:List Value}{Q:Value->Shared->Prop} (ht:IsTup s.heap t vs.toArray) (hb:IsTup s.heap b ws.toArray) (hv:vs≠[])
  (h1:ws=[]->Q (.ref t) s) (h2:ws≠[]->Q (.ref s.heap.objs.size) { s with heap:=s.heap.push { cls:=.type "tuple",data:=.seq (vs++ws).toArray } })
  (hsz:vs.length+ws.length<=sizeLine):wpAny (model prog w) A (binaryOp .Add (.ref t) (.ref b)) Q E s:=by
 obtain ⟨⟨cls,dd,data,sl⟩,ho,hc,n,hd⟩:=id ht;obtain ⟨⟨Us,M3,data2,S1⟩,Ql,ID,n2,hd2⟩:=id hb;simp only at hc hd ID hd2;subst hc hd ID hd2;have e:vs.toArray++ws.toArray=(vs++ws).toArray:=by simp
 by_cases hw:ws=[]
 ·exact concat_meets ⟨_,ho,rfl⟩ ⟨_,Ql,rfl⟩ noFill_tuple_add seq_tuple_add PySem.F.slot_tuple_add PySem.F.entry_tuple_add (PySem.F.args_tuple_add_2 _ _)
   (tuple_addW1 t b vs.toArray ws.toArray n n2 dd M3 sl S1 (by simpa using hv) (by simp [hw])) ⟨ho,Ql,h1 hw⟩
 ·refine concat_meets ⟨_,ho,rfl⟩ ⟨_,Ql,rfl⟩ noFill_tuple_add seq_tuple_add PySem.F.slot_tuple_add PySem.F.entry_tuple_add (PySem.F.args_tuple_add_2 _ _)
   (tuple_addW2 t b vs.toArray ws.toArray n n2 dd M3 sl S1 (by simpa using hv) (by simpa using hw) (by rw [List.size_toArray,List.size_toArray];exact hsz)) ⟨ho,Ql,?_⟩
  rw [e];exact h2 hw
noncomputable def iN (n d:Nat):Option Int->Nat
 | none=>d
 | some v=>if v<0 then (v+(n:Int)).toNat else min v.toNat n
def Ut (n d:Nat) (hd:d<=n) (o:Option Int):iN n d o<=n:=by
 cases o with
 | none=>exact hd
 | some v =>
  show (if v<0 then (v+(n:Int)).toNat else min v.toNat n)<=n
  by_cases hv:v<0
  ·rw [if_pos hv];omega
  ·rw [if_neg hv];exact Nat.min_le_right _ _
def Kj (v:Int) (n d:Nat):(if v<0 then max (v+(n:Int)) 0 else min v (n:Int))=((iN n d (some v):Nat):Int):=by
 show (if v<0 then max (v+(n:Int)) 0 else min v (n:Int))=(((if v<0 then (v+(n:Int)).toNat else min v.toNat n):Nat):Int)
 by_cases hv:v<0
 ·simp only [if_pos hv];omega
 ·simp only [if_neg hv];omega
def IE (lo hi:Option Int) (n:Nat):Builtin.Slice.sliceAdjust lo hi 1 (n:Int)=(((iN n 0 lo:Nat):Int),((iN n n hi:Nat):Int)):=by
 have h1:¬((1:Int)<0):=by omega
 unfold Builtin.Slice.sliceAdjust;simp only [h1,if_false];refine Prod.ext ?_ ?_
 ·cases lo with
  | none=>rfl
  | some v=>exact Kj v n 0
 ·cases hi with
  | none=>rfl
  | some v=>exact Kj v n n
def IF (i j:Nat):Builtin.Slice.slicePlaces (i:Int) (j:Int) 1=j-i:=by
 unfold Builtin.Slice.slicePlaces;have h1:(1:Int)>0:=by omega
 simp only [h1,if_true,Int.ediv_one]
 split <;> omega
def Ay {v:Value}{o:Option Int}{Q:Option Int->Shared->Prop} (p:IsPart v o) (h:Q o s):wpAny (model prog w) A (Builtin.Slice.slicePartIndex v) Q E s:=by
 cases p with
 | none=>exact slicePart_none h
 | int i t=>exact slicePart_int h
def oQ {sl:Addr}{vl vu:Value}{lo hi:Option Int}{n:Nat}{Q:Int×Int×Nat->Shared->Prop} (hs:s.heap.IsSliceOf sl vl vu .none) (pl:IsPart vl lo) (pu:IsPart vu hi)
  (h:Q (((iN n 0 lo:Nat):Int),1,iN n n hi-iN n 0 lo) s):wpAny (model prog w) A (Builtin.Slice.sliceApplied (.ref sl) (pure (n:Int))) Q E s:=by
 obtain ⟨os,Xq,hcs,Y4⟩:=id hs;unfold Builtin.Slice.sliceApplied Builtin.Slice.sliceFields;refine aa (aa (wpAny_field Xq Y4 (x:=vl) rfl (aa (wpAny_field Xq Y4 (x:=vu) rfl (aa (wpAny_field Xq Y4 (x:=.none) rfl (ag ?_)))))));refine aa (slicePart_none ?_);show wpAny _ _ (if ((1:Int)==0)=true then _ else _) _ _ s;rw [if_neg (by decide)];refine aa (Ay pl (aa (Ay pu (aa (ag ?_)))));show wpAny _ _ (match Builtin.Slice.sliceAdjust lo hi 1 (n:Int) with | (lo,hi)=>pure (lo,(1:Int),Builtin.Slice.slicePlaces lo hi 1)) _ _ s;rw [IE lo hi n];show wpAny _ _ (pure (((iN n 0 lo:Nat):Int),(1:Int),Builtin.Slice.slicePlaces ((iN n 0 lo:Nat):Int) ((iN n n hi:Nat):Int) 1)) _ _ s;rw [IF];exact ag h
def Nw (xs:Array Value) (i k:Nat):((List.range k).filterMap fun (m:Nat)=>xs[((i:Int)+(m:Int) * 1).toNat]?).toArray=((xs.toList.drop i).take k).toArray:=by
 have e:(fun (m:Nat)=>xs[((i:Int)+(m:Int) * 1).toNat]?)=fun m=>xs[i+m]?:=by
  funext m
  have:((i:Int)+(m:Int) * 1).toNat=i+m:=by omega
  rw [this]
 rw [e];have:=pick_run xs i k;rw [List.filterMap_map] at this;have e2:((fun x=>xs[x]?) ∘ fun x=>i+x)=fun m=>xs[i+m]?:=rfl
 rw [e2] at this;rw [this]
def v8 {t sl:Addr}{items:Array Value}{vl vu:Value}{lo hi:Option Int}{Q:Value->Shared->Prop} (ht:IsTup s.heap t items) (hs:s.heap.IsSliceOf sl vl vu .none) (pl:IsPart vl lo) (pu:IsPart vu hi)
  (hw:¬(iN items.size 0 lo=0/\iN items.size items.size hi=items.size))
  (h:Q (.ref s.heap.objs.size) { s with heap:=s.heap.push { cls:=.type "tuple",data:=.seq ((items.toList.drop (iN items.size 0 lo)).take (iN items.size items.size hi-iN items.size 0 lo)).toArray } })
  (hsz:items.size<=sizeLine):wpAny (model prog w) A (getItem (.ref t) (.ref sl)) Q E s:=by
 have Kk:sizeOk (.seq ((items.toList.drop (iN items.size 0 lo)).take (iN items.size items.size hi-iN items.size 0 lo)).toArray):=by
  show ((items.toList.drop (iN items.size 0 lo)).take (iN items.size items.size hi-iN items.size 0 lo)).toArray.size<=sizeLine;rw [List.size_toArray,List.length_take,List.length_drop,Array.length_toList];omega
 have hj:iN items.size items.size hi<=items.size:=Ut _ _ (ao _) hi;obtain ⟨os,Xq,hcs,Y4⟩:=id hs;have hTs:s.TypeIs (.ref sl) "slice":=⟨os,Xq,hcs⟩;unfold getItem
 try with_reducible refine bW ?_
 first | refine aa (ag ?_) | skip
 refine aa (wpAny_sequenceKey ht.typeIs (by decide) ?_);refine aa (cj (name:=Str.ofString "__getitem__") ht.typeIs bH
  (bI bH ht.typeIs entry_tuple_getitem ?_ (args_tuple_getitem _ _)))
 show wpAny _ _ (Builtin.Tuple.tupleItemsOf (.ref t) >>= _) _ _ s;refine aa (tupleItemsOf_ ht ?_);refine aa (wpAny_typeOf hTs ?_);rw [if_pos (by decide)];refine aa (oQ hs pl pu ?_);have Z0:¬((((iN items.size 0 lo:Nat):Int)==0&&(1:Int)==1&&(iN items.size items.size hi-iN items.size 0 lo)==items.size)=true):=by
  intro q;rw [Bool.and_eq_true,Bool.and_eq_true] at q;have q1:((iN items.size 0 lo:Nat):Int)=0:=eq_of_beq q.1.1;have q2:iN items.size items.size hi-iN items.size 0 lo=items.size:=eq_of_beq q.2;exact hw ⟨by omega,by omega⟩
 show wpAny _ _ (if (((iN items.size 0 lo:Nat):Int)==0&&(1:Int)==1&&(iN items.size items.size hi-iN items.size 0 lo)==items.size)=true then _ else _) _ _ s;rw [if_neg Z0,Nw]
 first
  | exact aa (m:=Builtin.Tuple.tupleExact _) (aZ (ag ⟨_,rfl,ag h⟩) Kk)
  | exact aa (m:=Builtin.Tuple.tupleExact _) (aZ (aa (ag (ag ⟨_,rfl,ag h⟩))) Kk)
  | exact aa (aa (m:=Builtin.Tuple.tupleExact _) (aZ (ag (ag ⟨_,rfl,ag h⟩)) Kk))
  | exact aa (aa (m:=Builtin.Tuple.tupleExact _) (aZ (ag ⟨_,rfl,ag h⟩) Kk))
end
end HT
namespace L2
open PySem PySem.Spec PyProof.Rows
abbrev TO:=St->Hp->(Option Int->Hp->Prop)->Prop
def PO (X:Cx) (e:Option Expr) (t:TO):Prop :=
 ∀(pins:List (Addr×Obj)) (s:Shared) (U:St) (H:Hp) (Q:Option Int->Hp->Prop),Inv X pins U H s->t U H Q ->
  wpAny (model X.prog X.w) X.A (evalPart e X.env) (fun u s'=>∃o H',Inv X pins U H' s'/\IsPart u o/\Q o H') X.xe s
def QH:TO:=fun _ H Q=>Q none H
def Xr (t:TE):TO:=fun U H Q=>t U H fun x H1=>∃i,x=.int i/\Q (some i) H1
def intsAre_of {ns:List Int}:∀{us:List Value},Vals (ns.map V.int) us->IntsAre us ns:=by
 induction ns with
 | nil=>intro us r;rw [List.map_nil] at r;cases r;exact .nil
 | cons n ns ih =>
  intro us r;rw [List.map_cons] at r;cases r with
  | cons r1 r2 =>
   obtain ⟨t,e⟩:=r1;subst e;exact .cons n t (ih r2)
section
variable {X:Cx}{e:Expr}{te:TE}{lo hi:Option Expr}{tl th:TO}{pos p2:Pos}
def QI:PO X none QH:=by
 intro pins s U H Q I h;rw [evalPart_none];exact ag ⟨none,H,I,.none,h⟩
def QJ (h:PE X e te):PO X (some e) (Xr te):=by
 intro pins s U H Q I hw;rw [evalPart_some];refine gy (h pins s U H _ I hw) fun u s1 ⟨x,H1,I1,r1,q1⟩=>?_
 obtain ⟨i,rfl,q⟩:=q1;obtain ⟨t,rfl⟩:=r1;exact ⟨some i,H1,I1,.int i t,q⟩
def Qm (X:Cx) (r:V->Option Int->Option Int->Hp->VK->Prop):Prop :=
 ∀(pins:List (Addr×Obj)) (s:Shared) (U:St) (H:Hp) (x:V) (v vl vu:Value) (lo hi:Option Int) (sl:Addr) (Q:VK),Inv X pins U H s->RelV x v->s.heap.IsSliceOf sl vl vu .none->IsPart vl lo->IsPart vu hi->r x lo hi H Q ->
  ∃T id,typeLookup (.type T) "__getitem__"=pure (some (.builtin id))/\s.TypeIs v T/\wpAny (model X.prog X.w) X.A (getItem v (.ref sl)) (EP X pins U Q) X.xe s
def tSl (r:V->Option Int->Option Int->Hp->VK->Prop) (te:TE) (tl th:TO):TE:=fun U H Q=>te U H fun x H1=>tl U H1 fun l H2=>th U H2 fun u H3=>r x l u H3 Q
def Nx {r:V->Option Int->Option Int->Hp->VK->Prop} (hr:Qm X r) (he:PE X e te) (hl:PO X lo tl) (hu:PO X hi th):PE X (.Subscript e (.Slice lo hi none p2) pos) (tSl r te tl th):=by
 intro pins s U H Q I h;refine Subscript_ (gy (he pins s U H _ I h) fun v s1 ⟨x,H1,I1,r1,q1⟩=>?_);refine wpAny_Slice (gy (hl pins s1 U H1 _ I1 q1) fun vl s2 ⟨l,H2,I2,pl,q2⟩=>gy (hu pins s2 U H2 _ I2 q2) fun vu s3 ⟨u,H3,I3,pu,q3⟩=>?_);rw [evalPart_none];refine ag ?_;have I4:Inv X pins U H3 { s3 with heap:=s3.heap.push { cls:=.type "slice",data:=.fields #[vl,vu,.none] } }:=I3.kept (t':=s3.toks) fun b ob q=>ai _ q
 obtain ⟨T,id,hT,ht,hg⟩:=hr pins { s3 with heap:=s3.heap.push { cls:=.type "slice",data:=.fields #[vl,vu,.none] } } U H3 x v vl vu l u s3.heap.objs.size Q I4 r1 (Heap.IsSliceOf.new ..) pl pu q3;show wpAny (model X.prog X.w) X.A (subscriptTail e (.Slice lo hi none p2) v (.ref s3.heap.objs.size)) (EP X pins U Q) X.xe { s3 with heap:=s3.heap.push { cls:=.type "slice",data:=.fields #[vl,vu,.none] } };exact tail_any (ops:=[.ref s3.heap.objs.size,v]) ht hT hg (by with_unfolding_all rfl)
noncomputable def Gn (xs:List V) (lo hi:Option Int):List V:=(xs.drop (HT.iN xs.length 0 lo)).take (HT.iN xs.length xs.length hi-HT.iN xs.length 0 lo)
def yt (xs:List V) (lo hi:Option Int):(Gn xs lo hi).length<=xs.length:=by
 unfold Gn;rw [List.length_take,List.length_drop];omega
def Z6 (K:Frag):V->Option Int->Option Int->Hp->VK->Prop:=fun x lo hi H Q=>∃a xs,x=.ref a/\rE K H a xs /\
 ¬(HT.iN xs.length 0 lo=0/\HT.iN xs.length xs.length hi=xs.length)/\∀p,H p=none->Q (.ref p) (upd H p (.tup (Gn xs lo hi)))
def Uu:Qm X (Z6 X.K):=by
 intro pins s U H x v vl vu lo hi sl Q I rx hs pl pu h;obtain ⟨a,xs,rfl,hx,hw,q⟩:=h;cases rx;obtain ⟨its,r,ht,hz⟩:=I.tuple hx;have hlen:its.toArray.size=xs.length:=by rw [List.size_toArray];exact r.length.symm
 refine ⟨"tuple",_,bH.lookup,ht.typeIs,?_⟩;refine HT.v8 ht hs pl pu (by rw [hlen];exact hw) ?_ (by rw [hlen];exact hz);rw [hlen];refine ⟨.ref s.heap.objs.size,_,I.laid (t':=s.toks) (o:=.tup (Gn xs lo hi)) (fun b ob q=>ai _ q) (ao _) ?_,rfl,q _ (I.dD.fresh (ao _))⟩;exact ⟨ay (yt xs lo hi) hz,_,(r.drop (HT.iN xs.length 0 lo)).take (HT.iN xs.length xs.length hi-HT.iN xs.length 0 lo),IsTup.new _ _⟩
def Ny (K:Frag):R2:=fun x y H Q=>∃a b xs ys,x=.ref a/\y=.ref b/\rE K H a xs/\rE K H b ys/\xs≠[]/\xs.length+ys.length<=sizeLine /\
 (ys=[]->Q (.ref a) H)/\(ys≠[]->∀p,H p=none->Q (.ref p) (upd H p (.tup (xs++ys))))
def Vals.Ed {xs:List V}{us:List Value} (r:Vals xs us):us=[]<->xs=[]:=by
 cases r with
 | nil=>simp
 | cons _ _=>simp
def QK:oO X (binaryOp .Add) (Ny X.K):=by
 intro pins s U H x y v u Q I rx ry h;obtain ⟨a,b,xs,ys,rfl,rfl,ha,hb,hx,hz,q1,q2⟩:=h;cases rx;cases ry;obtain ⟨its,r1,p1,_⟩:=I.tuple ha;obtain ⟨Cf,r2,p2,_⟩:=I.tuple hb;refine HT.QG p1 p2 (fun z=>hx (r1.Ed.mp z)) (fun z=>⟨.ref a,H,I,rfl,q1 (r2.Ed.mp z)⟩) (fun z=>?_) (by rw [<-r1.length,<-r2.length];exact hz);refine ⟨.ref s.heap.objs.size,_,I.laid (t':=s.toks) (o:=.tup (xs++ys)) (fun b ob q=>ai _ q) (ao _) ?_,rfl,q2 (fun w=>z (r2.Ed.mpr w)) _ (I.dD.fresh (ao _))⟩;exact ⟨by rw [List.length_append];exact hz,_,r1.append r2,IsTup.new _ _⟩
end
noncomputable def S2 (n:Nat) (i:Int):Option Nat:=if 0<=i then (if i<n then some i.toNat else none) else if -(n:Int)<=i then some (i+n).toNat else none
noncomputable def vU {α:Type} (xs:List α) (i:Int):Option α:=(S2 xs.length i).bind fun j=>xs[j]?
def QL {n:Nat}{i:Int}{j:Nat} (h:S2 n i=some j):seqIndex? i n=some j/\j<n/\-(n:Int)<=i/\i<n:=by
 unfold S2 at h
 by_cases h0:0<=i
 ·rw [if_pos h0] at h
  by_cases h1:i<n
  ·rw [if_pos h1] at h
   have e:i.toNat=j:=bt h;exact ⟨by rw [seqIndex_of h0 h1,e],by omega,by omega,h1⟩
  ·rw [if_neg h1] at h;cases h
 ·rw [if_neg h0] at h
  by_cases h1:-(n:Int)<=i
  ·rw [if_pos h1] at h
   have e:(i+n).toNat=j:=bt h;exact ⟨by rw [seqIndex_neg (by omega) h1,e],by omega,h1,by omega⟩
  ·rw [if_neg h1] at h;cases h
def Ee {α:Type}{xs:List α}{i:Int}{v:α} (h:vU xs i=some v):∃j,seqIndex? i xs.length=some j/\xs[j]?=some v/\j<xs.length/\-(xs.length:Int)<=i/\i<xs.length:=by
 unfold vU at h;cases e:S2 xs.length i with
 | none=>rw [e] at h;cases h
 | some j =>
  rw [e] at h;obtain ⟨h1,h2,h3,h4⟩:=QL e;exact ⟨j,h1,h,h2,h3,h4⟩
def pK {α:Type}{xs:List α}{j:Nat}{v:α} (h:xs[j]?=some v):vU xs (j:Int)=some v:=by
 have hj:j<xs.length:=(aK.mp h).1;have e:S2 xs.length (j:Int)=some j:=by
  unfold S2;rw [if_pos (by omega),if_pos (by omega)];simp
 unfold vU;rw [e];exact h
def zM (b:Expr):Prop:=∀o i,subscripted b false o i=operate [o,i] (getItem o i)
def Qn (X:Cx) (r:R2):Prop :=
 ∀(value slice:Expr) (pins:List (Addr×Obj)) (s:Shared) (U:St) (H:Hp) (x y:V) (v u:Value) (Q:VK),Inv X pins U H s->RelV x v->RelV y u->r x y H Q ->
  subscripted slice false v u=operate [v,u] (getItem v u)->wpAny (model X.prog X.w) X.A (subscriptTail value slice v u) (EP X pins U Q) X.xe s
def MtR (X:Cx) (id:String) (r:V->List V->Hp->VK->Prop):Prop :=
 ∀(pins:List (Addr×Obj)) (s:Shared) (U:St) (H:Hp) (x:V) (xs:List V) (v:Value) (us:List Value) (Q:VK),Inv X pins U H s->RelV x v->Vals xs us->r x xs H Q ->
  wpAny (model X.prog X.w) X.A (call (.builtin id) (v::us)) (EP X pins U Q) X.xe s
section
variable {X:Cx}{a b:Expr}{ta tb:TE}{pos:Pos}
def Qn.or {r r':R2} (h:Qn X r) (h':Qn X r'):Qn X (fun x y H Q=>r x y H Q\/r' x y H Q):=by
 intro value slice pins s U H x y v u Q I rx ry q hs;rcases q with q | q
 ·exact h value slice pins s U H x y v u Q I rx ry q hs
 ·exact h' value slice pins s U H x y v u Q I rx ry q hs
def Xs {r:R2} (hr:Qn X r) (ha:PE X a ta) (hb:PE X b tb) (hs:zM b):PE X (.Subscript a b pos) (Xh r ta tb):=by
 intro pins s U H Q I h;exact Subscript_ (Uc ha hb I h fun v u s2 x y H2 I2 rx ry q=>hr a b pins s2 U H2 x y v u Q I2 rx ry q (hs _ _))
def Xt (K:Frag):R2:=fun x y H Q=>∃p xs i v,x=.ref p/\y=.int i/\kC K H p xs/\vU xs i=some v/\Q v H
def Xu (K:Frag):R2:=fun x y H Q=>∃p xs i v,x=.ref p/\y=.int i/\rE K H p xs/\vU xs i=some v/\Q v H
def Xv:R2:=fun x y H Q=>∃z i c,x=.str z/\y=.int i/\z.length<=sizeLine/\vU z.cps.toList i=some c/\Q (.str ⟨#[c]⟩) H
def QM:Qn X (Xt X.K):=by
 intro value slice pins s U H x y v u Q I rx ry h hs;obtain ⟨p,xs,i,z,rfl,rfl,hq,he,q⟩:=h;cases rx;obtain ⟨t,rfl⟩:=ry;obtain ⟨its,r,pl,hz⟩:=I.list hq;obtain ⟨j,h1,h2,h3,h4,h5⟩:=Ee he;obtain ⟨w,ew,rw'⟩:=r.get h2;have hl:=r.length;have hn:=As;have fin:EP X pins U Q w s:=⟨z,H,I,rw',q⟩
 by_cases h0:0<=i
 ·have hj:i.toNat=j:=by
   rw [seqIndex_of h0 h5] at h1;exact bt h1
  exact item_listR pl.isList h0 (by omega) (by rw [hj];simpa using ew) fin hs
 ·have hj:(i+(its.toArray.size:Int)).toNat=j:=by
   rw [seqIndex_neg (by omega) h4] at h1;rw [List.size_toArray,<-hl];exact bt h1
  exact subscriptTail_builtinR (x:=w) pl.isList.typeIs slot_list_getitem.lookup
   (wpAny_getItem_list_neg (Q:=fun r s'=>r=w/\EP X pins U Q r s') pl.isList (by omega) (by rw [List.size_toArray] <;> omega) (by omega) (by rw [hj];simpa using ew) ⟨rfl,fin⟩) hs
def Uv:Qn X (Xu X.K):=by
 intro value slice pins s U H x y v u Q I rx ry h hs;obtain ⟨p,xs,i,z,rfl,rfl,hq,he,q⟩:=h;cases rx;obtain ⟨t,rfl⟩:=ry;obtain ⟨its,r,pl,hz⟩:=I.tuple hq;obtain ⟨j,h1,h2,h3,h4,h5⟩:=Ee he;obtain ⟨w,ew,rw'⟩:=r.get h2;have hl:=r.length;have hn:=As;have fin:EP X pins U Q w s:=⟨z,H,I,rw',q⟩;exact subscriptTail_builtinR (x:=w) pl.typeIs slot_tuple_getitem.lookup
  (getItem_tuple (j:=j) (Q:=fun r s'=>r=w/\EP X pins U Q r s') pl (by omega) (by omega) (by rw [List.size_toArray,<-hl];exact h1) (by simpa using ew) ⟨rfl,fin⟩) hs
def Uw:Qn X Xv:=by
 intro value slice pins s U H x y v u Q I rx ry h hs;obtain ⟨z,i,c,rfl,rfl,hz,he,q⟩:=h;obtain ⟨t,rfl⟩:=rx;obtain ⟨t',rfl⟩:=ry;obtain ⟨j,h1,h2,h3,h4,h5⟩:=Ee he;have hl:z.cps.toList.length=z.length:=by simp [Str.length]
 rw [hl] at h1 h4 h5;have hn:=As;exact tail_any (typeIs_str s z t) slot_str_getitem.lookup (getItem_str (c:=c) (by
  have e1:decide (i < -(2 ^ 63:Int))=false:=cR (by omega);have e2:decide (i>=2 ^ 63)=false:=cR (by omega);rw [e1,e2,Bool.or_false]) (by rw [h1];simpa using h2) ⟨.str ⟨#[c]⟩,H,I.tok _,⟨_,rfl⟩,q⟩) hs
def Z7 (K:Frag):R2:=fun x y H Q=>Xt K x y H Q\/Xu K x y H Q\/Xv x y H Q
def Nz:Qn X (Z7 X.K):=QM.or (Uv.or Uw)
def Ef (lo hi:Option Int) (n:Nat):(sliceBounds lo hi none n).1=((HT.iN n 0 lo:Nat):Int)/\(sliceBounds lo hi none n).2.1=((HT.iN n n hi:Nat):Int)/\(sliceBounds lo hi none n).2.2=1:=by
 refine ⟨?_,?_,rfl⟩
 ·cases lo with
  | none=>simp [sliceBounds,HT.iN]
  | some i =>
   simp only [sliceBounds,HT.iN,Option.getD_none,show (1:Int)>0 by decide,if_true]
   by_cases h:i<0
   ·simp only [h,if_true] <;> omega
   ·simp only [h,if_false] <;> omega
 ·cases hi with
  | none=>simp [sliceBounds,HT.iN]
  | some i =>
   simp only [sliceBounds,HT.iN,Option.getD_none,show (1:Int)>0 by decide,if_true]
   by_cases h:i<0
   ·simp only [h,if_true] <;> omega
   ·simp only [h,if_false] <;> omega
def Cg (its:List Value) (lo hi:Option Int):slicePick its.toArray lo hi none=((its.drop (HT.iN its.length 0 lo)).take (HT.iN its.length its.length hi-HT.iN its.length 0 lo)).toArray:=by
 obtain ⟨h1,h2,h3⟩:=Ef lo hi its.toArray.size;unfold slicePick;rw [h1,h2,h3];simp only [sliceRange_one,pick_run,List.size_toArray] <;> rfl
def zaa (K:Frag):V->Option Int->Option Int->Hp->VK->Prop:=fun x lo hi H Q=>∃a xs,x=.ref a/\kC K H a xs/\∀p,H p=none->Q (.ref p) (upd H p (.lst (Gn xs lo hi)))
def QN:Qm X (zaa X.K):=by
 intro pins s U H x v vl vu lo hi sl Q I rx hs pl pu h;obtain ⟨a,xs,rfl,hx,q⟩:=h;cases rx;obtain ⟨its,r,ht,hz⟩:=I.list hx;have hlen:=r.length;refine ⟨"list",_,slot_list_getitem.lookup,ht.isList.typeIs,?_⟩;refine wpAny_getItem_list_slice ht.isList hs pl pu .none (by simp) ?_ (by rw [List.size_toArray] <;> omega);rw [Cg,<-hlen];refine ⟨.ref s.heap.objs.size,_,I.laid (t':=s.toks) (o:=.lst (Gn xs lo hi)) (fun b ob q=>ai _ q) (ao _) ?_,rfl,q _ (I.dD.fresh (ao _))⟩;exact ⟨ay (yt xs lo hi) hz,_,0,(r.drop (HT.iN xs.length 0 lo)).take (HT.iN xs.length xs.length hi-HT.iN xs.length 0 lo),aB _ rfl⟩
def Eg:fU X (.builtin "len") (fun xs H Q=>∃p ys,xs=[.ref p]/\(kC X.K H p ys\/rE X.K H p ys)/\Q (.int ys.length) H):=by
 intro pins s U H xs us Q I r h;obtain ⟨p,ys,rfl,hq,q⟩:=h;obtain ⟨u,rfl,rx⟩:=vals1 r;cases rx;have hn:=As;rcases hq with hq | hq
 ·obtain ⟨its,r',pl,hz⟩:=I.list hq
  have hlen:=r'.length;exact Calls.call_len_list pl.isList (by simp only [List.size_toArray] <;> omega) ⟨.int ys.length,H,I.tok _,⟨s.toks+1,by rw [List.size_toArray,hlen]⟩,q⟩
 ·obtain ⟨its,r',pl,hz⟩:=I.tuple hq
  have hlen:=r'.length;exact len_tuple pl (by simp only [List.size_toArray] <;> omega) ⟨.int ys.length,H,I.tok _,⟨s.toks+1,by rw [List.size_toArray,hlen]⟩,q⟩
def Ci:fU X (.type "tuple") (fun xs H Q=>∃p ys,xs=[.ref p]/\((kC X.K H p ys/\∀l,H l=none->Q (.ref l) (upd H l (.tup ys)))\/(rE X.K H p ys/\Q (.ref p) H))):=by
 intro pins s U H xs us Q I r h;obtain ⟨p,ys,rfl,h⟩:=h;obtain ⟨u,rfl,rx⟩:=vals1 r;cases rx;rcases h with ⟨hq,q⟩ | ⟨hq,q⟩
 ·obtain ⟨its,r',pl,hz⟩:=I.list hq
  have hlen:=r'.length;refine call_tuple_list pl.isList (fun h' kp=>?_) (by simp only [List.size_toArray] <;> omega);have I1:Inv X pins U H { s with heap:=h' }:=I.kept (t':=s.toks) kp;have I2:Inv X pins U (upd H h'.objs.size (.tup ys)) { s with heap:=h'.push { cls:=.type "tuple",data:=.seq its.toArray } } :=
   I1.laid (t':=s.toks) (fun b o e=>ai _ e) (ao _) (show fL X.prog X.w _ _ _ (.tup ys) from ⟨hz,its,r',IsTup.new _ _⟩)
  exact ⟨.ref h'.objs.size,_,I2,rfl,q _ (I1.dD.fresh (ao _))⟩
 ·obtain ⟨its,r',pl,hz⟩:=I.tuple hq
  exact call_tuple_same pl ⟨.ref p,H,I,rfl,q⟩
def tyV (K:Frag) (T:String) (x:V) (H:Hp):Prop:=match x with
 | .str _=>T="str"
 | .int _=>T="int"
 | .ref p=>(T="list"/\∃xs,kC K H p xs)\/(T="tuple"/\∃o,K.lookup p=some o/\o.cls=.type "tuple"/\o.dict=none) \/
   (T="dict"/\((∃kvs,H p=some (.dK kvs))\/∃kvs,H p=some (.dT kvs)))\/(T="set"/\∃S n,H p=some (.set S n))
 | _=>False
def Ux {pins:List (Addr×Obj)}{U:St}{H:Hp}{s:Shared}{T:String}{x:V}{v:Value} (I:Inv X pins U H s) (r:RelV x v) (ty:tyV X.K T x H) :
  s.TypeIs v T/\∀a,v=.ref a->∃ob,s.heap.get? a=some ob/\ob.dict=none:=by
 cases x with
 | str z =>
  obtain ⟨t,rfl⟩:=r;cases (show T="str" from ty);exact ⟨typeIs_str s z t,fun _ e=>nomatch e⟩
 | int i =>
  obtain ⟨t,rfl⟩:=r;cases (show T="int" from ty);exact ⟨typeIs_int s i t,fun _ e=>nomatch e⟩
 | ref p =>
  cases r;rcases ty with ⟨rfl,xs,hq⟩ | ⟨rfl,o,hk,hc,hd⟩ | ⟨rfl,hk⟩ | ⟨rfl,S,n,hk⟩
  ·obtain ⟨its,_,pl,_⟩:=I.list hq
   refine ⟨pl.isList.typeIs,fun a e=>?_⟩;cases e;obtain ⟨o,n,e,c,hd,_⟩:=pl;exact ⟨o,e,hd⟩
  ·refine ⟨⟨o,I.Gd p o hk,hc⟩,fun a e=>?_⟩
   cases e;exact ⟨o,I.Gd _ o hk,hd⟩
  ·have z:∃o,s.heap.get? p=some o/\o.ExactDict:=by
    rcases hk with ⟨kvs,hk⟩ | ⟨kvs,hk⟩
    ·obtain ⟨_,_,_,_,o,_,_,e,ex,_⟩:=I.dD p _ hk
     exact ⟨o,e,ex⟩
    ·obtain ⟨_,_,_,_,o,_,_,e,ex,_⟩:=I.dD p _ hk
     exact ⟨o,e,ex⟩
   obtain ⟨o,e,ex⟩:=z;refine ⟨⟨o,e,ex.1⟩,fun a e2=>?_⟩;cases e2;exact ⟨o,e,ex.2.1⟩
  ·obtain ⟨o,_,_,_,e,ex,_⟩:=I.dD p _ hk
   refine ⟨⟨o,e,ex.1⟩,fun a e2=>?_⟩;cases e2;exact ⟨o,e,ex.2.1⟩
 | _=>exact False.elim ty
def tBM (K:Frag) (T:String) (r:V->List V->Hp->VK->Prop) (to:TE) (t:TA):TE:=fun U H Q=>to U H fun x H1=>tyV K T x H1/\t U H1 fun xs H2=>r x xs H2 Q
variable {o e:Expr}{es:List Expr}{to:TE}{t:TA}{name:Str}{apos lM:Pos}{T id:String}{r:V->List V->Hp->VK->Prop}
def Kl (pa:PlainAttrs T) (slot:Slot T name id) (hty:typeOf (.builtin id)=pure (.type "method_descriptor")) (hm:MtR X id r) (ho:PE X o to) (ha:PA X (e::es) t)
  (kX:attributeBase o name X.env (eval o X.env)=eval o X.env:=by rfl)
  (xw:((backTo lM (starEach (e::es) X.env)).all (fun x=>!x.1)&&(backToKw lM (keywordEach [] X.env)).all (fun x=>x.1.isSome)
   && decide ((e::es).length+([]:List Keyword).length+(if ([]:List Keyword).isEmpty then 0 else 1)<30))=true:=by rfl)
  (oR:(apos.endLine==lM.line)=true:=by rfl) (hs:starEach (e::es) X.env=(false,eval e X.env)::starEach es X.env:=by rfl) (mY:(backTo lM (starEach es X.env)).any (·.1)=false:=by rfl) :
  PE X (.Call (.Attribute o name apos) (e::es) [] lM) (tBM X.K T r to t):=by
 intro pins s U H Q I h;refine wpAny_Call_method_late kX xw oR rfl (gy (ho pins s U H _ I h) fun v s1 ⟨x,H1,I1,r1,ty,q1⟩=>?_);obtain ⟨h1,h2⟩:=Ux I1 r1 ty;refine ⟨T,id,pa,slot,hty,h1,h2,?_⟩;have hA:=ha lM pins s1 U H1 _ I1 q1;rw [hs] at hA ⊢;refine Calls.callWith_builtin (by show (false || (backTo lM (starEach es X.env)).any (·.1))=false;rw [mY] <;> rfl) (Calls.evalArgs_plain ?_);exact gy hA fun us s2 ⟨vs,H2,I2,r2,q2⟩=>hm pins s2 U H2 x vs v us Q I2 r1 r2 q2
end
def Y5 (X:Cx) (id:String) (r:V->List V->Hp->VK->Prop):Prop :=
 ∀(pins:List (Addr×Obj)) (s:Shared) (U:St) (H:Hp) (x:V) (xs:List V) (v:Value) (us:List Value) (Q:VK),Inv X pins U H s->RelV x v->Vals xs us->r x xs H Q ->
  wpAny (model X.prog X.w) X.A (call (.builtin id) (v::us)) (EP X pins U Q) X.xe s
theorem Vals.one:∀{x:V}{us:List Value},Vals [x] us->∃u,us=[u]/\RelV x u
 | _,_,.cons r .nil=>⟨_,rfl,r⟩
section
variable {X:Cx}{pins:List (Addr×Obj)}{U:St}{H:Hp}{s:Shared}{l b:Addr}{xs ys zs:List V}
def Inv.Xw {its its':List Value}{n:Nat}{f:Array Value->Array Value}{t':Nat} (I:Inv X pins U H s) (hH:H l=some (.lst xs))
  (e:s.heap.get? l=some { cls:=.type "list",data:=.seq its.toArray n }) (hf:f its.toArray=its'.toArray) (hv:Vals ys its') (hz:ys.length<=sizeLine) :
  Inv X pins U (upd H l (.lst ys)) { s with heap:=s.heap.update l (Obj.mapSeq f),toks:=t' }:=by
 have q:=PySem.IsL.update e f;rw [hf] at q;refine I.write (x:=l) (e:=l) (by rw [hH];exact trivial) (.inl rfl) (fun b' u hb hu=>(Heap.get?_update_other s.heap (Obj.mapSeq f) (Ne.symm hb)).trans hu) ⟨_,q⟩ ?_;exact ⟨hz,its',_,hv,q⟩
def Inv.Xx {its:List Value}{t':Nat} (I:Inv X pins U H s) (hv:Vals ys its) (hz:ys.length<=sizeLine) :
  Inv X pins U (upd H s.heap.objs.size (.lst ys)) { s with heap:=s.heap.push { cls:=.type "list",data:=.seq its.toArray },toks:=t' } :=
 I.laid (fun _ _ q=>ai _ q) (ao _) ⟨hz,its,0,hv,aB _ rfl⟩
theorem Inv.fresh (I:Inv X pins U H s):H s.heap.objs.size=none:=I.dD.fresh (ao _)
def Inv.Xy (I:Inv X pins U H s) (hH:H l=some (.lst xs)):xs.length<=sizeLine/\∃(its:List Value) (n:Nat),Vals xs its/\xs.length=its.length/\s.heap.get? l=some { cls:=.type "list",data:=.seq its.toArray n }:=by
 obtain ⟨z,its,n,r,e⟩:=I.dD l _ hH;exact ⟨z,its,n,r,r.length,e⟩
def NA {n:Nat} (h:n<=sizeLine):Builtin.List.listTooLong n=false:=by
 unfold Builtin.List.listTooLong;exact cR (by omega)
end
section
variable {X:Cx}
def QO:V->List V->Hp->VK->Prop:=fun x vs H Q=>∃l xs y,x=.ref l/\vs=[y]/\H l=some (.lst xs)/\xs.length<sizeLine/\Q .bX (upd H l (.lst (xs++[y])))
def C6:Y5 X "list.append" QO:=by
 intro pins s U H x vs v us Q I rx rv h;obtain ⟨l,xs,y,rfl,rfl,hH,hz,q⟩:=h;cases rx;obtain ⟨u,rfl,ru⟩:=rv.one;obtain ⟨z,its,n,r,hl,e⟩:=I.Xy hH;refine call_meets F.slot_list_append ⟨_,e,rfl⟩ F.entry_list_append (F.args_list_append_2 _ _) (PySem.list_append l its.toArray n u (by rw [List.size_toArray];omega)) ⟨e,?_⟩;refine ⟨.bX,_,I.Xw (its':=its++[u]) hH e (by simp) (r.append (.cons ru .nil)) ?_,rfl,q⟩;rw [List.length_append,List.length_singleton];omega
end
section
variable {prog:Program}{w:World}{A:Around}{E:Value->Shared->Prop}{s:Shared}
end
end L2
namespace Att
open PySem PySem.W PySem.Calls PyProof.Rows
def zh {P:Params}{h:Heap}:∀(ns:List Int) (vs:List Value),WellAll P h vs (ns.map WData.int)->IntsAre vs ns:=by
 intro ns
 induction ns with
 | nil =>
  intro vs w;rw [List.map_nil] at w;cases w;exact .nil
 | cons n ns ih =>
  intro vs w;rw [List.map_cons] at w;cases w with
  | cons a b =>
   cases a;exact .cons _ _ (ih _ b)
def LJ {l:OpenLaw}{n:Nat} (hn:l.most=some n) {P:Params}{h:Heap}{args:List WData}{vals:List Value}
  (QP:l.row.toRowW.claim.pre args=true) (hwl:WellAll P h vals args) :
  ∃a vs ns,vals=[Value.ref a]/\args=[WData.list (ns.map WData.int)]/\h.get? a=some { cls:=.type "list",data:=.seq vs.toArray }/\IntsAre vs ns/\ns.length<=n:=by
 have QQ:WShape.hasAll [] args [.list .int]=true:=(pre_splitW QP).1;have hc:l.pre.holds [] { args:=args }=true:=(pre_splitW QP).2;obtain ⟨d,r,rfl,h1,h2⟩:=hasAllW_cons QQ;obtain rfl:=hasAllW_nil h2;obtain ⟨xs,rfl,h3⟩:=hasW_list h1;obtain ⟨ns,rfl⟩:=items_int h3;have hlen:ns.length<=n:=by
  unfold OpenLaw.pre at hc;have h4:(WTm.not (.lt (.lit (.int (n:Int))) (.len (.arg 0)))).holds [] { args:=[.list (ns.map .int)] }=true:=by
   have h4:=(holds_andW hc).1;rw [hn] at h4;exact h4
  have h5:=condW_of h4 (w_not (w_lt w_lit (w_len_list (w_arg rfl))));rw [List.length_map] at h5;refine Nat.le_of_not_lt fun q=>?_
  have q':(n:Int)<((ns.length:Nat):Int):=by omega
  first
   | (rw [decide_eq_true q'] at h5;exact absurd h5 (by decide))
   | (simp at h5;omega)
 cases hwl with
 | cons w1 w2 =>
  cases w2;cases w1 with
  | list ho NC=>exact ⟨_,_,ns,rfl,rfl,ho,zh ns _ NC,hlen⟩
def LK (l:OpenLaw) (args:List WData):l.row.toRowW.claim.post args (.bool true) args=true :=
 postW_of (r:=l.row.toRowW) (X:=(true==true))
  (show WShape.has [] (.bool true) .bool=true by first | rfl | decide | simp [WShape.has,WShape.arms,WShape.armsAll])
  (show (WTm.eq .res (.lit (.bool true))).value [] { args:=args,res:=some (.bool true),after:=args }=some (.bool (true==true)) from w_eq_bool (w_res rfl) w_lit) rfl
def Gp {l:OpenLaw}{n:Nat}{q:Program}{loose:List Str}{XP:(Str->Option Value)->Heap->Prop}{YP:World->Heap->Prop}{d:DefRec}
  (hn:l.most=some n) (Xz:d.params.defaults=[])
  (call:∀(w:World) (s₀ s₁:Shared) (mg mb:Str->Option Value) (fa:Addr) (o:Obj) (pm cd doc:Value) (a:Addr) (vs:List Value) (ns:List Int),
   Ground q loose [] XP w s₀ mg mb s₁.heap->YP w s₁.heap ->
   s₁.heap.get? fa=some o->o.data=.func (docDef d.name d.params d.body d.scope pm cd doc)->s₁.heap.CodeRec cd d.name->mg d.name=some (.ref fa) ->
   s₁.heap.get? a=some { cls:=.type "list",data:=.seq vs.toArray }->IntsAre vs ns->ns.length<=n->s₁.gens=#[] ->
   codeAny (model l.prog w) callerA (.call (.ref fa) ⟨[.ref a],[]⟩) (fun r s'=>r=.ok (.ret (.bool true))/\OldK s₁.heap s'.heap/\s'.os=s₁.os/\AllBare s'.gens) s₁) :
  WalkO q loose XP YP l.row.toRowW d [] (fun f vs=>PySem.call f vs):=by
 intro w s₀ s₁ mg mb G Y fa o pm cd doc dV kV ho hd gL hD XA hg args vals as QP hlay hrd hwl hlo;obtain rfl : dV=.none:=Dflts.none hD Xz;obtain rfl : kV=.none:=Dflts.noKw hD;obtain ⟨a,vs,ns,rfl,rfl,Uy,hints,hlen⟩:=LJ hn QP hwl;refine enter_call (codeAny_mono (call w s₀ s₁ mg mb fa o pm cd doc a vs ns G Y ho (fd_plain hd) gL XA Uy hints hlen hg) fun r s' hq=>?_);obtain ⟨rfl,h2,h3,h4⟩:=hq;exact ⟨.inl ⟨.bool true,.bool true,[],rfl,fun _=>rfl,.bool true,LK l _,fun _=>⟨List.Pairwise.nil,fun _ hm=>(nomatch hm)⟩⟩,h2,h3,h4⟩
section
variable {prog:Program}{w:World}{A:Around}{E:Value->Shared->Prop}{s:Shared}{K:Frag}
end
end Att
namespace L2
open PySem PySem.Spec PyProof.Rows
theorem C7:∀{vs:List Value}{ns:List Int},IntsAre vs ns->Vals (ns.map V.int) vs
 | _,_,.nil=>.nil
 | _,_,.cons n t h=>.cons ⟨t,rfl⟩ (C7 h)
def Uz (H:Hp):Prop:=∀b,H b=none\/∃o xs,H b=some (.mR o (.lst xs))
def ND {P:Program}{w:World}{K:Frag}{mg mb:Str->Option Value}{CX:M0}{k:Nat}{fa a:Addr}{fd:FuncData}{x:Str}{sp:Sp}{s₁:Shared}{vs:List Value}{ns:List Int}
  (KX:K.In s₁.heap) (Y6:s₁.heap.Ns mainGlobals mg) (hb:s₁.heap.Ns builtinsNs mb) (hbb:∀x:Str,x≠"__name__"->mb x=bootBuiltins x) (hlim:s₁.heap.NoLimit) (hg:s₁.gens=#[])
  (ha:s₁.heap.get? a=some { cls:=.type "list",data:=.seq vs.toArray }) (hi:IntsAre vs ns) (hl:ns.length<=sizeLine) (hr:fG k callerA)
  (F:∀base:Heap,K.In base->base.Ns mainGlobals mg->cM P w K mg base CX k fa fd [x] sp) (XB:∀(s:Shared) (u:Value),BindsTo s fd ⟨[u],[]⟩ [(x,u)])
  (S0:∀H:Hp,Uz H->kC K H a (ns.map V.int)->sp [.ref a] H (fun v _=>v=.bl true) fun _ _ _=>False)
  (hCX:∀H e s',CX [] H s₁ (fun _ _ _=>False) e s'->False) :
  codeAny (model P w) callerA (.call (.ref fa) ⟨[.ref a],[]⟩) (fun r s'=>r=.ok (.ret (.bool true))/\OldK s₁.heap s'.heap/\s'.os=s₁.os/\AllBare s'.gens) s₁:=by
 have rv:=C7 hi;have lenV:=hi.length;have core:∀H:Hp,Uz H->kC K H a (ns.map V.int)->t7 P w H s₁.heap->(∀b,H b≠none->b=a)->(H a≠none->K.lookup a=none) ->
   codeAny (model P w) callerA (.call (.ref fa) ⟨[.ref a],[]⟩) (fun r s'=>r=.ok (.ret (.bool true))/\OldK s₁.heap s'.heap/\s'.os=s₁.os/\AllBare s'.gens) s₁:=by
  intro H hO hS dD hA hK;have Km:∀{b:Addr}{o:Obj},s₁.heap.get? b=some o->H b=none->(D6 s₁.heap H).get? b=some o:=fun e n=>M6 e n
  have Xp:∀{b:Addr}{o:Obj}{es:Array DictEntry}{ep:Nat},s₁.heap.get? b=some o->o.data=.dict es ep->H b=none:=fun {b o es ep} e d=>by
   cases q:H b with
   | none=>rfl
   | some u =>
    have e':b=a:=hA b (by rw [q];simp);subst e';rw [ha] at e;cases e;have d':Data.seq vs.toArray _=Data.dict es ep:=d;cases d'
  have Y7:∀{b:Addr}{m:Str->Option Value},s₁.heap.Ns b m->(D6 s₁.heap H).Ns b m:=fun {b m} ⟨o,es,ep,e,d,r⟩=>⟨o,es,ep,Km e (Xp e d),d,r⟩
  have hKb:K.In (D6 s₁.heap H):=fun b o e=>Km (KX b o e) (by
   cases q:H b with
   | none=>rfl
   | some u =>
    have e':b=a:=hA b (by rw [q];simp);subst e';rw [hK (by rw [q];simp)] at e;cases e)
  have hM:Mod K mg (D6 s₁.heap H):=⟨hKb,Y7 Y6,⟨mb,Y7 hb,hbb⟩,let ⟨mc,h1,h2⟩:=hlim;⟨mc,Y7 h1,h2⟩⟩;have e0:Aw P w K mg (D6 s₁.heap H) callerA [] s₁ H:=⟨rfl,hM,fun b o e=>Qu e,Nat.le_of_eq (Lw _ _),trivial,fun b hb=>absurd (show b∈([]:List Addr) from hb) (by simp),dD,.of_eq hg⟩;refine codeAny_mono ((F _ hKb (Y7 Y6)).run callerA [] s₁ H ⟨[.ref a],[]⟩ [.ref a] [.ref a] _ _ hr e0 (XB s₁ (.ref a)) (.cons rfl .nil) (S0 H hO hS)) fun r s' h=>?_
  cases r with
  | error e=>exact (hCX H e s' h).elim
  | ok fl =>
   cases fl with
   | next=>exact False.elim h
   | brk=>exact False.elim h
   | cont=>exact False.elim h
   | ret u =>
    obtain ⟨v,H',os,bare,un,hok',r',q⟩:=h;have q':v=.bl true:=q;subst q';obtain rfl : u=Value.bool true:=r';refine ⟨rfl,OldK.of_keep fun b o e=>?_,os,bare⟩;cases q:H b with
    | none=>exact un.keep b o e q (by intro z;exact absurd (show b∈([]:List Addr) from z) (by simp)) (by simp)
    | some u =>
     rcases hO b with z | ⟨ob,xs,z⟩
     ·rw [q] at z;cases z
     ·have z2:=un.rZ b ob _ z
      obtain ⟨e1,_⟩:=dD b _ z;obtain ⟨e2,_⟩:=hok' b _ z2;rw [e] at e1;cases e1;exact e2
 cases hk:K.lookup a with
 | some o =>
  have e:=KX a o hk;rw [ha] at e;cases e;refine core (fun _=>none) (fun _=>.inl rfl) (.inr ⟨_,vs.toArray,_,hk,rfl,rfl,rfl,by rw [List.size_toArray,lenV];exact hl,by simpa using rv⟩) (fun b u z=>by have z':(none:Option HO)=some u:=z;cases z') (fun b z=>absurd rfl z) fun z=>absurd rfl z
 | none =>
  refine core (fun b=>if b=a then some (.mR { cls:=.type "list",data:=.seq vs.toArray } (.lst (ns.map V.int))) else none) (fun b=>?_) (.inl (.inr ⟨{ cls:=.type "list",data:=.seq vs.toArray },if_pos rfl⟩)) (fun b u z=>?_) (fun b z=>?_) fun _=>hk
  ·by_cases hb:b=a
   ·exact .inr ⟨_,_,if_pos hb⟩
   ·exact .inl (if_neg hb)
  ·by_cases hb:b=a
   ·have z':=(if_pos hb).symm.trans z
    cases z';subst hb;exact ⟨ha,by rw [List.length_map];exact hl,vs,_,rv,ha⟩
   ·have z':=(if_neg hb).symm.trans z
    cases z'
  ·by_cases hb:b=a
   ·exact hb
   ·exact absurd (if_neg hb) z
def QR {l:OpenLaw}{n k:Nat}{q:Program}{loose:List Str}{XP:(Str->Option Value)->Heap->Prop}{YP:World->Heap->Prop}{d:DefRec}{K:Params->Frag}{CX:World->M0}{sp:World->Sp}{x:Str}
  (hn:l.most=some n) (Y3:n<=sizeLine) (Xz:d.params.defaults=[]) (hr:fG k callerA)
  (hY:∀(w:World) (h:Heap),YP w h->(K w.params).In h)
  (F:∀(w:World) (mg:Str->Option Value) (fa:Addr) (h:Heap),(K w.params).In h->h.Ns mainGlobals mg->mg d.name=some (.ref fa) ->
   ∃fd:FuncData,(∀(s:Shared) (u:Value),BindsTo s fd ⟨[u],[]⟩ [(x,u)]) /\
    ∀base:Heap,(K w.params).In base->base.Ns mainGlobals mg->cM l.prog w (K w.params) mg base (CX w) k fa fd [x] (sp w))
  (S0:∀(w:World) (H:Hp) (a:Addr) (ns:List Int),ns.length<=n->Uz H->kC (K w.params) H a (ns.map V.int)->sp w [.ref a] H (fun v _=>v=.bl true) fun _ _ _=>False)
  (hCX:∀(w:World) (H:Hp) (s:Shared) (e:Value) (s':Shared),CX w [] H s (fun _ _ _=>False) e s'->False) :
  PySem.W.WalkO q loose XP YP l.row.toRowW d [] (fun f vs=>PySem.call f vs):=by
 refine Att.Gp hn Xz fun w s₀ s₁ mg mb fa o pm cd doc a vs ns G Y ho hd gL XA Uy hints hlen hg=>?_
 have KX:=hY w _ Y;obtain ⟨fd,hb,hF⟩:=F w mg fa _ KX G.T.g XA;exact ND KX G.T.g G.T.b G.T.builtins G.T.nolimit hg Uy hints (ay hlen Y3) hr hF hb (fun H hO hS=>S0 w H a ns hlen hO hS) fun H e s'=>hCX w H s₁ e s'
noncomputable def inClass (s:Stmt) (j:Nat):Stmt:=match s with
 | .ClassDef _ _ _ body _ _ _ _ _ _ _=>body.getD j (.Pass ⟨0,0,0,0⟩)
 | _=>.Pass ⟨0,0,0,0⟩
noncomputable def zN (s:Stmt):Arguments:=match s with
 | .FunctionDef _ a _ _ _ _ _ _ _ _=>a
 | _=>{ posonlyargs:=[],args:=[],vararg:=none,kwonlyargs:=[],kw_defaults:=[],kwarg:=none,defaults:=[] }
noncomputable def iS (s:Stmt):List Stmt:=match s with
 | .FunctionDef _ _ b _ _ _ _ _ _ _=>b
 | _=>[]
noncomputable def aC (s:Stmt):Scope:=match s with
 | .FunctionDef _ _ _ _ _ _ sc _ _ _=>sc
 | _=>{ kind:=.function,names:=[],isGenerator:=false,isCoroutine:=false }
abbrev jQ:M0:=fun _ _ _ _ _ _=>False
abbrev E0:XK:=fun _ _ _=>False
def Gq {X:Cx}:Passes jQ X E0:=fun _ _ _ _ _ _ _ h=>h.elim
structure kY (K:Frag) (x qual:Str) (st:Stmt) (f:Addr) (fd:FuncData):Prop where
 ex:∃(oc:Value) (od:Option Addr) (kV doc pm:Value) (an:Option Addr) (dM ct:Value) (Nv:Array (Option Value)),
  fd=fnOf x qual (zN st) (iS st) (aC st) .none kV doc pm an dM ct/\K.lookup f=some ⟨oc,od,.func fd,Nv⟩/\codeIn K dM qual=true
 kp:keepIn K (.ref f)=true
section
variable {P:Program}{w:World}{K:Frag}{mg:Str->Option Value}{base:Heap}
def kY.ok {x qual:Str}{st:Stmt}{f:Addr}{fd:FuncData}{N ps:List Str}{k:Nat}{sp:Sp} (F:kY K x qual st f fd) (S:bx N ps (aC st)) (len:∀vs H Q E,sp vs H Q E->vs.length=ps.length)
  (mX:∀(dM:Value) (A:Around) (outer:List Env) (s:Shared) (H:Hp) (vs:List V) (Q:VK) (E:XK),fG k (A.deeper (envOfC qual (aC st) s.heap.objs.size f dM))->sp vs H Q E ->
   ∃t,Gf (mB jQ P w K mg base N qual (aC st) f dM A outer s H E).Qk (iS st) t/\t { nx:=fun _ H'=>Q .bX H',rt:=Q } (start N vs) H):cM P w K mg base jQ (k+1) f fd ps sp:=by
 obtain ⟨oc,od,kV,doc,pm,an,dM,ct,Nv,rfl,lk,gL⟩:=F.ex;refine Nu lk gL S len fun A outer s H vs Q E hr S0=>?_
 obtain ⟨t,h,q⟩:=mX dM A outer s H vs Q E hr S0;exact ⟨t,h.Qk,q⟩
def kY.binds {x qual:Str}{st:Stmt}{f:Addr}{fd:FuncData}{ps:List Str} (F:kY K x qual st f fd)
  (h:∀(kV doc pm:Value) (an:Option Addr) (dM ct:Value) (us:List Value),us.length=ps.length->bindArgs (fnOf x qual (zN st) (iS st) (aC st) .none kV doc pm an dM ct) ⟨us,[]⟩=pure (ps.zip us)):Binds K fd ps []:=by
 obtain ⟨oc,od,kV,doc,pm,an,dM,ct,Nv,rfl,lk,gL⟩:=F.ex;exact .all (h kV doc pm an dM ct)
def UA {x qual:Str}{st:Stmt}{f:Addr}{oc:Value}{od an:Option Addr}{Nv:Array (Option Value)}{kV doc pm dM ct:Value} (l:K.lookup f=some ⟨oc,od,.func (fnOf x qual (zN st) (iS st) (aC st) .none kV doc pm an dM ct),Nv⟩)
  (c:codeIn K dM qual=true) (k:keepIn K (.ref f)=true):kY K x qual st f (fnOf x qual (zN st) (iS st) (aC st) .none kV doc pm an dM ct):=⟨⟨oc,od,kV,doc,pm,an,dM,ct,Nv,rfl,l,c⟩,k⟩
end
def Eh {A B:Prop} (h:B):if false=true then A else B:=by
 rw [if_neg Bool.false_ne_true];exact h
def Ei {A B:Prop} (h:A):if true=true then A else B:=by
 rw [if_pos rfl];exact h
def ku {c A B:Prop} [Decidable c] (h1:c->A) (h2:¬c->B):if c then A else B:=by
 by_cases h:c
 ·rw [if_pos h]
  exact h1 h
 ·rw [if_neg h]
  exact h2 h
def aX (H H':Hp):Prop:=∀b o,H b=some o->H' b=some o
def aX.refl (H:Hp):aX H H:=fun _ _ h=>h
def aX.trans {H H1 H2:Hp} (a:aX H H1) (b:aX H1 H2):aX H H2:=fun c o h=>b c o (a c o h)
def aX.free {H H':Hp} (e:aX H H') {l:Addr} (h:H' l=Option.none):H l=Option.none:=by
 cases q:H l with
 | none=>rfl
 | some o =>
  rw [e l o q] at h;cases h
def aX.seq {K:Frag}{H H':Hp}{a:Addr}{xs:List V} (e:aX H H') (h:kC K H a xs):kC K H' a xs:=by
 rcases h with (h | ⟨o,h⟩) | h
 ·exact .inl (.inl (e _ _ h))
 ·exact .inl (.inr ⟨o,e _ _ h⟩)
 ·exact .inr h
end L2
namespace Dl
open PySem PySem.Spec PyProof.Rows L2
inductive D where
 | bX | bl (b:Bool) | int (i:Int) | str (x:Str) | tup (l:List D) | lst (l:List D) | pt (a:Nat)
 deriving Inhabited
mutual
inductive Den (K:Frag) (G:Hp):V->D->Prop
 | bX:Den K G .bX .bX
 | bl (b:Bool):Den K G (.bl b) (.bl b)
 | int (i:Int):Den K G (.int i) (.int i)
 | str (x:Str):Den K G (.str x) (.str x)
 | pt (a:Nat):Den K G (.ref a) (.pt a)
 | tup {a:Addr}{vs:List V}{ds:List D}:rE K G a vs->bP K G vs ds->Den K G (.ref a) (.tup ds)
 | lst {a:Addr}{vs:List V}{ds:List D}:kC K G a vs->bP K G vs ds->Den K G (.ref a) (.lst ds)
inductive bP (K:Frag) (G:Hp):List V->List D->Prop
 | nil:bP K G [] []
 | cons {v:V}{d:D}{vs:List V}{ds:List D}:Den K G v d->bP K G vs ds->bP K G (v::vs) (d::ds)
end
def aX.tupS {K:Frag}{H H':Hp}{a:Addr}{xs:List V} (e:aX H H') (h:rE K H a xs):rE K H' a xs:=by
 rcases h with (h | ⟨o,h⟩) | h
 ·exact .inl (.inl (e _ _ h))
 ·exact .inl (.inr ⟨o,e _ _ h⟩)
 ·exact .inr h
section
variable {K:Frag}{G G':Hp}
mutual
theorem Den.up (e:aX G G'):∀{v:V}{d:D},Den K G v d->Den K G' v d
 | _,_,.bX=>.bX
 | _,_,.bl b=>.bl b
 | _,_,.int i=>.int i
 | _,_,.str x=>.str x
 | _,_,.pt a=>.pt a
 | _,_,.tup h l=>.tup (aX.tupS e h) (bP.up e l)
 | _,_,.lst h l=>.lst (e.seq h) (bP.up e l)
theorem bP.up (e:aX G G'):∀{vs:List V}{ds:List D},bP K G vs ds->bP K G' vs ds
 | _,_,.nil=>.nil
 | _,_,.cons h t=>.cons (Den.up e h) (bP.up e t)
end
theorem bP.length:∀{vs:List V}{ds:List D},bP K G vs ds->vs.length=ds.length
 | _,_,.nil=>rfl
 | _,_,.cons _ t=>by simp [bP.length t]
theorem bP.get:∀{vs:List V}{ds:List D}{i:Nat}{d:D},bP K G vs ds->ds[i]?=some d->∃v,vs[i]?=some v/\Den K G v d
 | _,_,_,_,.nil,e=>by simp at e
 | _,_,0,_,.cons h _,e=>by simp at e;subst e;exact ⟨_,rfl,h⟩
 | _,_,i+1,_,.cons _ t,e=>by
  obtain ⟨v,h1,h2⟩:=bP.get (i:=i) t (by simpa using e);exact ⟨v,by simpa using h1,h2⟩
theorem bP.Cj:∀{vs:List V}{ds:List D}{i:Nat}{v:V},bP K G vs ds->vs[i]?=some v->∃d,ds[i]?=some d/\Den K G v d
 | _,_,_,_,.nil,e=>by simp at e
 | _,_,0,_,.cons h _,e=>by simp at e;subst e;exact ⟨_,rfl,h⟩
 | _,_,i+1,_,.cons _ t,e=>by
  obtain ⟨v,h1,h2⟩:=bP.Cj (i:=i) t (by simpa using e);exact ⟨v,by simpa using h1,h2⟩
theorem bP.append:∀{vs ws:List V}{ds es:List D},bP K G vs ds->bP K G ws es->bP K G (vs++ws) (ds++es)
 | _,_,_,_,.nil,h=>h
 | _,_,_,_,.cons a t,h=>.cons a (bP.append t h)
theorem bP.take:∀{vs:List V}{ds:List D} (n:Nat),bP K G vs ds->bP K G (vs.take n) (ds.take n)
 | _,_,0,_=>.nil
 | _,_,_+1,.nil=>.nil
 | _,_,n+1,.cons a t=>.cons a (bP.take n t)
theorem bP.drop:∀{vs:List V}{ds:List D} (n:Nat),bP K G vs ds->bP K G (vs.drop n) (ds.drop n)
 | _,_,0,h=>h
 | _,_,_+1,.nil=>.nil
 | _,_,n+1,.cons _ t=>bP.drop n t
theorem bP.ints:∀(ns:List Int),bP K G (ns.map V.int) (ns.map D.int)
 | []=>.nil
 | _::r=>.cons (.int _) (bP.ints r)
def Den.int_inv {v:V}{i:Int} (h:Den K G v (.int i)):v=.int i:=by cases h;rfl
def Den.Az {v:V}{i:Bool} (h:Den K G v (.bl i)):v=.bl i:=by cases h;rfl
def Den.str_inv {v:V}{i:Str} (h:Den K G v (.str i)):v=.str i:=by cases h;rfl
def Den.Ej {v:V} (h:Den K G v .bX):v=.bX:=by cases h;rfl
def Den.kQ {v:V}{l:List D} (h:Den K G v (.tup l)):∃a vs,v=.ref a/\rE K G a vs/\bP K G vs l:=by
 cases h with | tup h t=>exact ⟨_,_,rfl,h,t⟩
def Den.lst_inv {v:V}{l:List D} (h:Den K G v (.lst l)):∃a vs,v=.ref a/\kC K G a vs/\bP K G vs l:=by
 cases h with | lst h t=>exact ⟨_,_,rfl,h,t⟩
end
inductive Fl where
 | sh (d:D) | ow (l:List D) | dc (kvs:List (Key×D)) | fz (q:Nat) (kvs:List (Key×D))
 deriving Inhabited
inductive Sl where
 | no | sh (d:D) | ow (l:List D) | mu (a:Nat) (l:List D) | ob (h:Option Nat) (C:Nat) (fs:List (Str×Fl)) | pt (a:Nat) | rc (h:Option Nat) (fs:List (Str×Fl)) | hb (a:Nat) (C:Nat) (fs:List (Str×Fl)) | hd (a:Nat) (z:Bool) (kvs:List (Key×D))
abbrev Ev:=List Sl
structure En where
 G:Hp
 H:Hp
 M:Addr->Prop
abbrev Ow:=Addr->Option (Nat×Str)
inductive fW (K:Frag) (G:Hp):List (Key×V)->List (Key×D)->Prop
 | nil:fW K G [] []
 | cons {k:Key}{v:V}{d:D}{r:List (Key×V)}{s:List (Key×D)}:Den K G v d->fW K G r s->fW K G ((k,v)::r) ((k,d)::s)
theorem fW.up {K:Frag}{G G':Hp}{vs:List (Key×V)}{ds:List (Key×D)} (hG:aX G G') (h:fW K G vs ds):fW K G' vs ds:=by
 induction h with
 | nil=>exact .nil
 | cons a _ ih=>exact .cons (Den.up hG a) ih
def IG (K:Frag) (G H:Hp) (ow:Ow) (i:Nat) (f:Str) (v:V):Fl->Prop
 | .sh d=>Den K G v d
 | .ow l=>∃q vs,v=.ref q/\H q=some (.lst vs)/\ow q=some (i,f)/\bP K G vs l
 | .dc kvs=>∃q vs,v=.ref q/\H q=some (.dK vs)/\ow q=some (i,f)/\fW K G vs kvs
 | .fz q kvs=>∃ob vs,v=.ref q/\G q=some (.mR ob (.dK vs))/\fW K G vs kvs
noncomputable def dcF (a:Nat) (z:Bool) (kvs:List (Key×D)):Fl:=if z then .fz a kvs else .dc kvs
noncomputable def kx (p:Str×V):Key×V:=(Sum.inr p.1,p.2)
structure uA (K:Frag) (G H:Hp) (ow:Ow) (i:Nat) (bU:List (Str×V)) (fs:List (Str×Fl)):Prop where
 keys:bU.map (·.1)=fs.map (·.1)
 at_:∀f s,fs.lookup f=some s->∃v,bU.lookup f=some v/\IG K G H ow i f v s
def FX (K:Frag) (n:En) (G H:Hp) (ow:Ow) (i:Nat) (o:Option (Option V)):Sl->Prop
 | .no=>True
 | .sh d=>∃v,o=some (some v)/\Den K G v d
 | .ow l=>∃p vs,o=some (some (.ref p))/\H p=some (.lst vs)/\n.H p=none/\ow p=some (i,("":Str))/\bP K G vs l
 | .mu a l=>∃vs,o=some (some (.ref a))/\H a=some (.lst vs)/\ow a=some (i,("":Str))/\bP K G vs l
 | .ob h C fs=>∃a dx bU,o=some (some (.ref a))/\(∀a0,h=some a0->a=a0)/\H a=some (.ins C dx bU)/\H dx=some (.own a)/\ow a=some (i,("":Str))/\ow dx=some (i,("":Str))/\uA K G H ow i bU fs
 | .pt a=>o=some (some (.ref a))
 | .rc h fs=>∃a bU,o=some (some (.ref a))/\(∀a0,h=some a0->a=a0)/\H a=some (.dK (bU.map kx))/\ow a=some (i,("":Str))/\uA K G H ow i bU fs
 | .hb a C fs=>∃dx bU,H a=some (.ins C dx bU)/\H dx=some (.own a)/\ow a=some (i,("":Str))/\ow dx=some (i,("":Str))/\uA K G H ow i bU fs
 | .hd a z kvs=>n.H a=none/\IG K G H ow i "" (.ref a) (dcF a z kvs)
def SlOk (K:Frag) (n:En) (G H:Hp) (o:Option (Option V)):Sl->Prop
 | .no=>True
 | .sh d=>∃v,o=some (some v)/\Den K G v d
 | .ow l=>∃p vs,o=some (some (.ref p))/\H p=some (.lst vs)/\G p=none/\n.H p=none/\bP K G vs l
 | .mu a l=>∃vs,o=some (some (.ref a))/\H a=some (.lst vs)/\G a=none/\bP K G vs l
 | .ob h C fs=>∃a dx bU,o=some (some (.ref a))/\(∀a0,h=some a0->a=a0)/\H a=some (.ins C dx bU)/\H dx=some (.own a)/\∃ow i,uA K G H ow i bU fs
 | .pt a=>o=some (some (.ref a))
 | .rc h fs=>∃a bU,o=some (some (.ref a))/\(∀a0,h=some a0->a=a0)/\H a=some (.dK (bU.map kx))/\∃ow i,uA K G H ow i bU fs
 | .hb a C fs=>∃dx bU,H a=some (.ins C dx bU)/\H dx=some (.own a)/\∃ow i,uA K G H ow i bU fs
 | .hd a z kvs=>n.H a=none/\∃ow i,IG K G H ow i "" (.ref a) (dcF a z kvs)
structure IH (n:En) (G H:Hp) (ow:Ow):Prop where
 is:∀p k,ow p=some k->G p=none/\H p≠none/\(n.H p=none\/n.M p)
structure Rel (K:Frag) (n:En) (Z:Ev) (U:L2.St) (G H:Hp):Prop where
 sub:aX G H
 eg:aX n.G G
 eh:∀b o,n.H b=some o->¬n.M b->H b=some o
 al:∀b,H b=none->n.H b=none
 fr:∀b o,G b=some o->n.G b=none->n.H b=none
 gh:∃ow:Ow,IH n G H ow/\∀(i:Nat) (s:Sl),Z[i]?=some s->FX K n G H ow i U[i]? s
 len:Z.length=U.length
section
variable {K:Frag}{n:En}{Z Z':Ev}{U U':L2.St}{G H G' H':Hp}{p:Addr}{o:HO}{ow ow':Ow}{i i':Nat}
def IG.keep {f:Str}{v:V}{s:Fl} (hG:aX G G') (hO:∀p f,ow p=some (i,f)->ow' p=some (i',f)) (hH:∀p f o,ow p=some (i,f)->H p=some o->H' p=some o) (h:IG K G H ow i f v s):IG K G' H' ow' i' f v s:=by
 cases s with
 | sh d=>exact Den.up hG h
 | ow l=>have ⟨q,vs,h1,h2,h3,h4⟩:=h;exact ⟨q,vs,h1,hH _ _ _ h3 h2,hO _ _ h3,h4.up hG⟩
 | dc l=>have ⟨q,vs,h1,h2,h3,h4⟩:=h;exact ⟨q,vs,h1,hH _ _ _ h3 h2,hO _ _ h3,h4.up hG⟩
 | fz q l=>have ⟨ob,vs,h1,h2,h3⟩:=h;exact ⟨ob,vs,h1,hG _ _ h2,h3.up hG⟩
theorem uA.keep {bU:List (Str×V)}{fs:List (Str×Fl)} (hG:aX G G') (hO:∀p f,ow p=some (i,f)->ow' p=some (i',f)) (hH:∀p f o,ow p=some (i,f)->H p=some o->H' p=some o) (h:uA K G H ow i bU fs):uA K G' H' ow' i' bU fs :=
 ⟨h.keys,fun f s e=>let ⟨v,h1,h2⟩:=h.at_ f s e;⟨v,h1,h2.keep hG hO hH⟩⟩
theorem FX.keep {s:Sl}{x:Option (Option V)} (hG:aX G G') (hO:∀p f,ow p=some (i,f)->ow' p=some (i',f)) (hH:∀p f o,ow p=some (i,f)->H p=some o->H' p=some o) (h:FX K n G H ow i x s):FX K n G' H' ow' i' x s:=by
 cases s with
 | no=>trivial
 | sh d=>obtain ⟨v,h1,h2⟩:=h;exact ⟨v,h1,h2.up hG⟩
 | ow l=>have ⟨p,vs,h1,h2,h3,h4,h5⟩:=h;exact ⟨p,vs,h1,hH _ _ _ h4 h2,h3,hO _ _ h4,h5.up hG⟩
 | mu a l=>have ⟨vs,h1,h2,h4,h5⟩:=h;exact ⟨vs,h1,hH _ _ _ h4 h2,hO _ _ h4,h5.up hG⟩
 | ob q C fs=>have ⟨a,dx,bU,h1,h2,h3,h4,h5,h6,h7⟩:=h;exact ⟨a,dx,bU,h1,h2,hH _ _ _ h5 h3,hH _ _ _ h6 h4,hO _ _ h5,hO _ _ h6,h7.keep hG hO hH⟩
 | pt a=>exact h
 | rc q fs=>have ⟨a,bU,h1,h2,h3,h5,h7⟩:=h;exact ⟨a,bU,h1,h2,hH _ _ _ h5 h3,hO _ _ h5,h7.keep hG hO hH⟩
 | hb a C fs=>have ⟨dx,bU,h3,h4,h5,h6,h7⟩:=h;exact ⟨dx,bU,hH _ _ _ h5 h3,hH _ _ _ h6 h4,hO _ _ h5,hO _ _ h6,h7.keep hG hO hH⟩
 | hd a z kvs=>exact ⟨h.1,h.2.keep hG hO hH⟩
def Rel.sl (R:Rel K n Z U G H) (i:Nat) (s:Sl) (hs:Z[i]?=some s):SlOk K n G H U[i]? s:=by
 obtain ⟨ow,ok,gh⟩:=R.gh;have h:=gh i s hs;cases s with
 | no=>trivial
 | sh d=>exact h
 | ow l=>have ⟨p,vs,h1,h2,h3,h4,h5⟩:=h;exact ⟨p,vs,h1,h2,(ok.is _ _ h4).1,h3,h5⟩
 | mu a l=>have ⟨vs,h1,h2,h4,h5⟩:=h;exact ⟨vs,h1,h2,(ok.is _ _ h4).1,h5⟩
 | ob q C fs=>have ⟨a,dx,bU,h1,h2,h3,h4,h5,h6,h7⟩:=h;exact ⟨a,dx,bU,h1,h2,h3,h4,ow,i,h7⟩
 | pt a=>exact h
 | rc q fs=>have ⟨a,bU,h1,h2,h3,h5,h7⟩:=h;exact ⟨a,bU,h1,h2,h3,ow,i,h7⟩
 | hb a C fs=>have ⟨dx,bU,h3,h4,h5,h6,h7⟩:=h;exact ⟨dx,bU,h3,h4,ow,i,h7⟩
 | hd a z kvs=>exact ⟨h.1,ow,i,h.2⟩
end
structure Ext (G H G' H':Hp):Prop where
 gg:aX G G'
 gh:aX G' H'
 hh:aX H H'
 fr:∀b o,G' b=some o->G b=none->H b=none
def bE {H:Hp}{p:Addr} (h:H p=none) (o:HO):aX H (upd H p o):=fun b u q=>by rw [aF (cq q h)];exact q
theorem Ext.refl {G H:Hp} (s:aX G H):Ext G H G H:=⟨aX.refl _,s,aX.refl _,fun b o e e0=>(by rw [e0] at e;cases e)⟩
def Ext.laid {G H:Hp}{p:Addr} (s:aX G H) (h:H p=none) (o:HO):Ext G H (upd G p o) (upd H p o):=by
 have hG:G p=none:=s.free h;refine ⟨bE hG o,fun b u e=>?_,bE h o,fun b u e e0=>?_⟩
 ·by_cases hb:b=p
  ·subst hb;rw [aO] at e ⊢;exact e
  ·rw [aF hb] at e ⊢;exact s b u e
 ·by_cases hb:b=p
  ·subst hb;exact h
  ·rw [aF hb,e0] at e;cases e
theorem Ext.trans {G H G1 H1 G2 H2:Hp} (a:Ext G H G1 H1) (b:Ext G1 H1 G2 H2):Ext G H G2 H2:=by
 refine ⟨a.gg.trans b.gg,b.gh,a.hh.trans b.hh,fun c o e e0=>?_⟩;cases q:G1 c with
 | none=>exact a.hh.free (b.fr c o e q)
 | some u=>exact a.fr c u q e0
def v9 {H:Hp}{p b:Addr}{o:HO} (h:H b≠none):upd H p o b≠none:=by
 by_cases hb:b=p
 ·subst hb;rw [aO];exact fun z=>by cases z
 ·rw [aF hb];exact h
def ub {H H':Hp} (s:aX H H') {b:Addr} (h:H b≠none):H' b≠none:=fun z=>h (s.free z)
noncomputable def my (ow:Ow) (p:Addr) (k:Option (Nat×Str)):Ow:=fun b=>if b=p then k else ow b
def gX {ow:Ow}{p:Addr}{k:Option (Nat×Str)}:my ow p k p=k:=if_pos rfl
def cu {ow:Ow}{p b:Addr}{k:Option (Nat×Str)} (h:b≠p):my ow p k b=ow b:=if_neg h
section
variable {K:Frag}{n:En}{Z Z':Ev}{U U':L2.St}{G H G' H':Hp}{p:Addr}{o:HO}
def Rel.ext (R:Rel K n Z U G H) (e:Ext G H G' H'):Rel K n Z U G' H':=by
 obtain ⟨ow,ok,gh⟩:=R.gh;refine ⟨e.gh,R.eg.trans e.gg,fun b u q m=>e.hh b u (R.eh b u q m),fun b q=>R.al b (e.hh.free q),fun b u q q0=>?_,⟨ow,⟨fun p k hk=>?_⟩,fun i s hs=>(gh i s hs).keep e.gg (fun _ _ z=>z) fun p f u _ z=>e.hh p u z⟩,R.len⟩
 ·cases h:G b with
  | none=>exact R.al b (e.fr b u q h)
  | some w=>exact R.fr b w h q0
 ·obtain ⟨h1,h2,h3⟩:=ok.is p k hk
  refine ⟨?_,ub e.hh h2,h3⟩;cases q:G' p with
  | none=>rfl
  | some w=>exact absurd (e.fr p w q h1) h2
theorem Rel.laid (R:Rel K n Z U G H) (h:H p=none) (o:HO):Rel K n Z U (upd G p o) (upd H p o):=R.ext (.laid R.sub h o)
def kR {α:Type}{l:List α}{i j:Nat}{a b:α} (h:(l.set i a)[j]?=some b):(i=j/\b=a/\i<l.length)\/(i≠j/\l[j]?=some b):=by
 by_cases e:i=j
 ·subst e
  rw [List.getElem?_set_self'] at h;cases q:l[i]? with
  | none=>rw [q] at h;cases h
  | some w =>
   rw [q] at h;have hb:a=b:=by simpa using h
   have:=aK.mp q;exact .inl ⟨rfl,hb.symm,this.1⟩
 ·rw [List.getElem?_set_ne e] at h
  exact .inr ⟨e,h⟩
def Rel.set (R:Rel K n Z U G H) {v:V}{d:D} (i:Nat) (hv:Den K G v d):Rel K n (Z.set i (.sh d)) (U.set i (some v)) G H:=by
 obtain ⟨ow,ok,gh⟩:=R.gh;refine ⟨R.sub,R.eg,R.eh,R.al,R.fr,⟨ow,ok,fun j s hs=>?_⟩,by rw [List.length_set,List.length_set];exact R.len⟩;rcases kR hs with ⟨e,rfl,hl⟩ | ⟨e,hs⟩
 ·subst e
  refine ⟨v,?_,hv⟩;rw [List.getElem?_set_self (Nat.lt_of_lt_of_le hl (Nat.le_of_eq R.len))]
 ·rw [List.getElem?_set_ne e]
  exact gh j s hs
def Rel.own (R:Rel K n Z U G H) {vs:List V}{ds:List D} (i:Nat) (hp:H p=none) (hv:bP K G vs ds):Rel K n (Z.set i (.ow ds)) (U.set i (some (.ref p))) G (upd H p (.lst vs)):=by
 obtain ⟨ow,ok,gh⟩:=R.gh;have hG:G p=none:=R.sub.free hp;have FY:∀b k,ow b=some k->b≠p:=fun b k hk z=>by subst z;exact (ok.is _ _ hk).2.1 hp
 refine ⟨R.sub.trans (bE hp _),R.eg,fun b u q m=>bE hp _ b u (R.eh b u q m),fun b q=>R.al b ((bE hp _).free q),R.fr,⟨my ow p (some (i,("":Str))),⟨fun b k hk=>?_⟩,fun j s hs=>?_⟩,by rw [List.length_set,List.length_set];exact R.len⟩
 ·by_cases hb:b=p
  ·subst hb;exact ⟨hG,by rw [aO];exact (fun z=>by cases z),.inl (R.al _ hp)⟩
  ·rw [cu hb] at hk
   obtain ⟨h1,h2,h3⟩:=ok.is b k hk;exact ⟨h1,v9 h2,h3⟩
 ·rcases kR hs with ⟨e,rfl,hl⟩ | ⟨e,hs⟩
  ·subst e
   exact ⟨p,vs,List.getElem?_set_self (aM hl (Nat.le_of_eq R.len)),aO,R.al p hp,gX,hv⟩
  ·rw [List.getElem?_set_ne e]
   exact (gh j s hs).keep (aX.refl _) (fun b f z=>by rw [cu (FY _ _ z)];exact z) fun b f u z q=>by rw [aF (FY _ _ z)];exact q
def Rel.freeze (R:Rel K n Z U G H) {l:List D}{i:Nat} (hi:Z[i]?=some (.ow l)):∃G',Rel K n (Z.set i (.sh (.lst l))) U G' H/\aX G G':=by
 obtain ⟨ow,ok,gh⟩:=R.gh;obtain ⟨p,vs,g1,g2,g4,g6,g5⟩:=gh i _ hi;have g3:=(ok.is _ _ g6).1;have s1:aX G (upd G p (.lst vs)):=bE g3 _;refine ⟨upd G p (.lst vs),⟨fun b u e=>?_,R.eg.trans s1,R.eh,R.al,fun b u e e0=>?_,⟨my ow p none,⟨fun b k hk=>?_⟩,fun j s hs=>?_⟩,by rw [List.length_set];exact R.len⟩,s1⟩
 ·by_cases hb:b=p
  ·subst hb;rw [aO] at e;rw [g2];exact e
  ·rw [aF hb] at e;exact R.sub b u e
 ·by_cases hb:b=p
  ·subst hb;exact g4
  ·rw [aF hb] at e;exact R.fr b u e e0
 ·by_cases hb:b=p
  ·subst hb;rw [gX] at hk;cases hk
  ·rw [cu hb] at hk;rw [aF hb];exact ok.is b k hk
 ·rcases kR hs with ⟨e,rfl,hl⟩ | ⟨e,hs⟩
  ·subst e
   exact ⟨.ref p,g1,.lst (kC.of aO) (g5.up s1)⟩
  ·refine (gh j s hs).keep s1 (fun b f z=>?_) fun _ _ _ _ q=>q
   have:b≠p:=fun w=>by subst w;rw [g6] at z;cases z;exact e rfl
   rw [cu this];exact z
def Rel.change (R:Rel K n Z U G H) {l:List D}{i:Nat} (hi:Z[i]?=some (.ow l)) (hp:U[i]?=some (some (.ref p))) {vs:List V}{ds:List D} (hv:bP K G vs ds) :
  Rel K n (Z.set i (.ow ds)) U G (upd H p (.lst vs)):=by
 obtain ⟨ow,ok,gh⟩:=R.gh;obtain ⟨q,ws,g1,g2,g4,g6,g5⟩:=gh i _ hi;have g3:=(ok.is _ _ g6).1;rw [hp] at g1;cases g1;have ne:∀b u,G b=some u->b≠p:=fun b u e z=>by subst z;rw [g3] at e;cases e
 refine ⟨fun b u e=>by rw [aF (ne b u e)];exact R.sub b u e,R.eg,fun b u q m=>?_,fun b q=>?_,R.fr,⟨ow,⟨fun b k hk=>?_⟩,fun j s hs=>?_⟩,by rw [List.length_set];exact R.len⟩
 ·have:b≠p:=fun z=>by subst z;rw [g4] at q;cases q
  rw [aF this];exact R.eh b u q m
 ·by_cases hb:b=p
  ·subst hb;exact g4
  ·rw [aF hb] at q;exact R.al b q
 ·obtain ⟨h1,h2,h3⟩:=ok.is b k hk;exact ⟨h1,v9 h2,h3⟩
 ·rcases kR hs with ⟨e,rfl,hl⟩ | ⟨e,hs⟩
  ·subst e
   exact ⟨p,vs,hp,aO,g4,g6,hv⟩
  ·refine (gh j s hs).keep (aX.refl _) (fun _ _ z=>z) fun b f u z q=>?_
   have:b≠p:=fun w=>by subst w;rw [g6] at z;cases z;exact e rfl
   rw [aF this];exact q
def Rel.rebase (R:Rel K n Z U G H):Rel K ⟨G,n.H,n.M⟩ Z U G H:=by
 obtain ⟨ow,ok,gh⟩:=R.gh;refine ⟨R.sub,aX.refl _,R.eh,R.al,fun b o e (e0:G b=none)=>(by rw [e0] at e;cases e),⟨ow,⟨ok.is⟩,fun i s hs=>?_⟩,R.len⟩;have h:=gh i s hs;cases s <;> exact h
def Rel.Ek (R:Rel K n Z U G H) (S:Rel K ⟨G,n.H,n.M⟩ Z' U' G' H'):Rel K n Z' U' G' H':=by
 obtain ⟨ow,ok,gh⟩:=S.gh;refine ⟨S.sub,R.eg.trans S.eg,S.eh,S.al,fun b o e e0=>(by
  cases q:G b with
  | none=>exact S.fr b o e q
  | some w=>exact R.fr b w q e0),⟨ow,⟨ok.is⟩,fun i s hs=>?_⟩,S.len⟩
 have h:=gh i s hs;cases s <;> exact h
end
section
variable {K:Frag}{n:En}{Z:Ev}{U:L2.St}{G H:Hp}{D₀:Addr}{o u:HO}
def Rel.II (R:Rel K n Z U G H) (h:H D₀=none):H D₀=none:=h
def Rel.other (R:Rel K n Z U G H) (hG:G D₀=none) (hn:n.H D₀=none) (ho:H D₀=none) (o:HO):Rel K n Z U G (upd H D₀ o) :=
 R.ext ⟨aX.refl _,R.sub.trans (bE ho o),bE ho o,fun b v e e0=>(by rw [e0] at e;cases e)⟩
noncomputable def del (H:Hp) (D₀:Addr):Hp:=fun b=>if b=D₀ then none else H b
def eY:del H D₀ D₀=none:=if_pos rfl
def eJ {b:Addr} (h:b≠D₀):del H D₀ b=H b:=if_neg h
def NF (h:H D₀=none):del H D₀=H:=by
 funext b
 by_cases hb:b=D₀
 ·subst hb;rw [eY,h]
 ·exact eJ hb
def Kn:del (upd H D₀ o) D₀=del H D₀:=by
 funext b
 by_cases hb:b=D₀
 ·subst hb;rw [eY,eY]
 ·rw [eJ hb,eJ hb,aF hb]
def Ko (h:H D₀=some o):upd (del H D₀) D₀ o=H:=by
 funext b
 by_cases hb:b=D₀
 ·subst hb;rw [aO,h]
 ·rw [aF hb,eJ hb]
def Ext.del {G' H':Hp} (e:Ext G H G' H') (h:G' D₀=none):Ext G (del H D₀) G' (Dl.del H' D₀):=by
 refine ⟨e.gg,fun b v q=>?_,fun b v q=>?_,fun b v q q0=>?_⟩
 ·rw [eJ (cq q h)];exact e.gh b v q
 ·by_cases hb:b=D₀
  ·subst hb;rw [eY] at q;cases q
  ·rw [eJ hb] at q ⊢;exact e.hh b v q
 ·rw [eJ (cq q h)];exact e.fr b v q q0
def Rel.know (R:Rel K n Z U G (del H D₀)) (hH:H D₀=some o):Rel K n Z U (upd G D₀ o) H:=by
 have z:=R.laid (p:=D₀) eY o;rwa [Ko hH] at z
def Rel.XC (R:Rel K n Z U G (del H D₀)) (hH:H D₀=some o):Rel K n Z U G H:=by
 have z:=R.other (R.sub.free eY) (R.al _ eY) eY o;rwa [Ko hH] at z
noncomputable def oj (Z:Ev):Ev:=Z.map fun s=>match s with
 | .sh d=>.sh d
 | _=>.no
def Rel.inner (R:Rel K n Z U G H) (k:Nat):Rel K ⟨G,H,fun _=>False⟩ (oj Z++List.replicate k .no) (U++List.replicate k none) G H:=by
 refine ⟨R.sub,aX.refl _,fun b o e _=>e,fun b e=>e,fun b o e (e0:G b=none)=>(by rw [e0] at e;cases e),⟨fun _=>none,⟨fun _ _ z=>by cases z⟩,fun i s hs=>?_⟩,?_⟩
 ·by_cases hi:i<(oj Z).length
  ·have hi':i<U.length:=by rw [<-R.len];simpa [oj] using hi
   rw [List.getElem?_append_left hi,oj,List.getElem?_map] at hs;rw [List.getElem?_append_left hi'];cases q:Z[i]? with
   | none=>rw [q] at hs;cases hs
   | some s' =>
    rw [q] at hs;have h:=R.sl i s' q;cases s' with
    | sh d=>cases hs;exact h
    | no=>cases hs;trivial
    | ow l=>cases hs;trivial
    | mu a l=>cases hs;trivial
    | ob h C fs=>cases hs;trivial
    | pt a=>cases hs;trivial
    | rc h fs=>cases hs;trivial
    | hb a C fs=>cases hs;trivial
    | hd a z kvs=>cases hs;trivial
  ·rw [List.getElem?_append_right (by omega),List.getElem?_replicate] at hs
   split at hs
   ·cases hs;trivial
   ·cases hs
 ·rw [List.length_append,List.length_append,List.length_replicate,List.length_replicate,oj,List.length_map,R.len]
def Rel.Kp {G' H':Hp} (R:Rel K ⟨G,H,fun _=>False⟩ Z U G' H'):Ext G H G' H':=⟨R.eg,R.sub,fun b o e=>R.eh b o e (fun z=>z),fun b o e e0=>R.fr b o e e0⟩
end
abbrev QE:=D->Ev->Prop
abbrev fV:=Ev->QE->Prop
abbrev qN:=Ev->(List D->Ev->Prop)->Prop
abbrev qO:=Ev->(Bool->Ev->Prop)->Prop
def lE (K:Frag) (t:fV):TE:=fun U H Q2=>∃(n:En) (Z:Ev) (G:Hp) (Q:QE),Rel K n Z U G H/\t Z Q /\
 ∀(v:V) (G' H':Hp) (d:D) (Z':Ev),Rel K n Z' U G' H'->aX G G'->Den K G' v d->Q d Z'->Q2 v H'
def lE.el {K:Frag}{t:fV}{U H Q2}{P:Prop} (x:lE K t U H Q2) (k:∀(n:En) (Z:Ev) (G:Hp) (Q:QE),(Rel K n Z U G H)->(t Z Q)->(∀(v:V) (G' H':Hp) (d:D) (Z':Ev),Rel K n Z' U G' H'->aX G G'->Den K G' v d->Q d Z'->Q2 v H')->P):P:=by
 have ⟨n,Z,G,Q,h0,h1,h2⟩:=x;exact k n Z G Q h0 h1 h2
def lA (K:Frag) (t:qN):TA:=fun U H Q2=>∃(n:En) (Z:Ev) (G:Hp) (Q:List D->Ev->Prop),Rel K n Z U G H/\t Z Q /\
 ∀(v:List V) (G' H':Hp) (d:List D) (Z':Ev),Rel K n Z' U G' H'->aX G G'->bP K G' v d->Q d Z'->Q2 v H'
def lA.el {K:Frag}{t:qN}{U H Q2}{P:Prop} (x:lA K t U H Q2) (k:∀(n:En) (Z:Ev) (G:Hp) (Q:List D->Ev->Prop),(Rel K n Z U G H)->(t Z Q)->(∀(v:List V) (G' H':Hp) (d:List D) (Z':Ev),Rel K n Z' U G' H'->aX G G'->bP K G' v d->Q d Z'->Q2 v H')->P):P:=by
 have ⟨n,Z,G,Q,h0,h1,h2⟩:=x;exact k n Z G Q h0 h1 h2
def lT (K:Frag) (t:qO):TT:=fun U H Q2=>∃(n:En) (Z:Ev) (G:Hp) (Q:Bool->Ev->Prop),Rel K n Z U G H/\t Z Q /\
 ∀(b:Bool) (G' H':Hp) (Z':Ev),Rel K n Z' U G' H'->aX G G'->Q b Z'->Q2 b H'
def lT.el {K:Frag}{t:qO}{U H Q2}{P:Prop} (x:lT K t U H Q2) (k:∀(n:En) (Z:Ev) (G:Hp) (Q:Bool->Ev->Prop),(Rel K n Z U G H)->(t Z Q)->(∀(b:Bool) (G' H':Hp) (Z':Ev),Rel K n Z' U G' H'->aX G G'->Q b Z'->Q2 b H')->P):P:=by
 have ⟨n,Z,G,Q,h0,h1,h2⟩:=x;exact k n Z G Q h0 h1 h2
abbrev DE (X:Cx) (e:Expr) (t:fV):Prop:=PE X e (lE X.K t)
abbrev DA (X:Cx) (es:List Expr) (t:qN):Prop:=PA X es (lA X.K t)
abbrev DT (X:Cx) (e:Expr) (t:qO):Prop:=PT X e (lT X.K t)
abbrev DW (X:Cx) (e:Expr) (t:qO):Prop:=PW X e (lT X.K t)
def cN {X:Cx}{e:Expr}{t t':TE} (h:PE X e t) (hi:∀U H Q,t' U H Q->t U H Q):PE X e t':=fun pins s U H Q I q=>h pins s U H Q I (hi U H Q q)
def xy {X:Cx}{e:Expr}{t t':TT} (h:PT X e t) (hi:∀U H Q,t' U H Q->t U H Q):PT X e t':=fun pins s U H Q I q=>h pins s U H Q I (hi U H Q q)
def NG {X:Cx}{e:Expr}{t t':TT} (h:PW X e t) (hi:∀U H Q,t' U H Q->t U H Q):PW X e t':=fun wh pins s U H Q I q=>h wh pins s U H Q I (hi U H Q q)
def AA {X:Cx}{es:List Expr}{t t':TA} (h:PA X es t) (hi:∀U H Q,t' U H Q->t U H Q):PA X es t':=fun pos pins s U H Q I q=>h pos pins s U H Q I (hi U H Q q)
def eR {X:Cx}{st:Stmt}{t t':TS} (h:PS X st t) (hi:∀D U H,t' D U H->t D U H):PS X st t':=fun pins s U H D I q=>h pins s U H D I (hi D U H q)
def pL {X:Cx}{st:List Stmt}{t t':TS} (h:Gf X st t) (hi:∀D U H,t' D U H->t D U H):Gf X st t':=fun pins s U H D I q=>h pins s U H D I (hi D U H q)
def au (i:Nat):fV:=fun Z Q=>match Z[i]? with
 | some (.sh d)=>Q d Z
 | _=>False
def dC (d:D):fV:=fun Z Q=>Q d Z
section
variable {X:Cx}{a b c:Expr}{ta tb tc:fV}{pos:Pos}
def dv (i:Nat) {x:Str}{pos:Pos} (hN:X.N[i]?=some x:=by rfl) (hv:rX X.env.scope x:=by first | exact Or.inl rfl | exact Or.inr (Or.inl rfl) | exact Or.inr (Or.inr rfl)) (hd:(x==("__debug__":Str))=false:=by decide)
  (gL:(x==("__classdict__":Str))=false:=by decide):DE X (.Name x pos) (au i) :=
 cN (fe hN hv hd gL) fun U H Q2 hx=>hx.el fun n Z G Q R h k=>by
  unfold au at h
  split at h
  ·rename_i d e
   obtain ⟨v,h1,h2⟩:=R.sl i _ e;exact ⟨v,h1,k v G H d Z R (aX.refl _) h2 h⟩
  ·exact h.elim
def Gr {d:D}{v:V}{e:Expr} (h:PE X e (tC v)) (hd:∀G,Den X.K G v d):DE X e (dC d) :=
 cN h fun U H Q2 hx=>hx.el fun n Z G Q R h k=>k v G H d Z R (aX.refl _) (hd G) h
def aq {i j pos}:DE X (.Constant (.int i) j pos) (dC (.int i)):=Gr TY fun _=>.int i
def wa {i j pos}:DE X (.Constant (.bool i) j pos) (dC (.bl i)):=Gr Na fun _=>.bl i
def eK {j pos}:DE X (.Constant .none j pos) (dC .bX):=Gr Nb fun _=>.bX
def fH {x j pos}:DE X (.Constant (.str x) j pos) (dC (.str x)):=Gr xq fun _=>.str x
def iT {x:Str}{i:Int}{t:Tok}{pos:Pos} (hm:X.mg x=some (.int i t)) (hg:Gl X x:=by rfl) (hd:(x==("__debug__":Str))=false:=by decide):DE X (.Name x pos) (dC (.int i)) :=
 Gr (v:=.int i) (vY hg hm ⟨t,rfl⟩ hd) fun _=>.int i
abbrev RD:=D->D->(D->Prop)->Prop
def aY (r:RD) (ta tb:fV):fV:=fun Z Q=>ta Z fun x Z1=>tb Z1 fun y Z2=>r x y fun d=>Q d Z2
def Ij (K:Frag) (r2:R2) (r:RD):Prop:=∀(G H:Hp) (x y:V) (dx dy:D) (Q:D->Prop) (Q2:VK),aX G H->Den K G x dx->Den K G y dy->r dx dy Q ->
 (∀(v:V) (G' H':Hp) (d:D),Ext G H G' H'->Den K G' v d->Q d->Q2 v H')->r2 x y H Q2
def oO.or {f:Value->Value->Sem Value}{r r':R2} (h:oO X f r) (h':oO X f r'):oO X f (fun x y H Q=>r x y H Q\/r' x y H Q) :=
 fun pins s U H x y v u Q I rx ry q=>q.elim (h pins s U H x y v u Q I rx ry) (h' pins s U H x y v u Q I rx ry)
def zO {r2:R2}{r:RD} (hs:Ij X.K r2 r):∀U H Q,lE X.K (aY r ta tb) U H Q->Xh r2 (lE X.K ta) (lE X.K tb) U H Q:=fun U H Q2 hx=>hx.el fun n Z G Q R h k =>
 ⟨n,Z,G,_,R,h,fun v G1 H1 x Z1 R1 s1 d1 h1=>⟨n,Z1,G1,_,R1,h1,fun w G2 H2 y Z2 R2 s2 d2 h2 =>
  hs G2 H2 v w x y _ Q2 R2.sub (d1.up s2) d2 h2 fun u G3 H3 d e3 d3 q3=>k u G3 H3 d Z2 (R2.ext e3) (s1.trans (s2.trans e3.gg)) d3 q3⟩⟩
def AB {op:Operator}{r2:R2}{r:RD} (ho:oO X (binaryOp op) r2) (hs:Ij X.K r2 r) (ha:DE X a ta) (hb:DE X b tb):DE X (.BinOp a op b pos) (aY r ta tb) :=
 cN (SS ho ha hb) (zO hs)
def IJ {op:CmpOp}{r2:R2}{r:RD} (ho:oO X (compareOp op) r2) (hs:Ij X.K r2 r) (ha:DE X a ta) (hb:DE X b tb) (hm:behindInMarks op b=false):DE X (.Compare a [op] [b] pos) (aY r ta tb) :=
 cN (QB ho ha hb hm) (zO hs)
def NH {r2:R2}{r:RD} (ho:Qn X r2) (hs:Ij X.K r2 r) (ha:DE X a ta) (hb:DE X b tb) (hp:zM b):DE X (.Subscript a b pos) (aY r ta tb) :=
 cN (Xs ho ha hb hp) (zO hs)
def dB (t:fV):qO:=fun Z Q=>t Z fun x Z1=>match x with
 | .bl c=>Q c Z1
 | _=>False
def pM {op:CmpOp}{r2:R2}{r:RD} (ho:oO X (compareOp op) r2) (hs:Ij X.K r2 r) (ha:DE X a ta) (hb:DE X b tb) (hm:behindInMarks op b=false):DT X (.Compare a [op] [b] pos) (dB (aY r ta tb)) :=
 xy (Ea ho ha hb hm) fun U H Q2 hx=>hx.el fun n Z G Q R h k=>zO hs U H _ ⟨n,Z,G,_,R,h,fun v G1 H1 d Z1 R1 s1 d1 h1=>by
  cases d with
  | bl c=>exact ⟨c,d1.Az,k c G1 H1 Z1 R1 s1 h1⟩
  | _=>exact h1.elim⟩
def UB:D->(Bool->Prop)->Prop
 | .bX,Q=>Q false
 | .bl b,Q=>Q b
 | .int i,Q=>Q (i != 0)
 | .str y,Q=>y.length<=sizeLine/\Q ((y.length:Int) != 0)
 | .tup l,Q=>Q (!l.isEmpty)
 | .lst l,Q=>Q (!l.isEmpty)
 | .pt _,_=>False
def QS {K:Frag}{G H:Hp}{x:V}{d:D} (s:aX G H) (h:Den K G x d) {Q:Bool->Prop} (q:UB d Q):∃k,Ul K x H k/\Q k:=by
 cases h with
 | bX=>exact ⟨_,rfl,q⟩
 | bl b=>exact ⟨_,rfl,q⟩
 | int i=>exact ⟨_,rfl,q⟩
 | pt a=>exact q.elim
 | str y=>exact ⟨_,⟨q.1,rfl⟩,q.2⟩
 | tup h l=>refine ⟨_,.inr (.inl ⟨_,aX.tupS s h,rfl⟩),?_⟩;cases l <;> exact q
 | lst h l=>refine ⟨_,.inl ⟨_,s.seq h,rfl⟩,?_⟩;cases l <;> exact q
def wb (t u:qO):qO:=fun Z Q=>t Z fun c Z1=>if c=true then u Z1 Q else Q false Z1
def WJ (t u:qO):qO:=fun Z Q=>t Z fun c Z1=>if c=true then Q true Z1 else u Z1 Q
def IK (t:qO):qO:=fun Z Q=>t Z fun c Z1=>Q (!c) Z1
variable {tA tB':qO}{rest:List Expr}
def iU (ha:DT X a tA):DW X (.BoolOp .And [a] pos) tA:=Qw ha
def El (ha:DT X a tA):DW X (.BoolOp .Or [a] pos) tA:=TZ ha
def lN (ha:DT X a tA) (hb:DW X (.BoolOp .And (b::rest) pos) tB'):DW X (.BoolOp .And (a::b::rest) pos) (wb tA tB') :=
 NG (T1 ha hb) fun U H Q2 hx=>hx.el fun n Z G Q R h k=>⟨n,Z,G,_,R,h,fun c G1 H1 Z1 R1 s1 h1=>by
  cases c with
  | true=>exact Ei ⟨n,Z1,G1,Q,R1,h1,fun b G2 H2 Z2 R2 s2 h2=>k b G2 H2 Z2 R2 (s1.trans s2) h2⟩
  | false=>exact Eh (k false G1 H1 Z1 R1 s1 h1)⟩
def Kq (ha:DT X a tA) (hb:DW X (.BoolOp .Or (b::rest) pos) tB'):DW X (.BoolOp .Or (a::b::rest) pos) (WJ tA tB') :=
 NG (W9 ha hb) fun U H Q2 hx=>hx.el fun n Z G Q R h k=>⟨n,Z,G,_,R,h,fun c G1 H1 Z1 R1 s1 h1=>by
  cases c with
  | false=>exact Eh ⟨n,Z1,G1,Q,R1,h1,fun b G2 H2 Z2 R2 s2 h2=>k b G2 H2 Z2 R2 (s1.trans s2) h2⟩
  | true=>exact Ei (k true G1 H1 Z1 R1 s1 h1)⟩
def uB {e:Expr} (h:DW X e tA):DT X e tA:=h.pt
def AD (ha:DT X a tA):DT X (.UnaryOp .Not a pos) (IK tA) :=
 xy (T3 ha) fun U H Q2 hx=>hx.el fun n Z G Q R h k=>⟨n,Z,G,_,R,h,fun c G1 H1 Z1 R1 s1 h1=>k (!c) G1 H1 Z1 R1 s1 h1⟩
def Kr (ta tb:fV):fV:=fun Z Q=>ta Z fun x Z1=>match x with
 | .bl c=>if c=true then tb Z1 Q else Q (.bl false) Z1
 | _=>False
def NI {op} (h:DE X a ta):DE X (.BoolOp op [a] pos) ta:=T4 h
def NJ (ha:DE X a ta) (hb:DE X (.BoolOp .And (b::rest) pos) tb):DE X (.BoolOp .And (a::b::rest) pos) (Kr ta tb) :=
 cN (L2.T5 ha hb) fun U H Q2 hx=>hx.el fun n Z G Q R h k=>⟨n,Z,G,_,R,h,fun v G1 H1 d Z1 R1 s1 d1 h1=>by
  cases d with
  | bl c =>
   refine ⟨c,d1.Az,?_⟩;cases c with
   | true=>exact Ei ⟨n,Z1,G1,Q,R1,h1,fun b G2 H2 d Z2 R2 s2 d2 h2=>k b G2 H2 d Z2 R2 (s1.trans s2) d2 h2⟩
   | false=>exact Eh (k _ G1 H1 _ Z1 R1 s1 (.bl false) h1)
  | _=>exact h1.elim⟩
def Qo (t:qO) (ta tb:fV):fV:=fun Z Q=>t Z fun c Z1=>if c=true then ta Z1 Q else tb Z1 Q
def yu (hc:DT X c tA) (ha:DE X a ta) (hb:DE X b tb):DE X (.IfExp c a b pos) (Qo tA ta tb) :=
 cN (Gg hc ha hb) fun U H Q2 hx=>hx.el fun n Z G Q R h k=>⟨n,Z,G,_,R,h,fun c G1 H1 Z1 R1 s1 h1=>by
  cases c with
  | true=>exact Ei ⟨n,Z1,G1,Q,R1,h1,fun v G2 H2 d Z2 R2 s2 d2 h2=>k v G2 H2 d Z2 R2 (s1.trans s2) d2 h2⟩
  | false=>exact Eh ⟨n,Z1,G1,Q,R1,h1,fun v G2 H2 d Z2 R2 s2 d2 h2=>k v G2 H2 d Z2 R2 (s1.trans s2) d2 h2⟩⟩
variable {e:Expr}{es:List Expr}{te:fV}{t:qN}
def bq:qN:=fun Z Q=>Q [] Z
def av (ta:fV) (tr:qN):qN:=fun Z Q=>ta Z fun x Z1=>tr Z1 fun xs Z2=>Q (x::xs) Z2
def aH:DA X [] bq:=AA kD fun U H Q2 hx=>hx.el fun n Z G Q R h k=>k [] G H [] Z R (aX.refl _) .nil h
def ah (ha:DE X e te) (hr:DA X es t) (hs:starEach (e::es) X.env=(false,eval e X.env)::starEach es X.env:=by rfl):DA X (e::es) (av te t) :=
 AA (gm ha hr hs) fun U H Q2 hx=>hx.el fun n Z G Q R h k=>⟨n,Z,G,_,R,h,fun v G1 H1 d Z1 R1 s1 d1 h1=>⟨n,Z1,G1,_,R1,h1,fun vs G2 H2 ds Z2 R2 s2 d2 h2 =>
  k (v::vs) G2 H2 (d::ds) Z2 R2 (s1.trans s2) (.cons (d1.up s2) d2) h2⟩⟩
def nG (t:qN):fV:=fun Z Q=>t Z fun xs Z1=>xs.length<=sizeLine/\Q (.tup xs) Z1
def uC (t:qN):fV:=fun Z Q=>t Z fun xs Z1=>xs.length<=sizeLine/\Q (.lst xs) Z1
def gp {x1} (h:DA X es t):DE X (.Tuple es x1 pos) (nG t) :=
 cN (L2.Uo h) fun U H Q2 hx=>hx.el fun n Z G Q R h k=>⟨n,Z,G,_,R,h,fun vs G1 H1 ds Z1 R1 s1 d1 h1=>⟨by rw [d1.length];exact h1.1,fun p hp =>
  k _ _ _ _ Z1 (R1.laid hp _) (s1.trans (bE (R1.sub.free hp) _)) (.tup (rE.of aO) (d1.up (bE (R1.sub.free hp) _))) h1.2⟩⟩
def jR (h:DA X es t):DE X (.List es pos) (uC t) :=
 cN (L2.Nr h) fun U H Q2 hx=>hx.el fun n Z G Q R h k=>⟨n,Z,G,_,R,h,fun vs G1 H1 ds Z1 R1 s1 d1 h1=>⟨by rw [d1.length];exact h1.1,fun p hp =>
  k _ _ _ _ Z1 (R1.laid hp _) (s1.trans (bE (R1.sub.free hp) _)) (.lst (kC.of aO) (d1.up (bE (R1.sub.free hp) _))) h1.2⟩⟩
abbrev RC:=List D->(D->Prop)->Prop
def oS (K:Frag) (r2:List V->Hp->VK->Prop) (r:RC):Prop:=∀(G H:Hp) (xs:List V) (ds:List D) (Q:D->Prop) (Q2:VK),aX G H->bP K G xs ds->r ds Q ->
 (∀(v:V) (G' H':Hp) (d:D),Ext G H G' H'->Den K G' v d->Q d->Q2 v H')->r2 xs H Q2
def bg (r:RC) (t:qN):fV:=fun Z Q=>t Z fun ds Z1=>r ds fun d=>Q d Z1
def fU.or {f:Value}{r r':List V->Hp->VK->Prop} (h:fU X f r) (h':fU X f r'):fU X f (fun xs H Q=>r xs H Q\/r' xs H Q) :=
 fun pins s U H xs us Q I rx q=>q.elim (h pins s U H xs us Q I rx) (h' pins s U H xs us Q I rx)
def C8 {r2:List V->Hp->VK->Prop}{r:RC} (hs:oS X.K r2 r):∀U H Q,lE X.K (bg r t) U H Q->ZZ r2 (lA X.K t) U H Q:=fun U H Q2 hx=>hx.el fun n Z G Q R h k =>
 ⟨n,Z,G,_,R,h,fun vs G1 H1 ds Z1 R1 s1 d1 h1=>hs G1 H1 vs ds _ Q2 R1.sub d1 h1 fun u G3 H3 d e3 d3 q3=>k u G3 H3 d Z1 (R1.ext e3) (s1.trans e3.gg) d3 q3⟩
variable {x:Str}{p:Pos}{id T:String}
def mZ {r2:List V->Hp->VK->Prop}{r:RC} (hc:fU X (.builtin id) r2) (hs:oS X.K r2 r) (hm:X.mg x=none) (hv:bootBuiltins x=some (.builtin id)) (ha:DA X (e::es) t) (hg:Gl X x:=by rfl) (hn:x≠"__name__":=by decide) (zg:(x==("__debug__":Str))=false:=by decide)
  (he:starEach (e::es) X.env=(false,eval e X.env)::starEach es X.env:=by rfl) (lL:(backTo pos (starEach es X.env)).any (·.1)=false:=by rfl):DE X (.Call (.Name x p) (e::es) [] pos) (bg r t) :=
 cN (oP hc hg hm hv ha hn zg he lL) (C8 hs)
def LL {r2:List V->Hp->VK->Prop}{r:RC} (hc:fU X (.type T) r2) (hs:oS X.K r2 r) (hm:X.mg x=none) (hv:bootBuiltins x=some (.type T)) (ha:DA X (e::es) t) (hg:Gl X x:=by rfl) (hn:x≠"__name__":=by decide) (zg:(x==("__debug__":Str))=false:=by decide)
  (he:starEach (e::es) X.env=(false,eval e X.env)::starEach es X.env:=by rfl) (lL:(backTo pos (starEach es X.env)).any (·.1)=false:=by rfl):DE X (.Call (.Name x p) (e::es) [] pos) (bg r t) :=
 cN (ua hc hg hm hv ha hn zg he lL) (C8 hs)
end
abbrev xA:=List D->(D->Prop)->Prop
def jO (K:Frag) (S:xA):Sp:=fun vs H Q _=>∃(G:Hp) (ds:List D) (Qd:D->Prop),aX G H/\bP K G vs ds/\S ds Qd /\
 ∀(v:V) (G' H':Hp) (d:D),Ext G H G' H'->Den K G' v d->Qd d->Q v H'
section
variable {X:Cx}{k:Nat}{f:Addr}{fd:FuncData}{ps:List Str}{S:xA}{x:Str}{p pos:Pos}{e:Expr}{es:List Expr}{t:qN}
def bu (F:cM X.prog X.w X.K X.mg X.base jQ k f fd ps (jO X.K S)) (hr:fG k X.A) (hm:X.mg x=some (.ref f)) (hk:keepIn X.K (.ref f)=true) (hb:Binds X.K fd ps [])
  (ha:DA X (e::es) t) (hg:Gl X x:=by rfl) (zg:(x==("__debug__":Str))=false:=by decide) (he:starEach (e::es) X.env=(false,eval e X.env)::starEach es X.env:=by rfl) (lL:(backTo pos (starEach es X.env)).any (·.1)=false:=by rfl) :
  DE X (.Call (.Name x p) (e::es) [] pos) (bg S t) :=
 cN (Ec F hr hg hm hk hb .nil Gq ha zg he lL) fun U H Q2 hx=>hx.el fun n Z G Q R h kk=>⟨n,Z,G,_,R,h,fun vs G1 H1 ds Z1 R1 s1 d1 h1=>by
  show jO X.K S (vs++[]) H1 Q2 E0;rw [List.append_nil];exact ⟨G1,ds,_,R1.sub,d1,h1,fun v G2 H2 d e2 d2 q2=>kk v G2 H2 d Z1 (R1.ext e2) (s1.trans e2.gg) d2 q2⟩⟩
end
structure wc where
 nx:Ev->Prop
 rt:D->Ev->Prop
 bk:Ev->Prop:=fun _=>False
 ct:Ev->Prop:=fun _=>False
abbrev dA:=wc->Ev->Prop
structure NK (K:Frag) (n:En) (E:wc) (F:Ends):Prop where
 nx:∀Z U G H,Rel K n Z U G H->E.nx Z->F.nx U H
 rt:∀v d Z U G H,Rel K n Z U G H->Den K G v d->E.rt d Z->F.rt v H
 bk:∀Z U G H,Rel K n Z U G H->E.bk Z->F.bk U H
 ct:∀Z U G H,Rel K n Z U G H->E.ct Z->F.ct U H
def lS (K:Frag) (t:dA):TS:=fun F U H=>∃(n:En) (Z:Ev) (G:Hp) (E:wc),Rel K n Z U G H/\t E Z/\NK K n E F
def lS.el {K:Frag}{t:dA}{F U H}{P:Prop} (x:lS K t F U H) (k:∀(n:En) (Z:Ev) (G:Hp) (E:wc),(Rel K n Z U G H)->(t E Z)->(NK K n E F)->P):P:=by
 have ⟨n,Z,G,E,h0,h1,h2⟩:=x;exact k n Z G E h0 h1 h2
abbrev DS (X:Cx) (st:Stmt) (t:dA):Prop:=PS X st (lS X.K t)
abbrev Em (X:Cx) (st:List Stmt) (t:dA):Prop:=Gf X st (lS X.K t)
section
variable {X:Cx}{st:Stmt}{rest:List Stmt}{t u:dA}{pos:Pos}{e:Expr}{te:fV}
def cF:dA:=fun E Z=>E.nx Z
def aS (t u:dA):dA:=fun E Z=>t { E with nx:=u E } Z
def bz:Em X [] cF:=pL D7 fun F U H hx=>hx.el fun n Z G E R h k=>k.nx Z U G H R h
def aA (h1:DS X st t) (h2:Em X rest u):Em X (st::rest) (aS t u) :=
 pL (r8 h1 h2) fun F U H hx=>hx.el fun n Z G E R h k=>⟨n,Z,G,_,R,h,⟨fun Z' U' G' H' R' h'=>⟨n,Z',G',E,R',h',k⟩,k.rt,k.bk,k.ct⟩⟩
def aD (h1:DS X st t):Em X [st] t:=Kf h1
def qP (te:fV):dA:=fun E Z=>te Z fun _ Z1=>E.nx Z1
def kS (he:DE X e te) (hs:swapsWith e none pos.line X.env=pure false:=by rfl):DS X (.Expr e pos) (qP te) :=
 eR (t9 he hs) fun F U H hx=>hx.el fun n Z G E R h k=>⟨n,Z,G,_,R,h,fun v G1 H1 d Z1 R1 s1 d1 h1=>k.nx Z1 U G1 H1 R1 h1⟩
def cO (te:fV):dA:=fun E Z=>te Z E.rt
def ba (he:DE X e te):DS X (.Return (some e) pos) (cO te) :=
 eR (Ip he) fun F U H hx=>hx.el fun n Z G E R h k=>⟨n,Z,G,_,R,h,fun v G1 H1 d Z1 R1 s1 d1 h1=>k.rt v d Z1 U G1 H1 R1 d1 h1⟩
def dN (c:qO) (t u:dA):dA:=fun E Z=>c Z fun b Z1=>if b=true then t E Z1 else u E Z1
def cc {c:Expr}{a b:List Stmt}{tc:qO} (hc:DT X c tc) (ha:Em X a t) (hb:Em X b u):DS X (.If c a b pos) (dN tc t u) :=
 eR (Nd hc ha hb) fun F U H hx=>hx.el fun n Z G E R h k=>⟨n,Z,G,_,R,h,fun c G1 H1 Z1 R1 s1 h1=>by
  cases c with
  | true=>exact Ei ⟨n,Z1,G1,E,R1,h1,k⟩
  | false=>exact Eh ⟨n,Z1,G1,E,R1,h1,k⟩⟩
def lP:dA:=fun _ _=>False
def oU:DS X st lP:=fun _ _ _ _ _ _ ⟨_,_,_,_,_,h,_⟩=>h.elim
def xB {S3:List Stmt}:Em X S3 lP:=fun _ _ _ _ _ _ ⟨_,_,_,_,_,h,_⟩=>h.elim
def dH (i:Nat) (te:fV):dA:=fun E Z=>te Z fun d Z1=>E.nx (Z1.set i (.sh d))
def bR (i:Nat) {x:Str}{pos':Pos} (hN:X.N.Nodup) (he:DE X e te) (hi:X.N[i]?=some x:=by rfl) (hx:Loc X.env.scope x:=by first | exact Or.inl rfl | exact Or.inr rfl) (hs:swapsWith e (some (.Name x pos')) pos.line X.env=pure false:=by rfl)
  (hf:X.fn x=true\/X.env.scope.names.lookup x=some .local:=by first | exact .inl rfl | exact .inr rfl | assumption):DS X (.Assign [.Name x pos'] e pos) (dH i te) :=
 eR (xt (i:=i) hN hi hx he hs hf) fun F U H hx=>hx.el fun n Z G E R h k=>⟨n,Z,G,_,R,h,fun v G1 H1 d Z1 R1 s1 d1 h1=>k.nx _ _ G1 H1 (R1.set i d1) h1⟩
def LM (i:Nat) (ta:qN):dA:=fun E Z=>ta Z fun ds Z1=>ds.length<=sizeLine/\E.nx (Z1.set i (.ow ds))
def Eo (i:Nat) {x:Str}{pos' lp:Pos}{es:List Expr}{ta:qN} (hN:X.N.Nodup) (he:DA X es ta) (hi:X.N[i]?=some x:=by rfl) (hx:Loc X.env.scope x:=by first | exact Or.inl rfl | exact Or.inr rfl) (hs:swapsWith (.List es lp) (some (.Name x pos')) pos.line X.env=pure false:=by rfl)
  (hf:X.fn x=true\/X.env.scope.names.lookup x=some .local:=by first | exact .inl rfl | exact .inr rfl | assumption):DS X (.Assign [.Name x pos'] (.List es lp) pos) (LM i ta) :=
 eR (xt (i:=i) hN hi hx (L2.Nr he) hs hf) fun F U H hx=>hx.el fun n Z G E R h k=>⟨n,Z,G,_,R,h,fun vs G1 H1 ds Z1 R1 s1 d1 h1=>⟨by rw [d1.length];exact h1.1,fun p hp =>
  k.nx _ _ G1 _ (R1.own i hp d1) h1.2⟩⟩
def LO (i:Nat) (t:dA):dA:=fun E Z=>match Z[i]? with
 | some (.ow l)=>t E (Z.set i (.sh (.lst l)))
 | _=>False
def Ep (i:Nat) {S3:List Stmt} (h1:Em X S3 t):Em X S3 (LO i t) :=
 pL h1 fun F U H hx=>hx.el fun n Z G E R h k=>by
  unfold LO at h
  split at h
  ·rename_i l e
   obtain ⟨G',R',_⟩:=R.freeze e;exact ⟨n,_,G',E,R',h,k⟩
  ·exact h.elim
def LP (i:Nat) (te:fV):dA:=fun E Z=>match Z[i]? with
 | some (.ow _)=>te Z fun d Z1=>match Z1[i]? with
  | some (.ow l)=>l.length<sizeLine/\E.nx (Z1.set i (.ow (l++[d])))
  | _=>False
 | _=>False
def xD (i:Nat) {x:Str}{e₀:Expr}{np ap cp:Pos}{te:fV} (he:DE X e₀ te) (hN:X.N[i]?=some x:=by rfl) (hv:rX X.env.scope x:=by first | exact Or.inl rfl | exact Or.inr (Or.inl rfl) | exact Or.inr (Or.inr rfl))
  (hd:(x==("__debug__":Str))=false:=by decide) (gL:(x==("__classdict__":Str))=false:=by decide)
  (hs:swapsWith (.Call (.Attribute (.Name x np) "append" ap) [e₀] [] cp) none pos.line X.env=pure false:=by rfl)
  (kX:attributeBase (.Name x np) "append" X.env (eval (.Name x np) X.env)=eval (.Name x np) X.env:=by rfl)
  (xw:((backTo cp (starEach [e₀] X.env)).all (fun x=>!x.1)&&(backToKw cp (keywordEach [] X.env)).all (fun x=>x.1.isSome)
   && decide ([e₀].length+([]:List Keyword).length+(if ([]:List Keyword).isEmpty then 0 else 1)<30))=true:=by rfl)
  (oR:(ap.endLine==cp.line)=true:=by rfl) (mz:starEach [e₀] X.env=(false,eval e₀ X.env)::starEach [] X.env:=by rfl) (mY:(backTo cp (starEach [] X.env)).any (·.1)=false:=by rfl) :
  DS X (.Expr (.Call (.Attribute (.Name x np) "append" ap) [e₀] [] cp) pos) (LP i te) :=
 eR (t9 (Kl PySem.F.plainAttrs_list PySem.F.slot_list_append PySem.F.type_list_append C6 (fe hN hv hd gL) (gm he kD mz) kX xw oR mz mY) hs) fun F U H hx=>hx.el fun n Z G E R h k=>by
  unfold LP at h
  split at h
  ·rename_i l0 e0
   obtain ⟨p,vs,g1,g2,g3,g4,g5⟩:=R.sl i _ e0;refine ⟨.ref p,g1,.inl ⟨rfl,vs,kC.of g2⟩,n,Z,G,_,R,h,fun v G1 H1 d Z1 R1 s1 d1 h1=>?_⟩
   split at h1
   ·rename_i l1 e1
    obtain ⟨q,ws,k1,k2,k3,k4,k5⟩:=R1.sl i _ e1;rw [g1] at k1;cases k1;refine ⟨p,ws,v,rfl,rfl,k2,by rw [k5.length];exact h1.1,?_⟩;exact k.nx _ U G1 _ (R1.change e1 g1 (k5.append (.cons d1 .nil))) h1.2
   ·exact h1.elim
  ·exact h.elim
abbrev C9:=D->Ev->(Ev->Prop)->Prop
def lG (K:Frag) (g:C9):TG:=fun v U H Q2=>∃(n:En) (Z:Ev) (G:Hp) (d:D) (Q:Ev->Prop),Rel K n Z U G H/\Den K G v d/\g d Z Q /\
 ∀Z' U',Rel K n Z' U' G H->Q Z'->Q2 U' H
def lG.el {K:Frag}{g:C9}{v U H Q2}{P:Prop} (x:lG K g v U H Q2) (k:∀(n:En) (Z:Ev) (G:Hp) (d:D) (Q:Ev->Prop),(Rel K n Z U G H)->(Den K G v d)->(g d Z Q)->(∀Z' U',Rel K n Z' U' G H->Q Z'->Q2 U' H)->P):P:=by
 obtain ⟨n,Z,G,d,Q,h0,h1,h2,h3⟩:=x;exact k n Z G d Q h0 h1 h2 h3
abbrev DG (X:Cx) (tg:Expr) (g:C9):Prop:=PG X tg (lG X.K g)
def NL {tg:Expr}{g g':TG} (h:PG X tg g) (hi:∀v U H Q,g' v U H Q->g v U H Q):PG X tg g':=fun pins s U H x u Q I r q=>h pins s U H x u Q I r (hi x U H Q q)
def gc (i:Nat):C9:=fun d Z Q=>Q (Z.set i (.sh d))
def fM (i:Nat) {x:Str} (hN:X.N.Nodup) (hi:X.N[i]?=some x:=by rfl) (hx:Loc X.env.scope x:=by first | exact Or.inl rfl | exact Or.inr rfl) (hf:X.fn x=true\/X.env.scope.names.lookup x=some .local:=by first | exact .inl rfl | exact .inr rfl | assumption):DG X (.Name x pos) (gc i) :=
 NL (D8 (i:=i) hN hi hx hf) fun v U H Q2 hx=>hx.el fun n Z G d Q R hv h k=>k _ _ (R.set i hv) h
structure Qp (K:Frag) (G:Hp) (J:It) (l:List D):Prop where
 go:∀(i:Nat) (G1 H1:Hp),aX G G1->aX G1 H1->i<l.length->J.go i H1
 yl:∀(i:Nat) (G1 H1:Hp) (x:V) (H2:Hp),aX G G1->aX G1 H1->i<l.length->J.Y1 i H1 x H2->∃(G2:Hp) (d:D),Ext G1 H1 G2 H2/\l[i]?=some d/\Den K G2 x d
 st:∀(i:Nat) (G1 H1:Hp),aX G G1->aX G1 H1->l.length<=i->J.stop i H1
abbrev Er:=Ev->(List D->Ev->Prop)->Prop
def lI (K:Frag) (t:Er):TI:=fun U H R2=>∃(n:En) (Z:Ev) (G:Hp) (Q:List D->Ev->Prop),Rel K n Z U G H/\t Z Q /\
 ∀(J:It) (G' H':Hp) (l:List D) (Z':Ev),Rel K n Z' U G' H'->aX G G'->Qp K G' J l->Q l Z'->R2 J H'
def lI.el {K:Frag}{t:Er}{U H R2}{P:Prop} (x:lI K t U H R2) (k:∀(n:En) (Z:Ev) (G:Hp) (Q:List D->Ev->Prop),(Rel K n Z U G H)->(t Z Q)->(∀(J:It) (G' H':Hp) (l:List D) (Z':Ev),Rel K n Z' U G' H'->aX G G'->Qp K G' J l->Q l Z'->R2 J H')->P):P:=by
 have ⟨n,Z,G,Q,h0,h1,h2⟩:=x;exact k n Z G Q h0 h1 h2
abbrev DI (X:Cx) (tg iter:Expr) (t:Er):Prop:=PI X tg iter (lI X.K t)
def AE {tg iter:Expr}{t t':TI} (h:PI X tg iter t) (hi:∀U H Q,t' U H Q->t U H Q):PI X tg iter t':=fun pins s U H R I q=>h pins s U H R I (hi U H R q)
def NM {K:Frag}{G:Hp}{a:Addr}{vs:List V}{l:List D} (h:kC K G a vs) (hl:bP K G vs l):Qp K G (ZO K a) l:=by
 have len:=hl.length;refine ⟨fun i G1 H1 s1 s2 hi=>⟨vs,vs[i]'(by omega),(s1.trans s2).seq h,by simp⟩,fun i G1 H1 x H2 s1 s2 hi y=>?_,fun i G1 H1 s1 s2 hi=>⟨vs,(s1.trans s2).seq h,by omega⟩⟩;obtain ⟨e,y⟩:=y;subst e;obtain ⟨d,hd,hx⟩:=hl.Cj (y vs ((s1.trans s2).seq h));exact ⟨G1,d,Ext.refl s2,hd,hx.up s1⟩
def QT {K:Frag}{G:Hp}{a:Addr}{vs:List V}{l:List D} (h:rE K G a vs) (hl:bP K G vs l):Qp K G (ZP K a) l:=by
 have len:=hl.length;refine ⟨fun i G1 H1 s1 s2 hi=>⟨vs,vs[i]'(by omega),aX.tupS (s1.trans s2) h,by simp⟩,fun i G1 H1 x H2 s1 s2 hi y=>?_,fun i G1 H1 s1 s2 hi=>⟨vs,aX.tupS (s1.trans s2) h,by omega⟩⟩;obtain ⟨e,y⟩:=y;subst e;obtain ⟨d,hd,hx⟩:=hl.Cj (y vs (aX.tupS (s1.trans s2) h));exact ⟨G1,d,Ext.refl s2,hd,hx.up s1⟩
noncomputable def fC (lo:Int) (k:Nat):List D:=(List.range k).map fun i=>D.int (lo+(i:Nat))
def Dc {K:Frag}{G:Hp}{lo:Int}{k:Nat}:Qp K G (Xe lo k) (fC lo k):=by
 have len:(fC lo k).length=k:=by simp [fC]
 refine ⟨fun i G1 H1 s1 s2 hi=>by rw [len] at hi;exact hi,fun i G1 H1 x H2 s1 s2 hi y=>?_,fun i G1 H1 s1 s2 hi=>by rw [len] at hi;exact hi⟩;have ⟨e,e2⟩:=y;subst e e2;rw [len] at hi;exact ⟨G1,.int (lo+(i:Nat)),Ext.refl s2,by simp [fC,hi],.int _⟩
def m4 (ta:qN):Er:=fun Z Q=>ta Z fun ds Z1=>match ds with
 | [.int j]=>-(2 ^ 62)<=j/\j<2 ^ 62/\Q (fC 0 j.toNat) Z1
 | _=>False
def we (ta:qN):Er:=fun Z Q=>ta Z fun ds Z1=>match ds with
 | [.int i,.int j]=>(-(2 ^ 62)<=i/\i<2 ^ 62/\-(2 ^ 62)<=j/\j<2 ^ 62)/\Q (fC i (j-i).toNat) Z1
 | _=>False
def oV {tg a:Expr}{ta:qN}{p pos:Pos} (hm:X.mg "range"=none) (ha:DA X [a] ta) (hg:Gl X "range":=by rfl) (hs:starEach [a] X.env=[(false,eval a X.env)]:=by rfl):DI X tg (.Call (.Name "range" p) [a] [] pos) (m4 ta) :=
 AE (Lz hg hm ha hs) fun U H R2 hx=>hx.el fun n Z G Q R h k=>⟨n,Z,G,_,R,h,fun vs G1 H1 ds Z1 R1 s1 d1 h1=>by
  split at h1
  ·cases d1 with | cons d1 d2=>cases d2;cases d1.int_inv;exact ⟨_,rfl,h1.1,h1.2.1,k _ G1 H1 _ Z1 R1 s1 Dc h1.2.2⟩
  ·exact h1.elim⟩
def Dd {tg a b:Expr}{ta:qN}{p pos:Pos} (hm:X.mg "range"=none) (ha:DA X [a,b] ta) (hg:Gl X "range":=by rfl) (hs:starEach [a,b] X.env=[(false,eval a X.env),(false,eval b X.env)]:=by rfl) (Qy:starEach [b] X.env=[(false,eval b X.env)]:=by rfl) :
  DI X tg (.Call (.Name "range" p) [a,b] [] pos) (we ta) :=
 AE (LA hg hm ha hs Qy) fun U H R2 hx=>hx.el fun n Z G Q R h k=>⟨n,Z,G,_,R,h,fun vs G1 H1 ds Z1 R1 s1 d1 h1=>by
  split at h1
  ·cases d1 with | cons d1 d2=>cases d2 with | cons d2 d3=>cases d3;cases d1.int_inv;cases d2.int_inv;exact ⟨_,_,rfl,h1.1,k _ G1 H1 _ Z1 R1 s1 Dc h1.2⟩
  ·exact h1.elim⟩
def Cm (ti:Er) (g:C9) (tb:dA):dA:=fun E Z=>ti Z fun items Z1=>∃W:Nat->Ev->Prop,W 0 Z1 /\
 (∀(i:Nat) (d:D) (Z2:Ev),items[i]?=some d->W i Z2->g d Z2 fun Z3=>tb { E with nx:=W (i+1),ct:=W (i+1),bk:=E.nx } Z3)/\∀Z2,W items.length Z2->E.nx Z2
def AF {tg iter:Expr}{body:List Stmt}{ti:Er}{g:C9}{tb:dA} (hp:PassesOwn (model X.prog X.w) X.A X.env X.xe) (hc:X.calm=true) (hi:DI X tg iter ti) (hg:DG X tg g) (hb:Em X body tb)
  (hs:∀x,foldedSetIterable iter X.env x=pure x:=by intro _;rfl):DS X (.For tg iter body [] pos) (Cm ti g tb) :=
 eR (T9 hp hc hi hg hb hs) fun F U H hx=>hx.el fun n Z G E R h k=>⟨n,Z,G,_,R,h,fun J G1 H1 items Z1 R1 s1 j1 ⟨W,w0,step,fin⟩=>by
  refine ⟨fun i m U H=>i<=items.length/\m=items.length-i/\∃Z G,Rel X.K n Z U G H/\aX G1 G/\W i Z,⟨_,bw _,rfl,Z1,G1,R1,aX.refl _,w0⟩,?_⟩;rintro i m U2 H2 ⟨hi,rfl,Z2,G2,R2,s2,w2⟩
  by_cases hl:i<items.length
  ·refine .inr ⟨j1.go i G2 H2 s2 R2.sub hl,fun U' H'=>∃Z G,Rel X.K n Z U' G H'/\aX G1 G/\W (i+1) Z,fun U' H' ⟨Z',G',R',s',w'⟩=>⟨items.length-(i+1),by omega,hl,rfl,Z',G',R',s',w'⟩,fun x H3 y=>?_⟩
   obtain ⟨G3,d,e3,hd,dx⟩:=j1.yl i G2 H2 x H3 s2 R2.sub hl y;have R3:=R2.ext e3;have s3:aX G1 G3:=s2.trans e3.gg;refine ⟨⟨G3,n.H,n.M⟩,Z2,G3,d,_,R3.rebase,dx,step i d Z2 hd w2,fun Z4 U4 R4 h4=>?_⟩;refine ⟨⟨G3,n.H,n.M⟩,Z4,G3,_,R4,h4,⟨fun Z5 U5 G5 H5 R5 h5=>⟨Z5,G5,R3.Ek R5,s3.trans R5.eg,h5⟩,fun v d Z5 U5 G5 H5 R5 d5 h5=>k.rt v d Z5 U5 G5 H5 (R3.Ek R5) d5 h5,
    fun Z5 U5 G5 H5 R5 h5=>k.nx Z5 U5 G5 H5 (R3.Ek R5) h5,fun Z5 U5 G5 H5 R5 h5=>⟨Z5,G5,R3.Ek R5,s3.trans R5.eg,h5⟩⟩⟩
  ·have e:i=items.length:=by omega
   subst e;exact .inl ⟨j1.st _ G2 H2 s2 R2.sub (ao _),k.nx Z2 U2 G2 H2 R2 (fin Z2 w2)⟩⟩
def AG (c:qO) (tb:dA):dA:=fun E Z=>∃W:Nat->Ev->Prop,(∃m,W m Z)/\∀m Z1,W m Z1 ->
 c Z1 fun b Z2=>if b=true then tb { E with nx:=fun Z'=>∃m',m'<m/\W m' Z',ct:=fun Z'=>∃m',m'<m/\W m' Z',bk:=E.nx } Z2 else E.nx Z2
def wg {c:Expr}{body:List Stmt}{tc:qO}{tb:dA} (hp:PassesOwn (model X.prog X.w) X.A X.env X.xe) (hc:DT X c tc) (hb:Em X body tb):DS X (.While c body [] pos) (AG tc tb) :=
 eR (Nf hp hc hb) fun F U H ⟨n,Z,G,E,R,⟨W,⟨m0,w0⟩,step⟩,k⟩=>by
  refine ⟨fun m U H=>∃Z G,Rel X.K n Z U G H/\W m Z,⟨m0,Z,G,R,w0⟩,?_⟩;rintro m U2 H2 ⟨Z2,G2,R2,w2⟩;refine ⟨n,Z2,G2,_,R2,step m Z2 w2,fun c G3 H3 Z3 R3 s3 h3=>?_⟩;cases c with
  | true =>
   refine Ei ⟨fun U' H'=>∃m',m'<m/\∃Z G,Rel X.K n Z U' G H'/\W m' Z,fun U' H' z=>z,n,Z3,G3,_,R3,h3,⟨fun Z5 U5 G5 H5 R5 ⟨m',hm,w5⟩=>⟨m',hm,Z5,G5,R5,w5⟩,k.rt,k.nx,fun Z5 U5 G5 H5 R5 ⟨m',hm,w5⟩=>⟨m',hm,Z5,G5,R5,w5⟩⟩⟩
  | false=>exact Eh (k.nx Z3 U2 G3 H3 R3 h3)
end
noncomputable def dq (N:List Str) (ds:List D):Ev:=ds.map Sl.sh++List.replicate (N.length-ds.length) Sl.no
def De {K:Frag}{N:List Str}{G H:Hp}{vs:List V}{ds:List D} (s:aX G H) (h:bP K G vs ds):Rel K ⟨G,H,fun _=>False⟩ (dq N ds) (start N vs) G H:=by
 have len:=h.length;refine ⟨s,aX.refl _,fun b o e _=>e,fun b e=>e,fun b o e (e0:G b=none)=>(by rw [e0] at e;cases e),⟨fun _=>none,⟨fun _ _ z=>by cases z⟩,fun i sl hs=>?_⟩,?_⟩
 ·unfold dq at hs
  by_cases hi:i<ds.length
  ·rw [List.getElem?_append_left (by simpa using hi),List.getElem?_map] at hs
   cases q:ds[i]? with
   | none=>rw [q] at hs;cases hs
   | some d =>
    rw [q] at hs;cases hs;obtain ⟨v,hv,dv⟩:=h.get q;refine ⟨v,?_,dv⟩;unfold L2.start;rw [List.getElem?_append_left (by rw [List.length_map];omega),List.getElem?_map,hv];rfl
  ·rw [List.getElem?_append_right (by simpa using hi),List.getElem?_replicate] at hs
   split at hs
   ·cases hs;trivial
   ·cases hs
 ·simp [dq,L2.start,len]
section
variable {P:Program}{w:World}{K:Frag}{mg:Str->Option Value}{base:Heap}
def zP {x qual:Str}{st:Stmt}{f:Addr}{fd:FuncData}{N ps:List Str}{k:Nat}{S:xA} (F:kY K x qual st f fd) (Sc:bx N ps (aC st)) (len:∀ds Q,S ds Q->ds.length=ps.length)
  (mX:∀(dM:Value) (A:Around) (outer:List Env) (s:Shared) (H:Hp) (E:XK),fG k (A.deeper (envOfC qual (aC st) s.heap.objs.size f dM)) ->
   ∃t,Em (mB jQ P w K mg base N qual (aC st) f dM A outer s H E).Qk (iS st) t/\∀ds Q,S ds Q->t { nx:=fun _=>Q .bX,rt:=fun d _=>Q d } (dq N ds)):cM P w K mg base jQ (k+1) f fd ps (jO K S):=by
 refine F.ok Sc (fun vs H Q E ⟨G,ds,Qd,sub,dn,h,_⟩=>?_) (fun dM A outer s H vs Q E hr ⟨G,ds,Qd,sub,dn,h,kk⟩=>?_)
 ·rw [dn.length];exact len ds Qd h
 ·obtain ⟨t,ht,hq⟩:=mX dM A outer s H E hr
  refine ⟨_,ht,⟨G,H,fun _=>False⟩,_,G,_,De (N:=N) sub dn,hq ds Qd h,⟨fun Z U G' H' R' q=>?_,fun v d Z U G' H' R' dv q=>?_,fun _ _ _ _ _ q=>q.elim,fun _ _ _ _ _ q=>q.elim⟩⟩
  ·exact kk .bX G' H' .bX ⟨R'.eg,R'.sub,fun b o e=>R'.eh b o e (fun z=>z),fun b o e e0=>R'.fr b o e e0⟩ .bX q
  ·exact kk v G' H' d ⟨R'.eg,R'.sub,fun b o e=>R'.eh b o e (fun z=>z),fun b o e e0=>R'.fr b o e e0⟩ dv q
end
mutual
noncomputable def D.py:D->PyData
 | .bX=>.none
 | .bl b=>.bool b
 | .int i=>.int i
 | .str x=>.str x
 | .tup l=>.tuple (D.FZ l)
 | .lst l=>.list (D.FZ l)
 | .pt _=>.none
noncomputable def D.FZ:List D->List PyData
 | []=>[]
 | d::r=>D.py d::D.FZ r
end
mutual
noncomputable def D.ok:D->Bool
 | .str x=>PyData.strOk x
 | .tup l=>D.Ks l
 | .lst l=>D.Ks l
 | .pt _=>false
 | _=>true
noncomputable def D.Ks:List D->Bool
 | []=>true
 | d::r=>D.ok d&&D.Ks r
end
mutual
noncomputable def D.dep:D->Nat
 | .tup l=>D.sd l+1
 | .lst l=>D.sd l+1
 | _=>0
noncomputable def D.sd:List D->Nat
 | []=>0
 | d::r=>max (D.dep d) (D.sd r)
end
mutual
noncomputable def Cn:D->D->Bool
 | .bX,.bX=>true
 | .bl a,.bl b=>a==b
 | .bl a,.int j=>(if a then 1 else 0)==j
 | .int i,.bl b=>i==(if b then 1 else 0)
 | .int i,.int j=>i==j
 | .str x,.str y=>x==y
 | .tup l,.tup m=>wj l m
 | .lst l,.lst m=>wj l m
 | .pt _,.pt _=>true
 | .pt _,.bX=>true
 | .bX,.pt _=>true
 | _,_=>false
noncomputable def wj:List D->List D->Bool
 | [],[]=>true
 | a::l,b::m=>Cn a b&&wj l m
 | _,_=>false
end
mutual
theorem wk:∀d:D,d.ok=true->(D.py d).canLay0=true
 | .bX,_=>rfl
 | .bl _,_=>rfl
 | .int _,_=>rfl
 | .str _,h=>h
 | .tup l,h=>vn l h
 | .lst l,h=>vn l h
 | .pt _,h=>by cases h
theorem vn:∀l:List D,D.Ks l=true->PyData.canLayAll0 (D.FZ l)=true
 | [],_=>rfl
 | d::r,h=>by
  have h':(D.ok d&&D.Ks r)=true:=h;rw [Bool.and_eq_true] at h';show (PyData.canLay0 (D.py d)&&PyData.canLayAll0 (D.FZ r))=true;rw [wk d h'.1,vn r h'.2];rfl
end
mutual
theorem pN:∀d:D,(D.py d).depth=d.dep
 | .bX=>rfl
 | .bl _=>rfl
 | .int _=>rfl
 | .str _=>rfl
 | .tup l=>by show PyData.depthAll (D.FZ l)+1=D.sd l+1;rw [pO l]
 | .lst l=>by show PyData.depthAll (D.FZ l)+1=D.sd l+1;rw [pO l]
 | .pt _=>rfl
theorem pO:∀l:List D,PyData.depthAll (D.FZ l)=D.sd l
 | []=>rfl
 | d::r=>by show max (PyData.depth (D.py d)) (PyData.depthAll (D.FZ r))=max (D.dep d) (D.sd r);rw [pN d,pO r]
end
mutual
theorem Kt:∀d e:D,PyData.eqv (D.py d) (D.py e)=Cn d e
 | .tup l,.tup m=>IL l m
 | .lst l,.lst m=>IL l m
 | .bX,e=>by cases e <;> rfl
 | .bl _,e=>by cases e <;> rfl
 | .int _,e=>by cases e <;> rfl
 | .str _,e=>by cases e <;> rfl
 | .tup _,.bX=>rfl
 | .tup _,.bl _=>rfl
 | .tup _,.int _=>rfl
 | .tup _,.str _=>rfl
 | .tup _,.lst _=>rfl
 | .lst _,.bX=>rfl
 | .lst _,.bl _=>rfl
 | .lst _,.int _=>rfl
 | .lst _,.str _=>rfl
 | .lst _,.tup _=>rfl
 | .tup _,.pt _=>rfl
 | .lst _,.pt _=>rfl
 | .pt _,e=>by cases e <;> rfl
theorem IL:∀l m:List D,PyData.eqvAll (D.FZ l) (D.FZ m)=wj l m
 | [],[]=>rfl
 | [],_::_=>rfl
 | _::_,[]=>rfl
 | d::l,e::m=>by
  show (PyData.eqv (D.py d) (D.py e)&&PyData.eqvAll (D.FZ l) (D.FZ m))=(Cn d e&&wj l m);rw [Kt d e,IL l m]
end
section
variable {X:Cx}{pins:List (Addr×Obj)}{U:L2.St}{G H:Hp}{s:Shared}
mutual
theorem Den.reads (I:Inv X pins U H s) (sub:aX G H):∀{v:V}{d:D}{u:Value},Den X.K G v d->RelV v u->d.ok=true->∃as,Reads s.heap u (D.py d) as
 | _,_,_,.bX,r,_=>by cases r;exact ⟨_,.none⟩
 | _,_,_,.pt a,r,z=>by cases z
 | _,_,_,.bl b,r,_=>by cases r;exact ⟨_,.bool b⟩
 | _,_,_,.int i,r,_=>by obtain ⟨t,rfl⟩:=r;exact ⟨_,.int i t⟩
 | _,_,_,.str x,r,_=>by obtain ⟨t,rfl⟩:=r;exact ⟨_,.str x t⟩
 | _,_,_,.tup h l,r,z=>by
  cases r;obtain ⟨its,rv,⟨o,ho,hc,n,hd⟩,_⟩:=I.tuple (aX.tupS sub h);obtain ⟨as,ra⟩:=bP.reads I sub l rv z;exact ⟨as,.tuple ho hc hd (by simpa using ra)⟩
 | _,_,_,.lst h l,r,z=>by
  cases r;obtain ⟨its,rv,⟨o,n,ho,hc,_,hd⟩,_⟩:=I.list (sub.seq h);obtain ⟨as,ra⟩:=bP.reads I sub l rv z;exact ⟨_,.list ho hc hd (by simpa using ra)⟩
theorem bP.reads (I:Inv X pins U H s) (sub:aX G H):∀{vs:List V}{ds:List D}{us:List Value},bP X.K G vs ds->Vals vs us->D.Ks ds=true->∃as,ReadsAll s.heap us (D.FZ ds) as
 | _,_,_,.nil,r,_=>by cases r;exact ⟨_,.nil⟩
 | _,_,_,.cons (d:=d) (ds:=ds) h t,.cons r1 r2,z=>by
  have z:(D.ok d&&D.Ks ds)=true:=z;rw [Bool.and_eq_true] at z;obtain ⟨as,h1⟩:=Den.reads I sub h r1 z.1;obtain ⟨bs,h2⟩:=bP.reads I sub t r2 z.2;exact ⟨_,.cons h1 h2⟩
end
end
section
variable {X:Cx}
def Co (d e:D):Prop:=d.ok=true/\e.ok=true/\min d.dep e.dep<=60
def NN (K:Frag) (f:D->D->Bool):R2:=fun x y H Q=>∃G dx dy,aX G H/\Den K G x dx/\Den K G y dy/\Co dx dy/\Q (.bl (f dx dy)) H
def Df (hu:X.A.units+64<cLine):oO X (compareOp .Eq) (NN X.K Cn):=by
 rintro pins s U H x y v u Q I rx ry ⟨G,dx,dy,sub,hx,hy,⟨o1,o2,o3⟩,q⟩;obtain ⟨as,ra⟩:=hx.reads I sub rx o1;obtain ⟨bs,rb⟩:=hy.reads I sub ry o2;refine PySem.SeqAt.compareEq_reads ra rb (wk _ o1) (wk _ o2) (by rw [pN,pN];omega) ?_;rw [Kt];exact ⟨.bl _,H,I,rfl,q⟩
def LQ (hu:X.A.units+64<cLine):oO X (compareOp .NotEq) (NN X.K fun d e=>!Cn d e):=by
 rintro pins s U H x y v u Q I rx ry ⟨G,dx,dy,sub,hx,hy,⟨o1,o2,o3⟩,q⟩;obtain ⟨as,ra⟩:=hx.reads I sub rx o1;obtain ⟨bs,rb⟩:=hy.reads I sub ry o2;refine PySem.SeqAt.compareNe_reads ra rb (wk _ o1) (wk _ o2) (by rw [pN,pN];omega) ?_;rw [Kt];exact ⟨.bl _,H,I,rfl,q⟩
def dZ:RD:=fun x y Q=>Co x y/\Q (.bl (Cn x y))
def zi:RD:=fun x y Q=>Co x y/\Q (.bl (!Cn x y))
def Es {K:Frag}{f:D->D->Bool}:Ij K (NN K f) (fun x y Q=>Co x y/\Q (.bl (f x y))):=fun G H x y dx dy Q Q2 s hx hy h k =>
 ⟨G,dx,dy,s,hx,hy,h.1,k _ G H _ (Ext.refl s) (.bl _) h.2⟩
variable {a b:Expr}{ta tb:fV}{pos:Pos}
def S4 (hu:X.A.units+64<cLine) (ha:DE X a ta) (hb:DE X b tb) (hm:behindInMarks .Eq b=false:=by first | exact jP _ | rfl):DE X (.Compare a [.Eq] [b] pos) (aY dZ ta tb):=IJ (Df hu) Es ha hb hm
def cL (hu:X.A.units+64<cLine) (ha:DE X a ta) (hb:DE X b tb) (hm:behindInMarks .Eq b=false:=by first | exact jP _ | rfl):DT X (.Compare a [.Eq] [b] pos) (dB (aY dZ ta tb)):=pM (Df hu) Es ha hb hm
def uS (hu:X.A.units+64<cLine) (ha:DE X a ta) (hb:DE X b tb) (hm:behindInMarks .NotEq b=false:=by first | exact jP _ | rfl):DT X (.Compare a [.NotEq] [b] pos) (dB (aY zi ta tb)):=pM (LQ hu) Es ha hb hm
def wm (g:Int->Int->D):RD:=fun x y Q=>match x,y with
 | .int i,.int j=>Q (g i j)
 | _,_=>False
def mS (C:Int->Int->Prop) (g:Int->Int->D):RD:=fun x y Q=>match x,y with
 | .int i,.int j=>C i j/\Q (g i j)
 | _,_=>False
def Gs {K:Frag}{g:Int->Int->V}{gd:Int->Int->D} (hg:∀i j G,Den K G (g i j) (gd i j)):Ij K (Kh g) (wm gd):=fun G H x y dx dy Q Q2 s hx hy h k=>by
 unfold wm at h
 split at h
 ·cases hx.int_inv;cases hy.int_inv
  exact ⟨_,_,rfl,rfl,k _ G H _ (Ext.refl s) (hg _ _ _) h⟩
 ·exact h.elim
def NO {K:Frag}{C:Int->Int->Prop}{g:Int->Int->V}{gd:Int->Int->D} (hg:∀i j G,Den K G (g i j) (gd i j)):Ij K (rI C g) (mS C gd):=fun G H x y dx dy Q Q2 s hx hy h k=>by
 unfold mS at h
 split at h
 ·cases hx.int_inv;cases hy.int_inv
  exact ⟨_,_,rfl,rfl,h.1,k _ G H _ (Ext.refl s) (hg _ _ _) h.2⟩
 ·exact h.elim
def pP (ha:DE X a ta) (hb:DE X b tb):DE X (.BinOp a .Sub b pos) (aY (wm fun i j=>.int (i-j)) ta tb):=AB Ug (Gs fun _ _ _=>.int _) ha hb
def lQ (ha:DE X a ta) (hb:DE X b tb):DE X (.BinOp a .Mod b pos) (aY (mS (fun _ j=>0<j) fun i j=>.int (i % j)) ta tb):=AB Ui (NO fun _ _ _=>.int _) ha hb
def iV (ha:DE X a ta) (hb:DE X b tb):DE X (.BinOp a .FloorDiv b pos) (aY (mS v7 fun i j=>.int (i / j)) ta tb):=AB Qz (NO fun _ _ _=>.int _) ha hb
def XD (ha:DE X a ta) (hb:DE X b tb) (hm:behindInMarks .Gt b=false:=by first | exact jP _ | rfl):DE X (.Compare a [.Gt] [b] pos) (aY (wm fun i j=>.bl (decide (j<i))) ta tb):=IJ SW (Gs fun _ _ _=>.bl _) ha hb hm
def Gu (ha:DE X a ta) (hb:DE X b tb) (hm:behindInMarks .Lt b=false:=by first | exact jP _ | rfl):DT X (.Compare a [.Lt] [b] pos) (dB (aY (wm fun i j=>.bl (decide (i<j))) ta tb)):=pM SU (Gs fun _ _ _=>.bl _) ha hb hm
def Ku (ha:DE X a ta) (hb:DE X b tb) (hm:behindInMarks .LtE b=false:=by first | exact jP _ | rfl):DT X (.Compare a [.LtE] [b] pos) (dB (aY (wm fun i j=>.bl (decide (i<=j))) ta tb)):=pM SV (Gs fun _ _ _=>.bl _) ha hb hm
def S5 (ha:DE X a ta) (hb:DE X b tb) (hm:behindInMarks .Gt b=false:=by first | exact jP _ | rfl):DT X (.Compare a [.Gt] [b] pos) (dB (aY (wm fun i j=>.bl (decide (j<i))) ta tb)):=pM SW (Gs fun _ _ _=>.bl _) ha hb hm
noncomputable def vo:D->Bool
 | .bX=>true
 | _=>false
def AH:RD:=fun x y Q=>match y with
 | .bX=>Q (.bl (vo x))
 | _=>False
def qQ:RD:=fun x y Q=>match y with
 | .bX=>Q (.bl (!vo x))
 | _=>False
def NP {K:Frag}{G:Hp}{v:V}{d:D} (h:Den K G v d):decide (v=.bX)=vo d:=by cases h <;> simp [vo]
def UC {K:Frag}:Ij K (fun x y H Q=>y=.bX/\Q (.bl (decide (x=.bX))) H) AH:=fun G H x y dx dy Q Q2 s hx hy h k=>by
 unfold AH at h
 split at h
 ·exact ⟨hy.Ej,k _ G H _ (Ext.refl s) (by rw [NP hx];exact .bl _) h⟩
 ·exact h.elim
def QU {K:Frag}:Ij K (fun x y H Q=>y=.bX/\Q (.bl (!decide (x=.bX))) H) qQ:=fun G H x y dx dy Q Q2 s hx hy h k=>by
 unfold qQ at h
 split at h
 ·exact ⟨hy.Ej,k _ G H _ (Ext.refl s) (by rw [NP hx];exact .bl _) h⟩
 ·exact h.elim
def AI (ha:DE X a ta) (hb:DE X b tb) (hm:behindInMarks .Is b=false:=by first | exact jP _ | rfl):DT X (.Compare a [.Is] [b] pos) (dB (aY AH ta tb)):=pM Uk UC ha hb hm
def kZ (ha:DE X a ta) (hb:DE X b tb) (hm:behindInMarks .IsNot b=false:=by first | exact jP _ | rfl):DT X (.Compare a [.IsNot] [b] pos) (dB (aY qQ ta tb)):=pM QA QU ha hb hm
def Kv:RD:=fun x y Q=>match x,y with
 | .int i,.int j=>Q (.int (i+j))
 | .tup l,.tup m=>l.length+m.length<=sizeLine/\Q (.tup (l++m))
 | .lst l,.lst m=>l.length+m.length<=sizeLine/\Q (.lst (l++m))
 | .str i,.str j=>i.length+j.length<=sizeLine/\Q (.str (i++j))
 | _,_=>False
def NQ (K:Frag):R2:=fun x y H Q=>∃l b xs zs,x=.ref l/\y=.ref b/\kC K H l xs/\kC K H b zs/\xs.length+zs.length<=sizeLine/\∀p,H p=none->Q (.ref p) (upd H p (.lst (xs++zs)))
def IM (K:Frag):R2:=fun x y H Q=>∃a b ys,x=.ref a/\y=.ref b/\rE K H a []/\rE K H b ys/\Q (.ref b) H
def Kw:oO X (binaryOp .Add) (NQ X.K):=by
 intro pins s U H x y v u Q I rx ry h;obtain ⟨l,b,xs,zs,rfl,rfl,hH,hB,hz,q⟩:=h;cases rx;cases ry;obtain ⟨its,r,pl,z⟩:=I.list hH;obtain ⟨Cf,r2,pl2,z2⟩:=I.list hB;obtain ⟨⟨cls,dd,data,sl⟩,ho,hc,n,hd⟩:=pl.isList;obtain ⟨⟨Us,M3,data2,S1⟩,Ql,ID,n2,hd2⟩:=pl2.isList;simp only at hc hd ID hd2;subst hc hd ID hd2;have e:its.toArray++Cf.toArray=(its++Cf).toArray:=by simp
 refine concat_meets ⟨_,ho,rfl⟩ ⟨_,Ql,rfl⟩ noFill_list_add seq_list_add PySem.F.slot_list_add PySem.F.entry_list_add (PySem.F.args_list_add_2 _ _) (list_addW l b its.toArray Cf.toArray n n2 dd M3 sl S1 (by rw [List.size_toArray,List.size_toArray,<-r.length,<-r2.length];exact hz)) ⟨ho,Ql,?_⟩;rw [e];exact ⟨.ref _,_,I.Xx (t':=s.toks) (r.append r2) (by rw [List.length_append];omega),rfl,q _ I.fresh⟩
def NR:oO X (binaryOp .Add) (IM X.K):=by
 intro pins s U H x y v u Q I rx ry h;obtain ⟨a,b,ys,rfl,rfl,ha,hb,q⟩:=h;cases rx;cases ry;obtain ⟨its,r1,p1,_⟩:=I.tuple ha;obtain ⟨Cf,r2,p2,_⟩:=I.tuple hb;cases r1;obtain ⟨⟨cls,dd,data,sl⟩,ho,hc,n,hd⟩:=id p1;obtain ⟨⟨Us,M3,data2,S1⟩,Ql,ID,n2,hd2⟩:=id p2;simp only at hc hd ID hd2;subst hc hd ID hd2;exact concat_meets ⟨_,ho,rfl⟩ ⟨_,Ql,rfl⟩ noFill_tuple_add seq_tuple_add PySem.F.slot_tuple_add PySem.F.entry_tuple_add (PySem.F.args_tuple_add_2 _ _)
   (tuple_addW0 a b #[] Cf.toArray n n2 dd M3 sl S1 rfl) ⟨ho,Ql,⟨.ref b,H,I,rfl,q⟩⟩
def LR:oO X (binaryOp .Add) (fun x y H Q=>Kh (fun i j=>.int (i+j)) x y H Q\/IM X.K x y H Q\/Ny X.K x y H Q\/NQ X.K x y H Q\/∃i j,x=.str i/\y=.str j/\i.length+j.length<=sizeLine/\Q (.str (i++j)) H) :=
 oO.or Ue (oO.or NR (oO.or QK (oO.or Kw Iv)))
def UD {K:Frag}:Ij K (fun x y H Q=>Kh (fun i j=>.int (i+j)) x y H Q\/IM K x y H Q\/Ny K x y H Q\/NQ K x y H Q\/∃i j,x=.str i/\y=.str j/\i.length+j.length<=sizeLine/\Q (.str (i++j)) H) Kv:=fun G H x y dx dy Q Q2 s hx hy h k=>by
 unfold Kv at h
 split at h
 ·cases hx.int_inv;cases hy.int_inv
  exact .inl ⟨_,_,rfl,rfl,k _ G H _ (Ext.refl s) (.int _) h⟩
 ·obtain ⟨a,vs,rfl,ha,la⟩:=hx.kQ
  obtain ⟨b,ws,rfl,hb,lb⟩:=hy.kQ;cases la with
  | nil=>exact .inr (.inl ⟨a,b,ws,rfl,rfl,aX.tupS s ha,aX.tupS s hb,k _ G H _ (Ext.refl s) hy h.2⟩)
  | @cons v d vs l d1 la =>
   refine .inr (.inr (.inl ⟨a,b,_,ws,rfl,rfl,aX.tupS s ha,aX.tupS s hb,by simp,by rw [(bP.cons d1 la).length,lb.length];exact h.1,fun e=>?_,fun _ p hp=>?_⟩))
   ·subst e
    cases lb;refine k _ G H _ (Ext.refl s) hx ?_;have:=h.2;rwa [List.append_nil] at this
   ·exact k _ _ _ _ (Ext.laid s hp _) (.tup (rE.of aO) ((bP.append (bP.cons d1 la) lb).up (bE (s.free hp) _))) h.2
 ·obtain ⟨a,vs,rfl,ha,la⟩:=hx.lst_inv
  obtain ⟨b,ws,rfl,hb,lb⟩:=hy.lst_inv;exact .inr (.inr (.inr (.inl ⟨a,b,vs,ws,rfl,rfl,s.seq ha,s.seq hb,by rw [la.length,lb.length];exact h.1,fun p hp =>
   k _ _ _ _ (Ext.laid s hp _) (.lst (kC.of aO) ((la.append lb).up (bE (s.free hp) _))) h.2⟩)))
 ·cases hx.str_inv;cases hy.str_inv
  exact .inr (.inr (.inr (.inr ⟨_,_,rfl,rfl,h.1,k _ G H _ (Ext.refl s) (.str _) h.2⟩)))
 ·exact h.elim
def gN (ha:DE X a ta) (hb:DE X b tb):DE X (.BinOp a .Mult b pos) (aY (mS mW fun i j=>.int (i * j)) ta tb):=AB Uh (NO fun _ _ _=>.int _) ha hb
def LS:RD:=fun x y Q=>match x,y with
 | .tup l,.int i=>match vU l i with
  | some d=>Q d
  | none=>False
 | .lst l,.int i=>match vU l i with
  | some d=>Q d
  | none=>False
 | _,_=>False
def Kx {K:Frag}{G:Hp}{vs:List V}{l:List D}{i:Int}{d:D} (h:bP K G vs l) (e:vU l i=some d):∃v,vU vs i=some v/\Den K G v d:=by
 unfold vU at e ⊢;rw [h.length];cases q:S2 l.length i with
 | none=>(rw [q] at e;cases e)
 | some j =>
  rw [q] at e;obtain ⟨v,h1,h2⟩:=h.get (i:=j) e;exact ⟨v,h1,h2⟩
def XE {K:Frag}:Ij K (Z7 K) LS:=fun G H x y dx dy Q Q2 s hx hy h k=>by
 unfold LS at h
 split at h
 ·obtain ⟨a,vs,rfl,ha,la⟩:=hx.kQ
  cases hy.int_inv
  split at h
  ·rename_i d e
   obtain ⟨v,h1,h2⟩:=Kx la e;exact .inr (.inl ⟨a,vs,_,v,rfl,rfl,aX.tupS s ha,h1,k _ G H _ (Ext.refl s) h2 h⟩)
  ·exact h.elim
 ·obtain ⟨a,vs,rfl,ha,la⟩:=hx.lst_inv
  cases hy.int_inv
  split at h
  ·rename_i d e
   obtain ⟨v,h1,h2⟩:=Kx la e;exact .inl ⟨a,vs,_,v,rfl,rfl,s.seq ha,h1,k _ G H _ (Ext.refl s) h2 h⟩
  ·exact h.elim
 ·exact h.elim
abbrev UE:=Ev->(Option Int->Ev->Prop)->Prop
def lO (K:Frag) (t:UE):TO:=fun U H Q2=>∃(n:En) (Z:Ev) (G:Hp) (Q:Option Int->Ev->Prop),Rel K n Z U G H/\t Z Q /\
 ∀(o:Option Int) (G' H':Hp) (Z':Ev),Rel K n Z' U G' H'->aX G G'->Q o Z'->Q2 o H'
def lO.el {K:Frag}{t:UE}{U H Q2}{P:Prop} (x:lO K t U H Q2) (k:∀(n:En) (Z:Ev) (G:Hp) (Q:Option Int->Ev->Prop),(Rel K n Z U G H)->(t Z Q)->(∀(o:Option Int) (G' H':Hp) (Z':Ev),Rel K n Z' U G' H'->aX G G'->Q o Z'->Q2 o H')->P):P:=by
 have ⟨n,Z,G,Q,h0,h1,h2⟩:=x;exact k n Z G Q h0 h1 h2
abbrev DO (X:Cx) (e:Option Expr) (t:UE):Prop:=PO X e (lO X.K t)
def NS {e:Option Expr}{t t':TO} (h:PO X e t) (hi:∀U H Q,t' U H Q->t U H Q):PO X e t':=fun pins s U H Q I q=>h pins s U H Q I (hi U H Q q)
def uc:UE:=fun Z Q=>Q none Z
def Dg (t:fV):UE:=fun Z Q=>t Z fun x Z1=>match x with
 | .int i=>Q (some i) Z1
 | _=>False
def Et:DO X none uc:=NS QI fun U H Q2 hx=>hx.el fun n Z G Q R h k=>k none G H Z R (aX.refl _) h
def Eu (ha:DE X a ta):DO X (some a) (Dg ta):=NS (QJ ha) fun U H Q2 hx=>hx.el fun n Z G Q R h k=>⟨n,Z,G,_,R,h,fun v G1 H1 d Z1 R1 s1 d1 h1=>by
 cases d with
 | int i=>exact ⟨i,d1.int_inv,k _ G1 H1 Z1 R1 s1 h1⟩
 | _=>exact h1.elim⟩
noncomputable def cutD (xs:List D) (lo hi:Option Int):List D:=(xs.drop (HT.iN xs.length 0 lo)).take (HT.iN xs.length xs.length hi-HT.iN xs.length 0 lo)
def Ky {K:Frag}{G:Hp}{vs:List V}{l:List D} (h:bP K G vs l) (lo hi:Option Int):bP K G (Gn vs lo hi) (cutD l lo hi):=by
 unfold Gn cutD;rw [h.length];exact (h.drop _).take _
def Qm.or {r r':V->Option Int->Option Int->Hp->VK->Prop} (h:Qm X r) (h':Qm X r'):Qm X (fun x l u H Q=>r x l u H Q\/r' x l u H Q) :=
 fun pins s U H x v vl vu lo hi sl Q I rx hs pl pu q=>q.elim (h pins s U H x v vl vu lo hi sl Q I rx hs pl pu) (h' pins s U H x v vl vu lo hi sl Q I rx hs pl pu)
noncomputable def inD (d:D) (l:List D):Bool:=l.any fun y=>Cn y d
theorem IP (d:D):∀l:List D,((D.FZ l).any fun y=>PyData.eqv y (D.py d))=inD d l
 | []=>rfl
 | e::r=>by
  show (PyData.eqv (D.py e) (D.py d) || (D.FZ r).any fun y=>PyData.eqv y (D.py d))=(Cn e d || r.any fun y=>Cn y d);rw [Kt,IP d r];rfl
def okIn (d:D) (l:List D):Prop:=d.ok=true/\D.Ks l=true/\min (D.sd l) d.dep<=60
def UG (K:Frag) (neg:Bool):R2:=fun x y H Q=>∃G dx l,aX G H/\Den K G x dx/\(Den K G y (.lst l)\/Den K G y (.tup l))/\okIn dx l/\Q (.bl (if neg then !inD dx l else inD dx l)) H
def NT (hu:X.A.units+64<cLine):oO X (compareOp .In) (UG X.K false):=by
 rintro pins s U H x y v u Q I rx ry ⟨G,dx,l,sub,hx,hy,⟨o1,o2,o3⟩,q⟩;obtain ⟨as,ra⟩:=hx.reads I sub rx o1;have fin:EP X pins U Q (.bool ((D.FZ l).any fun y=>PyData.eqv y (D.py dx))) s:=by rw [IP];exact ⟨.bl _,H,I,rfl,q⟩
 rcases hy with hy | hy
 ·obtain ⟨bs,rb⟩:=hy.reads I sub ry o2
  exact PySem.SeqAt.in_list_reads rb ra (vn _ o2) (wk _ o1) (by rw [pN,pO];omega) fin
 ·obtain ⟨bs,rb⟩:=hy.reads I sub ry o2
  exact PySem.SeqAt.in_tuple_reads rb ra (vn _ o2) (wk _ o1) (by rw [pN,pO];omega) fin
def LU (hu:X.A.units+64<cLine):oO X (compareOp .NotIn) (UG X.K true):=by
 rintro pins s U H x y v u Q I rx ry ⟨G,dx,l,sub,hx,hy,⟨o1,o2,o3⟩,q⟩;obtain ⟨as,ra⟩:=hx.reads I sub rx o1;have fin:EP X pins U Q (.bool (!(D.FZ l).any fun y=>PyData.eqv y (D.py dx))) s:=by rw [IP];exact ⟨.bl _,H,I,rfl,q⟩
 rcases hy with hy | hy
 ·obtain ⟨bs,rb⟩:=hy.reads I sub ry o2
  exact PySem.SeqAt.notIn_list_reads rb ra (vn _ o2) (wk _ o1) (by rw [pN,pO];omega) fin
 ·obtain ⟨bs,rb⟩:=hy.reads I sub ry o2
  exact PySem.SeqAt.notIn_tuple_reads rb ra (vn _ o2) (wk _ o1) (by rw [pN,pO];omega) fin
def QV (neg:Bool):RD:=fun x y Q=>match y with
 | .lst l=>okIn x l/\Q (.bl (if neg then !inD x l else inD x l))
 | .tup l=>okIn x l/\Q (.bl (if neg then !inD x l else inD x l))
 | _=>False
def NU {K:Frag}{neg:Bool}:Ij K (UG K neg) (QV neg):=fun G H x y dx dy Q Q2 s hx hy h k=>by
 unfold QV at h
 split at h
 ·exact ⟨G,dx,_,s,hx,.inl hy,h.1,k _ G H _ (Ext.refl s) (.bl _) h.2⟩
 ·exact ⟨G,dx,_,s,hx,.inr hy,h.1,k _ G H _ (Ext.refl s) (.bl _) h.2⟩
 ·exact h.elim
variable {x:Str}{p:Pos}{e e2:Expr}{es:List Expr}{t:qN}
def Cp:RC:=fun ds Q=>match ds with
 | [.int i,.int j]=>Q (.int (max i j))
 | _=>False
def IQ:RC:=fun ds Q=>match ds with
 | [.int i,.int j]=>Q (.int (min i j))
 | _=>False
def S6 {K:Frag}{G:Hp}{xs:List V}{i j:Int} (h:bP K G xs [.int i,.int j]):xs=[.int i,.int j]:=by
 cases h with | cons h1 h2=>cases h2 with | cons h2 h3=>cases h3;cases h1;cases h2;rfl
def wo {K:Frag}{G:Hp}{xs:List V}{d:D} (h:bP K G xs [d]):∃v,xs=[v]/\Den K G v d:=by
 cases h with | cons h1 h2=>cases h2;exact ⟨_,rfl,h1⟩
def UH {K:Frag}:oS K (fun xs H Q=>∃i j,xs=[.int i,.int j]/\Q (.int (if j>i then j else i)) H) Cp:=fun G H xs ds Q Q2 s hd h k=>by
 unfold Cp at h
 split at h
 ·rename_i i j
  refine ⟨i,j,S6 hd,k _ G H _ (Ext.refl s) ?_ h⟩;have:(if j>i then j else i)=max i j:=by split <;> omega
  rw [this];exact .int _
 ·exact h.elim
def UI {K:Frag}:oS K (fun xs H Q=>∃i j,xs=[.int i,.int j]/\Q (.int (if j<i then j else i)) H) IQ:=fun G H xs ds Q Q2 s hd h k=>by
 unfold IQ at h
 split at h
 ·rename_i i j
  refine ⟨i,j,S6 hd,k _ G H _ (Ext.refl s) ?_ h⟩;have:(if j<i then j else i)=min i j:=by split <;> omega
  rw [this];exact .int _
 ·exact h.elim
def xE (hc:X.calm=true) (hm:X.mg "max"=none) (ha:DA X (e::es) t) (hg:Gl X "max":=by rfl) (he:starEach (e::es) X.env=(false,eval e X.env)::starEach es X.env:=by rfl) (lL:(backTo pos (starEach es X.env)).any (·.1)=false:=by rfl):DE X (.Call (.Name "max" p) (e::es) [] pos) (bg Cp t) :=
 mZ (LD hc) UH hm (by rfl) ha hg (by decide) (by decide) he lL
def IS (hc:X.calm=true) (hm:X.mg "min"=none) (ha:DA X (e::es) t) (hg:Gl X "min":=by rfl) (he:starEach (e::es) X.env=(false,eval e X.env)::starEach es X.env:=by rfl) (lL:(backTo pos (starEach es X.env)).any (·.1)=false:=by rfl):DE X (.Call (.Name "min" p) (e::es) [] pos) (bg IQ t) :=
 mZ (LF hc) UI hm (by rfl) ha hg (by decide) (by decide) he lL
def QW:RC:=fun ds Q=>match ds with
 | [.lst l]=>Q (.int l.length)
 | [.tup l]=>Q (.int l.length)
 | _=>False
def UJ {K:Frag}:oS K (fun xs H Q=>∃p ys,xs=[.ref p]/\(kC K H p ys\/rE K H p ys)/\Q (.int ys.length) H) QW:=fun G H xs ds Q Q2 s hd h k=>by
 unfold QW at h
 split at h
 ·obtain ⟨v,rfl,d1⟩:=wo hd
  obtain ⟨a,vs,rfl,ha,la⟩:=d1.lst_inv;exact ⟨a,vs,rfl,.inl (s.seq ha),k _ G H _ (Ext.refl s) (by rw [la.length];exact .int _) h⟩
 ·obtain ⟨v,rfl,d1⟩:=wo hd
  obtain ⟨a,vs,rfl,ha,la⟩:=d1.kQ;exact ⟨a,vs,rfl,.inr (aX.tupS s ha),k _ G H _ (Ext.refl s) (by rw [la.length];exact .int _) h⟩
 ·exact h.elim
def Ew:RC:=fun ds Q=>match ds with
 | [.lst l]=>Q (.tup l)
 | [.tup l]=>Q (.tup l)
 | _=>False
def NV {K:Frag}:oS K (fun xs H Q=>∃p ys,xs=[.ref p]/\((kC K H p ys/\∀l,H l=none->Q (.ref l) (upd H l (.tup ys)))\/(rE K H p ys/\Q (.ref p) H))) Ew:=fun G H xs ds Q Q2 s hd h k=>by
 unfold Ew at h
 split at h
 ·obtain ⟨v,rfl,d1⟩:=wo hd
  obtain ⟨a,vs,rfl,ha,la⟩:=d1.lst_inv;exact ⟨a,vs,rfl,.inl ⟨s.seq ha,fun q hq=>k _ _ _ _ (Ext.laid s hq _) (.tup (rE.of aO) (la.up (bE (s.free hq) _))) h⟩⟩
 ·obtain ⟨v,rfl,d1⟩:=wo hd
  obtain ⟨a,vs,rfl,ha,la⟩:=d1.kQ;exact ⟨a,vs,rfl,.inr ⟨aX.tupS s ha,k _ G H _ (Ext.refl s) d1 h⟩⟩
 ·exact h.elim
end
section
variable {X:Cx}{te:fV}{a:Expr}{ta:fV}{pos:Pos}
def iSeq (K:Frag) (tl:TE):TI:=fun U H R=>tl U H fun x H1=>∃a,x=.ref a/\(((∃xs,kC K H1 a xs)/\R (ZO K a) H1)\/((∃xs,rE K H1 a xs)/\R (ZP K a) H1))
def UK {tg l:Expr}{tl:TE} (hl:PE X l tl):PI X tg l (iSeq X.K tl):=by
 intro pins s U H R I h;refine gy (hl pins s U H _ I h) fun v s1 ⟨x,H1,I1,r1,q1⟩=>?_
 have ⟨a,e,q⟩:=q1;subst e;cases r1;have fp:∀b∈[s1.heap.objs.size],vZ X pins H1 b:=fun b hb=>by
  have e:b=s1.heap.objs.size:=by simpa using hb
  subst e;exact I1.Nh (ao _) (I1.dD.fresh (ao _))
 rcases q with ⟨⟨xs,hq⟩,q⟩ | ⟨⟨xs,hq⟩,q⟩
 ·obtain ⟨its,rv,p,hz⟩:=I1.list hq
  refine wpAny_pyIter_list p.isList ?_;exact ⟨s1.heap.objs.size,[s1.heap.objs.size],_,_,H1,rfl,I1.kept (t':=s1.toks) fun b o e=>ai _ e,Ly a _,⟨_,aB _ rfl,rfl,rfl⟩,fp,q⟩
 ·obtain ⟨its,rv,p,hz⟩:=I1.tuple hq
  refine wpAny_pyIter_tuple (show s1.heap.IsTuple a its.toArray from p) ?_;exact ⟨s1.heap.objs.size,[s1.heap.objs.size],_,_,H1,rfl,I1.kept (t':=s1.toks) fun b o e=>ai _ e,Iq a _,⟨_,aB _ rfl,rfl,rfl⟩,fp,q⟩
def XF (r:D->(D->Prop)->Prop) (ta:fV):fV:=fun Z Q=>ta Z fun x Z1=>r x fun d=>Q d Z1
def Gv:D->(D->Prop)->Prop:=fun x Q=>match x with
 | .int i=>Q (.int (-i))
 | _=>False
def IT (ha:DE X a ta):DE X (.UnaryOp .USub a pos) (XF Gv ta) :=
 cN (Xi Uj ha) fun U H Q2 hx=>hx.el fun n Z G Q R h k=>⟨n,Z,G,_,R,h,fun v G1 H1 d Z1 R1 s1 d1 h1=>by
  cases d with
  | int i=>exact ⟨i,d1.int_inv,k _ G1 H1 _ Z1 R1 s1 (.int _) h1⟩
  | _=>exact h1.elim⟩
end
theorem sz0:(0<=sizeLine)=True:=eq_true (by decide)
theorem XG:(1<=sizeLine)=True:=eq_true (by decide)
theorem XH:(2<=sizeLine)=True:=eq_true (by decide)
theorem sz3:(3<=sizeLine)=True:=eq_true (by decide)
theorem sz4:(4<=sizeLine)=True:=eq_true (by decide)
theorem Kz {d e:D} (h1:d.ok=true) (h2:e.ok=true) (h3:min d.dep e.dep<=60):Co d e=True:=eq_true ⟨h1,h2,h3⟩
theorem IU {a:Bool}{b:Bool}:Co (D.bl a) (D.bl b)=True:=Kz rfl rfl (Nat.le_of_lt_succ (by decide:0<61))
theorem Ex {i:Int}{j:Int}:Co (D.int i) (D.int j)=True:=Kz rfl rfl (Nat.le_of_lt_succ (by decide:0<61))
def Ey (W:Nat->Ev->Prop) {ti:Er}{g:C9}{tb:dA}{E:wc}{Z:Ev} (items:List D) (Z1:Ev) (h0:∀Q:List D->Ev->Prop,Q items Z1->ti Z Q) (w0:W 0 Z1)
  (step:∀(i:Nat) (d:D) (Z2:Ev),items[i]?=some d->W i Z2->g d Z2 fun Z3=>tb { E with nx:=W (i+1),ct:=W (i+1),bk:=E.nx } Z3) (fin:∀Z2,W items.length Z2->E.nx Z2):Cm ti g tb E Z:=h0 _ ⟨W,w0,step,fin⟩
def Gw (t u:dA):dA:=fun E Z=>∃M:Ev->Prop,t { E with nx:=M } Z/\∀Z',M Z'->u E Z'
def ud {X:Cx}{st:Stmt}{rest:List Stmt}{t u:dA} (h1:DS X st t) (h2:Em X rest u):Em X (st::rest) (Gw t u) :=
 pL (r8 h1 h2) fun F U H ⟨n,Z,G,E,R,⟨M,h,hm⟩,k⟩=>⟨n,Z,G,_,R,h,⟨fun Z' U' G' H' R' h'=>⟨n,Z',G',E,R',hm Z' h',k⟩,k.rt,k.bk,k.ct⟩⟩
def rF (f:D->D->Option D):RD:=fun x y Q=>∃d,f x y=some d/\Q d
noncomputable def Gx:D->Option (List D)
 | .lst l=>some l
 | .tup l=>some l
 | _=>none
noncomputable def eA:D->D->Option D
 | .int i,.int j=>some (.int (i+j))
 | .tup l,.tup m=>if l.length+m.length<=sizeLine then some (.tup (l++m)) else none
 | .lst l,.lst m=>if l.length+m.length<=sizeLine then some (.lst (l++m)) else none
 | .str i,.str j=>if i.length+j.length<=sizeLine then some (.str (i++j)) else none
 | _,_=>none
noncomputable def gE:D->D->Option D
 | .lst l,.int i=>vU l i
 | .tup l,.int i=>vU l i
 | _,_=>none
def zj (neg:Bool):RD:=fun x y Q=>∃l,Gx y=some l/\okIn x l/\Q (.bl (if neg then !inD x l else inD x l))
def se:RC:=fun ds Q=>match ds with
 | [d]=>∃l,Gx d=some l/\Q (.int l.length)
 | _=>False
def ue:RC:=fun ds Q=>match ds with
 | [d]=>∃l,Gx d=some l/\Q (.tup l)
 | _=>False
def jm (te:fV):Er:=fun Z Q=>te Z fun d Z1=>∃l,Gx d=some l/\Q l Z1
noncomputable def NW:D->Option Bool
 | .bX=>some false
 | .bl b=>some b
 | .int i=>some (i != 0)
 | .str y=>if y.length<=sizeLine then some ((y.length:Int) != 0) else none
 | .tup l=>some (!l.isEmpty)
 | .lst l=>some (!l.isEmpty)
 | .pt _=>none
def nJ (t:fV):qO:=fun Z Q=>t Z fun x Z1=>∃b,NW x=some b/\Q b Z1
noncomputable def slF:D->Option Int->Option Int->Option D
 | .lst l,lo,hi=>some (.lst (cutD l lo hi))
 | .tup l,lo,hi=>some (.tup (cutD l lo hi))
 | _,_,_=>none
section
variable {X:Cx}{a b:Expr}{ta tb te:fV}{pos:Pos}
def AJ {K:Frag}{r2:R2}{r r':RD} (h:Ij K r2 r) (hi:∀x y Q,r' x y Q->r x y Q):Ij K r2 r':=fun G H x y dx dy Q Q2 s hx hy q k=>h G H x y dx dy Q Q2 s hx hy (hi dx dy Q q) k
def NX {K:Frag}{r2:List V->Hp->VK->Prop}{r r':RC} (h:oS K r2 r) (hi:∀ds Q,r' ds Q->r ds Q):oS K r2 r':=fun G H xs ds Q Q2 s hd q k=>h G H xs ds Q Q2 s hd (hi ds Q q) k
def uf {d:D}{l:List D} (h:Gx d=some l):d=.lst l\/d=.tup l:=by
 cases d <;> simp only [Gx,Option.some.injEq,reduceCtorEq] at h
 ·subst h;exact .inr rfl
 ·subst h;exact .inl rfl
def QX:∀x y Q,rF eA x y Q->Kv x y Q:=by
 rintro x y Q ⟨d,e,q⟩;unfold eA at e
 split at e
 ·cases e;exact q
 ·split at e
  ·cases e;exact ⟨by assumption,q⟩
  ·cases e
 ·split at e
  ·cases e;exact ⟨by assumption,q⟩
  ·cases e
 ·split at e
  ·cases e;exact ⟨by assumption,q⟩
  ·cases e
 ·cases e
def UL:∀x y Q,rF gE x y Q->LS x y Q:=by
 rintro x y Q ⟨d,e,q⟩;unfold gE at e
 split at e
 ·simp only [LS,e];exact q
 ·simp only [LS,e];exact q
 ·cases e
def IV {neg:Bool}:∀x y Q,zj neg x y Q->QV neg x y Q:=by
 rintro x y Q ⟨l,e,q⟩;rcases uf e with rfl | rfl <;> exact q
def QY:∀ds Q,se ds Q->QW ds Q:=by
 intro ds Q h;unfold se at h
 split at h
 ·obtain ⟨l,e,q⟩:=h
  rcases uf e with rfl | rfl <;> exact q
 ·exact h.elim
def LV:∀ds Q,ue ds Q->Ew ds Q:=by
 intro ds Q h;unfold ue at h
 split at h
 ·obtain ⟨l,e,q⟩:=h
  rcases uf e with rfl | rfl <;> exact q
 ·exact h.elim
def QZ {d:D}{Q:Bool->Prop} (h:∃b,NW d=some b/\Q b):UB d Q:=by
 have ⟨b,e,q⟩:=h;unfold NW at e
 split at e
 ·cases e;exact q
 ·cases e;exact q
 ·cases e;exact q
 ·split at e
  ·cases e;exact ⟨by assumption,q⟩
  ·cases e
 ·cases e;exact q
 ·cases e;exact q
 ·cases e
def bA (ha:DE X a ta) (hb:DE X b tb):DE X (.BinOp a .Add b pos) (aY (rF eA) ta tb):=AB LR (AJ UD QX) ha hb
def bb (ha:DE X a ta) (hb:DE X b tb) (hp:zM b:=by exact fun _ _=>rfl):DE X (.Subscript a b pos) (aY (rF gE) ta tb):=NH Nz (AJ XE UL) ha hb hp
def UM (hu:X.A.units+64<cLine) (ha:DE X a ta) (hb:DE X b tb) (hm:behindInMarks .In b=false:=by first | exact jP _ | rfl):DE X (.Compare a [.In] [b] pos) (aY (zj false) ta tb):=IJ (NT hu) (AJ NU IV) ha hb hm
def Ez (hu:X.A.units+64<cLine) (ha:DE X a ta) (hb:DE X b tb) (hm:behindInMarks .In b=false:=by first | exact jP _ | rfl):DT X (.Compare a [.In] [b] pos) (dB (aY (zj false) ta tb)):=pM (NT hu) (AJ NU IV) ha hb hm
def Dh (hu:X.A.units+64<cLine) (ha:DE X a ta) (hb:DE X b tb) (hm:behindInMarks .NotIn b=false:=by first | exact jP _ | rfl):DT X (.Compare a [.NotIn] [b] pos) (dB (aY (zj true) ta tb)):=pM (LU hu) (AJ NU IV) ha hb hm
def iW (ha:DE X a ta) (he:∀whole,isTrue a X.env whole=(do let v <-whole;standAt a.pos;holding [v] (truthy v)):=by intro _;rfl):DT X a (nJ ta) :=
 xy (Nl ha he) fun U H Q2 hx=>hx.el fun n Z G Q R h k=>⟨n,Z,G,_,R,h,fun v G1 H1 d Z1 R1 s1 d1 h1=>by
  obtain ⟨b,hb,hq⟩:=QS R1.sub d1 (QZ h1);exact ⟨b,hb,k b G1 H1 Z1 R1 s1 hq⟩⟩
def iX {tg l:Expr} (hl:DE X l te):DI X tg l (jm te) :=
 AE (UK hl) fun U H R2 hx=>hx.el fun n Z G Q R h k=>⟨n,Z,G,_,R,h,fun v G1 H1 d Z1 R1 s1 d1 ⟨l,e,h1⟩=>by
  rcases uf e with rfl | rfl
  ·obtain ⟨a,vs,rfl,hq,hl⟩:=d1.lst_inv
   exact ⟨a,rfl,.inl ⟨⟨vs,R1.sub.seq hq⟩,k _ G1 H1 l Z1 R1 s1 (NM hq hl) h1⟩⟩
  ·obtain ⟨a,vs,rfl,hq,hl⟩:=d1.kQ
   exact ⟨a,rfl,.inr ⟨⟨vs,aX.tupS R1.sub hq⟩,k _ G1 H1 l Z1 R1 s1 (QT hq hl) h1⟩⟩⟩
variable {p:Pos}{e:Expr}{es:List Expr}{t:qN}
def pQ (hm:X.mg "len"=none) (ha:DA X (e::es) t) (hg:Gl X "len":=by rfl) (he:starEach (e::es) X.env=(false,eval e X.env)::starEach es X.env:=by rfl) (lL:(backTo pos (starEach es X.env)).any (·.1)=false:=by rfl):DE X (.Call (.Name "len" p) (e::es) [] pos) (bg se t) :=
 mZ Eg (NX UJ QY) hm PySem.boot_len ha hg (by decide) (by decide) he lL
def Di (hm:X.mg "tuple"=none) (ha:DA X (e::es) t) (hg:Gl X "tuple":=by rfl) (he:starEach (e::es) X.env=(false,eval e X.env)::starEach es X.env:=by rfl) (lL:(backTo pos (starEach es X.env)).any (·.1)=false:=by rfl):DE X (.Call (.Name "tuple" p) (e::es) [] pos) (bg ue t) :=
 LL Ci (NX NV LV) hm (by rfl) ha hg (by decide) (by decide) he lL
end
theorem XI {α:Type}{d:α}{l:List α}:vU (d::l) 0=some d:=pK (j:=0) rfl
theorem XJ {α:Type}{d d1:α}{l:List α}:vU (d::d1::l) 1=some d1:=pK (j:=1) rfl
theorem XM {α:Type}{d d1 d2:α}{l:List α}:vU (d::d1::d2::l) 2=some d2:=pK (j:=2) rfl
theorem XN {α:Type}{d d1 d2 d3:α}{l:List α}:vU (d::d1::d2::d3::l) 3=some d3:=pK (j:=3) rfl
theorem LW {x:Bool}{y:Bool}:Cn (D.bl x) (D.bl y)=(x==y):=rfl
theorem yv {x:Int}{y:Int}:Cn (D.int x) (D.int y)=(x==y):=rfl
theorem yw {x:Str}{y:Str}:Cn (D.str x) (D.str y)=(x==y):=rfl
theorem Gy {x:List D}{y:List D}:Cn (D.tup x) (D.tup y)=wj x y:=rfl
theorem Gz {x:List D}{y:List D}:Cn (D.lst x) (D.lst y)=wj x y:=rfl
theorem EA:wj [] []=true:=rfl
theorem Cq {d:D}{l:List D}:wj [] (d::l)=false:=rfl
theorem Cr {d:D}{l:List D}:wj (d::l) []=false:=rfl
theorem AK {d e:D}{l m:List D}:wj (d::l) (e::m)=(Cn d e&&wj l m):=rfl
theorem eS:vo .bX=true:=rfl
theorem eT {i:Int}:vo (.int i)=false:=rfl
theorem IW {i:List D}:vo (.lst i)=false:=rfl
theorem NY {i j:Int}:eA (.int i) (.int j)=some (.int (i+j)):=rfl
theorem GA {l m:List D}:eA (.lst l) (.lst m)=if l.length+m.length<=sizeLine then some (.lst (l++m)) else none:=rfl
theorem Q0 {l:List D}{i:Int}:gE (.tup l) (.int i)=vU l i:=rfl
theorem Q3 {l:List D}{i:Int}:gE (.lst l) (.int i)=vU l i:=rfl
theorem NZ {l:List D}:Gx (.tup l)=some l:=rfl
theorem N0 {l:List D}:Gx (.lst l)=some l:=rfl
theorem Q4 {b:Bool}:NW (.bl b)=some b:=rfl
theorem N1 {l:List D}:NW (.lst l)=some (!l.isEmpty):=rfl
theorem Q5 {l:List D}{lo hi:Option Int}:slF (.lst l) lo hi=some (.lst (cutD l lo hi)):=rfl
theorem Q6 {l:List D}{lo hi:Option Int}:slF (.tup l) lo hi=some (.tup (cutD l lo hi)):=rfl
theorem EC {env:PySem.Env}:∀(names:List (Str×NameKind)) (cs:List (Str×Addr)),(∀x∈names,x.2=NameKind.free->∃c,env.cells.lookup x.1=some c) ->
  (∀x c,cs.lookup x=some c->env.cells.lookup x=some c) ->
  ∃cl,(forIn names cs fun x r=>if (x.snd==NameKind.free)=true then do let c <-cellOf env x.fst;pure (ForInStep.yield ((x.fst,c)::r)) else pure (ForInStep.yield r):Sem (List (Str×Addr)))=pure cl /\
   (∀x c,cl.lookup x=some c->env.cells.lookup x=some c)/\∀x,((∃c,cs.lookup x=some c)\/(x,NameKind.free)∈names)->∃c,cl.lookup x=some c
 | [],cs,_,h=>⟨cs,rfl,h,fun x hx=>hx.elim id fun z=>absurd z (by simp)⟩
 | (n,k)::r,cs,hf,h=>by
  by_cases hk:k=.free
  ·subst hk
   obtain ⟨c,hc⟩:=hf (n,.free) aj rfl;obtain ⟨cl,e,h1,h2⟩:=EC r ((n,c)::cs) (fun x hx=>hf x (aw _ hx)) (fun x d hx=>by
    rw [List.lookup_cons] at hx
    split at hx
    ·rename_i q;cases hx;rw [eq_of_beq q];exact hc
    ·exact h x d hx)
   refine ⟨cl,?_,h1,fun x hx=>h2 x ?_⟩
   ·rw [List.forIn_cons,<-e]
    have e0:cellOf env n=pure c:=by unfold cellOf;rw [hc]
    simp only [beq_self_eq_true,if_true,e0]
    rfl
   ·rcases hx with ⟨d,hx⟩ | hx
    ·left
     rw [List.lookup_cons]
     split
     ·exact ⟨_,rfl⟩
     ·exact ⟨d,hx⟩
    ·rcases aE.mp hx with z | z
     ·cases z
      left
      exact ⟨c,by rw [List.lookup_cons,beq_self_eq_true]⟩
     ·exact .inr z
  ·obtain ⟨cl,e,h1,h2⟩:=EC r cs (fun x hx=>hf x (aw _ hx)) h
   refine ⟨cl,?_,h1,fun x hx=>h2 x ?_⟩
   ·rw [List.forIn_cons,<-e]
    have:(k==NameKind.free)=false:=by simpa using hk
    simp only [this,Bool.false_eq_true,if_false]
    rfl
   ·rcases hx with hx | hx
    ·exact .inl hx
    ·rcases aE.mp hx with z | z
     ·cases z;exact absurd rfl hk
     ·exact .inr z
def Q7 {env:PySem.Env}{scope:Scope} (hf:∀x∈scope.names,x.2=NameKind.free->∃c,env.cells.lookup x.1=some c) :
  ∃cl,closureFor scope env=pure cl/\(∀x c,cl.lookup x=some c->env.cells.lookup x=some c)/\∀x,(x,NameKind.free)∈scope.names->∃c,cl.lookup x=some c:=by
 obtain ⟨cl,e,h1,h2⟩:=EC scope.names [] hf (fun x c h=>by simp at h);refine ⟨cl,?_,h1,fun x hx=>h2 x (.inr hx)⟩;simp only [closureFor];rw [e]
 rfl
theorem jS {env:PySem.Env}{x:Str}:∀{names:List (Str×NameKind)},
  (names.map fun (n,k)=>if (k==NameKind.free&&env.scope.kind==.function&&env.kindOf n==some .cell) then (n,NameKind.cell) else (n,k)).lookup x =
   (names.lookup x).map fun k=>if (k==NameKind.free&&env.scope.kind==.function&&env.kindOf x==some .cell) then NameKind.cell else k
 | []=>rfl
 | (n,k)::r=>by
  have ih:=@jS env x r;rw [List.map_cons]
  by_cases hx:x=n
  ·subst hx
   have e1:List.lookup x ((x,k)::r)=some k:=by rw [List.lookup_cons,beq_self_eq_true]
   rw [e1,Option.map_some];dsimp only
   split
   ·rw [List.lookup_cons,beq_self_eq_true]
   ·rw [List.lookup_cons,beq_self_eq_true]
  ·have hb:(x==n)=false:=by simpa using hx
   have e1:List.lookup x ((n,k)::r)=List.lookup x r:=by rw [List.lookup_cons,hb]
   rw [e1,<-ih];dsimp only
   split
   ·rw [List.lookup_cons,hb]
   ·rw [List.lookup_cons,hb]
theorem gY {x:Str}{k:NameKind}:∀{names:List (Str×NameKind)},names.lookup x=some k->(x,k)∈names
 | [],h=>by simp at h
 | (n,j)::r,h=>by
  rw [List.lookup_cons] at h
  split at h
  ·rename_i q;cases h;rw [eq_of_beq q];exact aj
  ·exact aw _ (gY h)
theorem AM:∀(names:List (Str×NameKind)) (n:Nat) (acc:List (Str×Addr)),cellsFrom n names acc=cellsFrom n names []++acc
 | [],_,_=>rfl
 | (x,k)::r,n,acc=>by
  unfold cellsFrom
  split
  ·rw [AM r (n+1) ((x,n)::acc),AM r (n+1) [(x,n)],List.append_assoc];rfl
  ·exact AM r n acc
theorem IX {x:Str}{c:Addr}:∀(names:List (Str×NameKind)) (n:Nat),(x,c)∈cellsFrom n names []->(x,NameKind.cell)∈names
 | [],_,h=>nomatch h
 | (y,k)::r,n,h=>by
  unfold cellsFrom at h
  split at h
  ·rename_i hk
   rw [AM] at h;rcases cS.mp h with h | h
   ·exact aw _ (IX r (n+1) h)
   ·rw [List.mem_singleton] at h
    cases h;rw [eq_of_beq hk];exact aj
  ·exact aw _ (IX r n h)
def Cs {M:Model}{A:Around}{E:Value->Shared->Prop}{s:Shared}{scope:Scope}{g:Addr}{cl:List (Str×Addr)}{q:Str}{env:PySem.Env}{Q:PySem.Env->Shared->Prop}
  (h:Q (newEnv scope s.heap.objs.size g (cellsFrom (s.heap.objs.size+1) scope.names cl) q none .none (some env) builtinsNs) { s with heap:=pushCells (s.heap.push { cls:=.type "dict",data:=.dict #[] }) scope.names }) :
  wpAny M A (newFunctionEnv scope g cl [] q none .none (some env)) Q E s:=by
 simp only [newFunctionEnv,Option.isSome_some,if_true];refine aa (wpAny_alloc ?_);refine aa (wpAny_layCells _ (fun name kind cells=>by cases hkc:kind==NameKind.cell <;> simp [hkc]) _ _ _ _ ?_);rw [show ({ s with heap:=s.heap.push { cls:=.type "dict",data:=.dict #[] } }:Shared).heap.objs.size=s.heap.objs.size+1 from Heap.size_push ..];exact aa (by rw [List.forIn_nil];exact ag (ag h))
structure XO (scope:Scope) (own:List (Str×Addr)) (L:Addr) (h:Heap):Prop where
 new:∀x c,own.lookup x=some c->L<c/\h.IsCell c none
 apart:own.Pairwise fun x y=>x.2≠y.2
 has:∀x,scope.names.lookup x=some .cell->∃c,own.lookup x=some c
 free:∀x,(x,NameKind.free)∈scope.names->own.lookup x=none
def Q8 {scope:Scope}{h:Heap} (hd:∀x,(x,NameKind.free)∈scope.names->(x,NameKind.cell)∉scope.names) :
  XO scope (cellsFrom (h.objs.size+1) scope.names []) h.objs.size (pushCells (h.push { cls:=.type "dict",data:=.dict #[] }) scope.names):=by
 have ok:=cellsFrom_ok scope.names (h.push { cls:=.type "dict",data:=.dict #[] }) (h.objs.size+1) [] ⟨fun _ _ hm=>(nomatch hm),List.Pairwise.nil⟩ (by rw [Heap.size_push];exact ao _);rw [Heap.size_push] at ok;refine ⟨fun x c e=>⟨(ok.empty x c (bJ e)).2,(ok.empty x c (bJ e)).1⟩,ok.apart,fun x e=>Option.isSome_iff_exists.mp (PySem.W.cellsFrom_some _ _ _ (.inl e)),fun x hx=>?_⟩;cases q:(cellsFrom (h.objs.size+1) scope.names []).lookup x with
 | none=>rfl
 | some c=>exact absurd (IX _ _ (bJ q)) (hd x hx)
noncomputable def cV (X:Cx) (N:List Str) (scope:Scope) (cl:List (Str×Addr)) (C:Addr) (ex:List Addr) (s:Shared) (H:Hp):Cx where
 prog:=X.prog
 w:=X.w
 K:=X.K
 mg:=X.mg
 base:=X.base
 A:=X.A
 N:=N
 s₀:=s
 H₀:=H
 env:=compEnvC scope cl C X.env
 outer:=X.stack
 stack:=X.stack
 ex:=ex
 fn:=fun x=>scope.names.lookup x==some .cell
 calm:=X.calm
 pn:=[]
 xe:=fun _ _=>False
section
variable {X:Cx}{pins:List (Addr×Obj)}{U:L2.St}{H:Hp}{s:Shared}{N':List Str}{scope:Scope}{cl:List (Str×Addr)}{fp:List Addr}{k:Nat}{h₁:Heap}{tk:Nat}
def N3 {own:List (Str×Addr)} (I:Inv X pins U H s) (Gm:scope.kind=.function) (IZ:∀x c,cl.lookup x=some c->X.env.cells.lookup x=some c) (Ja:∀x,(x,NameKind.free)∈scope.names->∃c,cl.lookup x=some c)
  (ow:XO scope own s.heap.objs.size h₁) (hN:N'.length=X.N.length+k)
  (UN:∀(i:Nat) (x:Str),N'[i]?=some x->i<X.N.length->rX (relabel scope X.env) x->X.N[i]?=some x/\scope.names.lookup x=some .free/\X.env.scope.names.lookup x=some .cell)
  (f:∀b∈fp,vZ X pins H b) (fo:∀b∈fp,b<s.heap.objs.size) (Y6:h₁.Ns s.heap.objs.size fun _=>none) (hk:∀b o,s.heap.get? b=some o->h₁.get? b=some o) :
  Inv (cV X N' scope (own++cl) s.heap.objs.size fp s H) [] (U++List.replicate k none) H { s with heap:=h₁,toks:=tk }:=by
 have MX:∀x,(relabel scope X.env).names.lookup x=(scope.names.lookup x).map fun k=>if (k==NameKind.free&&X.env.scope.kind==.function&&X.env.kindOf x==some .cell) then NameKind.cell else k:=fun x=>jS
 have two:∀x c,(own++cl).lookup x=some c->own.lookup x=some c\/X.env.cells.lookup x=some c:=fun x c e=>by
  rw [List.lookup_append] at e;cases q:own.lookup x with
  | none=>rw [q] at e;exact .inr (IZ x c e)
  | some d=>rw [q] at e;exact .inl e
 have XQ:∀x c,(x,NameKind.free)∈scope.names->cl.lookup x=some c->(own++cl).lookup x=some c:=fun x c hx e=>by rw [List.lookup_append,ow.free x hx];exact e
 have old:∀x c,X.env.cells.lookup x=some c->c<s.heap.objs.size:=fun x c e=>let ⟨_,o,ho,_⟩:=I.cell x c e;az ho
 have fre:∀x,((relabel scope X.env).names.lookup x=some .cell\/(relabel scope X.env).names.lookup x=some .free)->scope.names.lookup x=some .cell\/(x,NameKind.free)∈scope.names:=fun x hx=>by
  rw [MX x] at hx;cases q:scope.names.lookup x with
  | none=>rw [q] at hx;simp at hx
  | some k =>
   have hm:=gY q;cases k with
   | free=>exact .inr hm
   | cell=>exact .inl rfl
   | _=>rw [q] at hx;simp at hx
 have lt:∀b o,X.base.get? b=some o->b<X.s₀.heap.objs.size:=fun b o e=>az (I.ok.bs b o e).1
 have okX:(cV X N' scope (own++cl) s.heap.objs.size fp s H).Ok:=by
  refine ⟨I.ok.mod,Gm,I.ok.glob,I.ok.blt,ao _,fun x y c h1 h2=>?_,fun x hx=>?_,fun x c h e=>?_,I.ok.hd,I.ok.frames,.inl rfl,
   fun b hb=>⟨aP (fo b hb),fun x c e=>?_⟩,fun b o e=>I.bs b o e,ay I.ok.FW I.sz,fun b o e hb=>?_,fun b hb z=>?_,I.stack,I.vW⟩
  ·rcases two x c h1 with a | a <;> rcases two y c h2 with b | b
   ·exact name_of_addr ow.apart (bJ a) (bJ b)
   ·exact absurd (Nat.lt_trans (ow.new x c a).1 (old y c b)) (bQ _)
   ·exact absurd (Nat.lt_trans (ow.new y c b).1 (old x c a)) (bQ _)
   ·exact I.ok.inj x y c a b
  ·rcases fre x hx with z | z
   ·obtain ⟨c,hc⟩:=ow.has x z
    exact ⟨c,by show (own++cl).lookup x=_;rw [List.lookup_append,hc];rfl⟩
   ·obtain ⟨c,hc⟩:=Ja x z
    exact ⟨c,XQ x c z hc⟩
  ·obtain ⟨d,hd⟩:=ow.has x (eq_of_beq h)
   have e':(own++cl).lookup x=some c:=e;rw [List.lookup_append,hd] at e';cases e';exact bj (ow.new x _ hd).1
  ·rcases two x c e with a | a
   ·exact Nat.ne_of_gt (Nat.lt_trans (fo b hb) (ow.new x c a).1)
   ·exact (f b hb).2.2.2.2.1 x c a
  ·rcases (f b hb).2.2.2.1 with z | z
   ·exact I.ok.Aj b o e z
   ·exact absurd (aM (lt b o e) z) (bQ _)
  ·rcases aE.mp (I.Io b z) with z | z
   ·exact (f b hb).2.1 z
   ·exact (f b hb).2.2.1 z
 refine ⟨okX,rfl,I.bare,Un.kept hk,⟨_,Y6,fun i x v h1 h2 h3=>?_⟩,fun x c e=>?_,I.dD.fresh (ao _),fun x c e=>?_,fun p hp=>absurd (show p∈([]:List (Addr×Obj)) from hp) (by simp),I.dD.kept hk,?_⟩
 ·have hi:i<U.length:=by
   by_cases hi:i<U.length
   ·exact hi
   ·rw [List.getElem?_append_right (by omega),List.getElem?_replicate] at h2
    split at h2 <;> cases h2
  have hi':i<X.N.length:=by rw [<-I.len];exact hi
  rw [List.getElem?_append_left hi] at h2;obtain ⟨e1,e2,e3⟩:=UN i x h1 hi' h3;obtain ⟨m,_,hl⟩:=I.loc;obtain ⟨u,ru,lk⟩:=hl i x v e1 h2 (.inr (.inl e3));refine ⟨u,ru,?_⟩;have e3':X.env.kindOf x=some .cell:=e3;rcases lk with ⟨z,_⟩ | ⟨_,c,hc,CZ⟩
  ·rw [e3'] at z;cases z
  ·obtain ⟨c',hc'⟩:=Ja x (gY e2)
   have:=IZ x c' hc';rw [hc] at this;cases this;refine .inr ⟨.inl ?_,c,XQ x c (gY e2) hc',?_⟩
   ·show (relabel scope X.env).names.lookup x=some .cell
    rw [MX x,e2,Option.map_some,e3',I.ok.kind]
    rfl
   ·obtain ⟨o,ho,hd⟩:=CZ
    exact ⟨o,hk _ _ ho,hd⟩
 ·rcases two x c e with a | a
  ·exact ⟨none,(ow.new x c a).2⟩
  ·obtain ⟨v,o,ho,hd⟩:=I.cell x c a
   exact ⟨v,o,hk _ _ ho,hd⟩
 ·rcases two x c e with a | a
  ·exact I.dD.fresh (bj (ow.new x c a).1)
  ·exact I.iE x c a
 ·show (U++List.replicate k none).length=N'.length
  rw [List.length_append,List.length_replicate,I.len,hN]
def Jb {own:List (Str×Addr)}{pins':List (Addr×Obj)}{U':L2.St}{H':Hp}{s':Shared} (I:Inv X pins U H s) (IZ:∀x c,cl.lookup x=some c->X.env.cells.lookup x=some c) (Ja:∀x,(x,NameKind.free)∈scope.names->∃c,cl.lookup x=some c)
  (hof:∀x,(x,NameKind.free)∈scope.names->own.lookup x=none) (hN:N'.length=X.N.length+k)
  (UN:∀(i:Nat) (x:Str),N'[i]?=some x->i<X.N.length->rX (relabel scope X.env) x->X.N[i]?=some x/\scope.names.lookup x=some .free/\X.env.scope.names.lookup x=some .cell)
  (J:Inv (cV X N' scope (own++cl) s.heap.objs.size fp s H) pins' U' H' s'):Inv (cV X N' scope (own++cl) s.heap.objs.size fp s H) pins' (U++List.replicate k none) H' s':=by
 obtain ⟨m,hm,_⟩:=J.loc;refine ⟨J.ok,J.os,J.bare,J.base,⟨m,hm,fun i x v h1 h2 h3=>?_⟩,J.cell,J.free,J.iE,J.pin,J.dD,?_⟩
 ·have hi:i<U.length:=by
   by_cases hi:i<U.length
   ·exact hi
   ·rw [List.getElem?_append_right (by omega),List.getElem?_replicate] at h2
    split at h2 <;> cases h2
  have hi':i<X.N.length:=by rw [<-I.len];exact hi
  rw [List.getElem?_append_left hi] at h2;obtain ⟨e1,e2,e3⟩:=UN i x h1 hi' h3;obtain ⟨_,_,hl⟩:=I.loc;obtain ⟨u,ru,lk⟩:=hl i x v e1 h2 (.inr (.inl e3));refine ⟨u,ru,?_⟩;have e3':X.env.kindOf x=some .cell:=e3;rcases lk with ⟨z,_⟩ | ⟨_,c,hc,CZ⟩
  ·rw [e3'] at z;cases z
  ·obtain ⟨c',hc'⟩:=Ja x (gY e2)
   have:=IZ x c' hc';rw [hc] at this;cases this;have ID:(own++cl).lookup x=some c:=by rw [List.lookup_append,hof x (gY e2)];exact hc'
   refine .inr ⟨.inl ?_,c,ID,?_⟩
   ·show (relabel scope X.env).names.lookup x=some .cell
    rw [show (relabel scope X.env).names.lookup x=_ from jS,e2,Option.map_some,e3',I.ok.kind]
    rfl
   ·obtain ⟨o,ho,hd⟩:=CZ
    have hx:c∉fp:=fun z=>((J.ok.Qi c z).2 x c ID) rfl
    obtain ⟨sl,hs⟩:=J.base.any ho (I.iE x c hc) hx;exact ⟨_,hs,hd⟩
 ·show (U++List.replicate k none).length=N'.length
  rw [List.length_append,List.length_replicate,I.len,hN]
end
section
variable {A:Around}{prog:Program}{w:World}{s:Shared}{R:Result->Shared->Prop}
def ED {el tg itr:Expr}{cs:List Expr}{sc:Scope}{ps:Pos}{SR ac:Value}{en:PySem.Env} (I:Nat->Shared->Prop)
  (turn:∀n s,I n s->wpAny (model prog w) A (pyNext SR) (fun r s₁=>match r with
   | none=>R (.ok .next) s₁
   | some v=>wpAny (model prog w) A (letOwnedTupleGo tg SR v) (fun _ s1'=>wpAny (model prog w) A (assign tg en v) (fun _ s₂ =>
     wpAny (model prog w) A (forIn cs true fun c r=>if r=true then do let ok <-isTrue c en (eval c en);pure (ForInStep.yield ok) else pure (ForInStep.yield r)) (fun ok s₃ =>
      if ok=true then wpAny (model prog w) A (eval el en) (fun x s₄ =>
       wpAny (model prog w) A (call (.builtin "list.append") [ac,x]) (fun _ s₅=>∃m,m<n/\I m s₅) (fun _ _=>False) s₄) (fun _ _=>False) s₃
      else ∃m,m<n/\I m s₃) (fun _ _=>False) s₂) (fun _ _=>False) s1') (fun _ _=>False) s₁) (fun _ _=>False) s)
  (n:Nat) (h:I n s):codeAny (model prog w) A (.compLoop (.ListComp el [⟨tg,itr,cs,0⟩] sc ps) 0 SR ac en) R s:=by
 refine codeAny_loop rfl I (fun n s hn=>?_) n h;show wpAny _ A ((compTurn (.ListComp el [⟨tg,itr,cs,0⟩] sc ps) 0 SR ac en).onRaise (fun x=>do noteFrame x en;theTreesLotGoes x)) _ _ s;refine wpAny_noted ?_;rw [compTurn_list];refine aa (wpAny_standAt (aa (aV (turn n s hn) (fun r s₁ h₁=>?_) fun _ _ z=>False.elim z)));cases r with
 | none=>exact ag h₁
 | some v =>
  refine aa (aV h₁ (fun _ s1' h₁'=>?_) fun _ _ z=>False.elim z);refine aa (aV h₁' (fun _ s₂ h₂=>aa (aV h₂ (fun ok s₃ h₃=>?_) fun _ _ z=>False.elim z)) fun _ _ z=>False.elim z);cases ok with
  | false=>exact (ag ⟨rfl,h₃⟩)
  | true =>
   exact aa (aa (aV h₃ (fun x s₄ h₄=>aa (aV h₄ (fun _ s₅ h₅=>ag (ag ⟨rfl,h₅⟩)) fun _ _ z=>False.elim z)) fun _ _ z=>False.elim z))
end
structure JOkH (K:Frag) (G Hk:Hp) (J:It) (l:List D):Prop where
 go:∀(i:Nat) (G1 H1:Hp),aX G G1->aX G1 H1->aX Hk H1->i<l.length->J.go i H1
 yl:∀(i:Nat) (G1 H1:Hp) (x:V) (H2:Hp),aX G G1->aX G1 H1->aX Hk H1->i<l.length->J.Y1 i H1 x H2->∃(G2:Hp) (d:D),Ext G1 H1 G2 H2/\l[i]?=some d/\Den K G2 x d
 st:∀(i:Nat) (G1 H1:Hp),aX G G1->aX G1 H1->aX Hk H1->l.length<=i->J.stop i H1
theorem Qp.h {K:Frag}{G Hk:Hp}{J:It}{l:List D} (j:Qp K G J l):JOkH K G Hk J l :=
 ⟨fun i G1 H1 a b _=>j.go i G1 H1 a b,fun i G1 H1 x H2 a b _=>j.yl i G1 H1 x H2 a b,fun i G1 H1 a b _=>j.st i G1 H1 a b⟩
def Q9 (X:Cx) (ifs:List Expr) (t:qO):Prop :=
 ∀(pins:List (Addr×Obj)) (s:Shared) (U:L2.St) (H:Hp) (Q:Bool->Hp->Prop),Inv X pins U H s->lT X.K t U H Q ->
  wpAny (model X.prog X.w) X.A (forIn ifs true fun c r=>if r=true then do let ok <-isTrue c X.env (eval c X.env);pure (ForInStep.yield ok) else pure (ForInStep.yield r)) (TP X pins U Q) X.xe s
def Ct:qO:=fun Z Q=>Q true Z
def pR {X:Cx}:Q9 X [] Ct:=fun pins s U H Q I ⟨n,Z,G,Qd,R,h,k⟩=>wpAny_tests_nil ⟨H,I,k true G H Z R (aX.refl _) h⟩
def jT {X:Cx}{c:Expr}{t:qO} (h:DT X c t):Q9 X [c] t:=fun pins s U H Q I q=>wpAny_tests_one (h pins s U H Q I q)
def iF (k:Nat) (ti:Er) (g:C9) (tt:qO) (te:fV):fV:=fun Z Q=>ti Z fun items Z1=>∃F:D->Option D,
 (∀d∈items,g d (oj Z1++List.replicate k .no) fun Z2=>tt Z2 fun b Z3=>if b=true then te Z3 fun y _=>F d=some y else F d=none) /\
  (items.filterMap F).length<=sizeLine/\Q (.lst (items.filterMap F)) Z1
def EE {α β:Type} (F:α->Option β) (l:List α) (i:Nat) (d:α) (h:l[i]?=some d):(l.take (i+1)).filterMap F=(l.take i).filterMap F++(F d).toList:=by
 rw [List.take_add_one,h,List.filterMap_append];cases q:F d <;> simp [q]
def XR {α β:Type} (F:α->Option β) (l:List α) (i:Nat):((l.take i).filterMap F).length<=(l.filterMap F).length:=by
 conv=>rhs;rw [<-List.take_append_drop i l]
 rw [List.filterMap_append,List.length_append];omega
def GB {X:Cx}{pins:List (Addr×Obj)}{s:Shared}{U:L2.St}{H:Hp}{C:Addr}{h':Heap} (I:Inv X pins U H s) (f:vZ X pins H C) (hs:Heap.SameBut C s.heap h'):Inv X pins U H { s with heap:=h' }:=by
 have same:∀b o,b≠C->s.heap.get? b=some o->h'.get? b=some o:=fun b o hb e=>(hs.2 b hb).trans e
 have ne:∀b,b∉[C]->b≠C:=fun b hb z=>hb (by rw [z];exact bB.mpr rfl)
 refine I.call' (s':={ s with heap:=h' }) (ch:=[C]) rfl ⟨fun b o e _ _ n3=>same b o (ne b n3) e,fun b o e _ _ n3=>⟨o.slots,same b o (ne b n3) e⟩,fun b o _ n _=>n,fun b o e n3=>⟨o,same b o (ne b n3) e⟩,fun _ _ e=>e,fun _ _ _ e=>e,fun b ps e=>⟨#[],by rw [Array.append_empty];exact e⟩⟩ (fun a o e=>?_) I.bare fun b hb=>?_
 ·have nC:∀b u,H b=some u->b≠C:=fun b u q z=>by rw [z,f.1] at q;cases q
  refine (I.dD a o e).rY (fun b u hb q=>same b u ?_ q) (fun _ q=>q) fun _ _ q=>q
  rcases hb with rfl | hb
  ·exact nC _ _ e
  ·exact nC _ _ hb
 ·rcases bB.mp hb with rfl
  exact ⟨f.2.2.2.1,f.2.1,f.2.2.2.2.1,f.2.2.2.2.2⟩
noncomputable def fg (N:List Str) (sc:Scope) (N':List Str) (scope:Scope) (k:Nat):Bool :=
 (scope.kind==.function)&&scope.names.all (fun y=>(y.2 != .local) || (scope.names.lookup y.1==some .local))&&scope.names.all (fun y=>(y.2 != .free) || !(scope.names.any fun z=>z.1==y.1&&z.2==.cell))&&(N'.length==N.length+k) &&
 scope.names.all (fun y=>(y.2 != .free) || (sc.names.lookup y.1==some .cell)) &&
 (List.range N.length).all (fun i=>match N'[i]? with
  | some x=>(match scope.names.lookup x with
   | some .local=>false
   | some .cell=>false
   | some .free=>N[i]?==some x
   | _=>true)
  | none=>true)
section
variable {X:Cx}{pos:Pos}
def pS (i j:Nat):C9:=fun d Z Q=>match d with
 | .tup [x,y]=>Q ((Z.set i (.sh x)).set j (.sh y))
 | _=>False
def ug (i j:Nat) {x y:Str}{px py:Pos}{kk:Nat} (hc:X.calm=true) (hN:X.N.Nodup) (hi:X.N[i]?=some x:=by rfl) (hx:Loc X.env.scope x:=by first | exact Or.inl rfl | exact Or.inr rfl) (hj:X.N[j]?=some y:=by rfl) (hy:Loc X.env.scope y:=by first | exact Or.inl rfl | exact Or.inr rfl)
  (hfx:X.fn x=true\/X.env.scope.names.lookup x=some .local:=by first | exact .inl rfl | exact .inr rfl) (hfy:X.fn y=true\/X.env.scope.names.lookup y=some .local:=by first | exact .inl rfl | exact .inr rfl)
  (WK:(assignEach [.Name x px,.Name y py] X.env).map (·.2)=assign (.Name x px) X.env::(assignEach [.Name y py] X.env).map (·.2):=by rfl) (Qy:(assignEach [.Name y py] X.env).map (·.2)=assign (.Name y py) X.env::(assignEach [] X.env).map (·.2):=by rfl)
  (hn:(assignEach [.Name x px,.Name y py] X.env).length=2:=by rfl) (mz:(assignEach [.Name x px,.Name y py] X.env).findIdx? (·.1)=none:=by rfl):DG X (.Tuple [.Name x px,.Name y py] kk pos) (pS i j) :=
 NL (T7 hc (Gh (D8 (i:=i) hN hi hx hfx) (Gh (D8 (i:=j) hN hj hy hfy) Qx Qy) WK) hn mz) fun v U H Q2 hx=>hx.el fun n Z G d Q R hv h k=>by
  unfold pS at h
  split at h
  ·obtain ⟨a,vs,rfl,ha,la⟩:=hv.kQ
   cases la with
   | cons d1 la=>cases la with
    | cons d2 la =>
     cases la;exact ⟨a,_,rfl,aX.tupS R.sub ha,rfl,_,_,rfl,_,_,rfl,rfl,k _ _ ((R.set i d1).set j d2) h⟩
  ·exact h.elim
end
section
variable {X:Cx}{e:Expr}{te:fV}{pos p q:Pos}
variable {es:List Expr}{b:Expr}{tb:fV}{ta:qN}
variable {a c:Expr}{ta' tc:fV}
def EF (p p':Int->Int->Bool) (ta tb tc:fV):fV:=fun Z Q=>ta Z fun x Z1=>tb Z1 fun y Z2=>match x,y with
 | .int i,.int j=>if p i j=true then tc Z2 fun z Z3=>match z with
   | .int k=>Q (.bl (p' j k)) Z3
   | _=>False
  else Q (.bl false) Z2
 | _,_=>False
def Jc {g g':Int->Int->Bool}:∀U H Q,lE X.K (EF g g' ta' tb tc) U H Q->Nj (Kh fun i j=>.bl (g i j)) (Kh fun i j=>.bl (g' i j)) (lE X.K ta') (lE X.K tb) (lE X.K tc) U H Q:=fun U H Q2 hx=>hx.el fun n Z G Q R h k =>
 ⟨n,Z,G,_,R,h,fun v G1 H1 x Z1 R1 s1 d1 h1=>⟨n,Z1,G1,_,R1,h1,fun w G2 H2 y Z2 R2 s2 d2 h2=>by
  split at h2
  ·rename_i i j
   cases d1.int_inv;cases d2.int_inv;refine ⟨i,j,rfl,rfl,g i j,rfl,?_⟩
   split at h2
   ·rename_i hc
    rw [if_pos hc];refine ⟨n,Z2,G2,_,R2,h2,fun u G3 H3 z Z3 R3 s3 d3 h3=>?_⟩
    split at h3
    ·rename_i l
     cases d3.int_inv;exact ⟨j,l,rfl,rfl,k _ G3 H3 _ Z3 R3 (s1.trans (s2.trans s3)) (.bl _) h3⟩
    ·exact h3.elim
   ·rename_i hc
    rw [if_neg hc];exact k _ G2 H2 _ Z2 R2 (s1.trans s2) (.bl _) h2
  ·exact h2.elim⟩⟩
def N4 {op op':CmpOp}{g g':Int->Int->Bool} (ho:oO X (compareOp op) (Kh fun i j=>.bl (g i j))) (ho':oO X (compareOp op') (Kh fun i j=>.bl (g' i j))) (ha:DE X a ta') (hb:DE X b tb) (hc:DE X c tc)
  (hm:lastMarks [op,op'] [b,c]=false:=by with_unfolding_all rfl):DT X (.Compare a [op,op'] [b,c] pos) (dB (EF g g' ta' tb tc)) :=
 xy (Nk ho ho' ha hb hc hm) fun U H Q2 hx=>hx.el fun n Z G Q R h k=>Jc U H _ ⟨n,Z,G,_,R,h,fun v G1 H1 d Z1 R1 s1 d1 h1=>by
  cases d with
  | bl c=>exact ⟨c,d1.Az,k c G1 H1 Z1 R1 s1 h1⟩
  | _=>exact h1.elim⟩
end
noncomputable def Ra (p:Addr) (a b c:Int):HO:=.ext fun h=>∃t u v,IsRange h p a b c t u v
section
variable {X:Cx}{pos p q:Pos}
def XS:List V->Hp->VK->Prop:=fun xs H Q=>∃i j k,xs=[.int i,.int j,.int k]/\0<k/\k<1073741824/\∀p,H p=none->Q (.ref p) (upd H p (Ra p i j k))
def LX:fU X (.type "range") XS:=by
 rintro pins s U H xs us Q I r ⟨i,j,k,rfl,h0,h1,q⟩;cases r with
 | cons r1 r2=>cases r2 with
  | cons r2 r3=>cases r3 with
   | cons r3 r4 =>
    cases r4;obtain ⟨t,rfl⟩:=r1;obtain ⟨u,rfl⟩:=r2;obtain ⟨v,rfl⟩:=r3;refine call_range_3 (by omega) ?_ (.inl (PyProof.noPylong_small (by omega)));refine ⟨.ref s.heap.objs.size,upd H s.heap.objs.size (Ra s.heap.objs.size i j k),I.laid (t':=s.toks) (fun b o e=>ai _ e) (ao _) ?_,rfl,q _ I.fresh⟩;refine ⟨⟨t,u,v,aB _ rfl⟩,⟨_,aB _ rfl⟩,fun h1 h2 ⟨t,u,v,e⟩ k=>⟨t,u,v,k _ e⟩⟩
noncomputable def sf (a c:Int) (n:Nat):List Int:=(List.range n).map fun i=>a+(i:Nat) * c
noncomputable def AN (a b c:Int):Nat:=if a<b then ((b-a-1) / c+1).toNat else 0
def Rb:List V->Hp->VK->Prop:=fun xs H Q=>∃p i j k,xs=[.ref p]/\H p=some (Ra p i j k)/\0<k/\-1000000000<=i/\i<=1000000000/\-1000000000<=j/\j<=1000000000/\k<=1000000000/\AN i j k<=2 ^ 24 /\
 ∀l,H l=none->Q (.ref l) (upd H l (.lst ((sf i k (AN i j k)).map V.int)))
def Cu {a c:Int}:∀{n:Nat}{acc:List Value},acc.length=n->(∀(j:Nat) v,acc[j]?=some v->∃t,v=.int (a+(j:Nat) * c) t)->Vals ((sf a c n).map V.int) acc:=by
 intro n
 induction n with
 | zero=>intro acc h _;cases acc with
  | nil=>exact .nil
  | cons _ _=>cases h
 | succ n ih =>
  intro acc h hi;have e:acc=acc.take n++[acc[n]'(by omega)]:=by
   have z:=List.take_append_drop n acc;rw [List.drop_eq_getElem_cons (by omega),List.drop_eq_nil_of_le (by omega)] at z;exact z.symm
  have e2:sf a c (n+1)=sf a c n++[a+(n:Nat) * c]:=by simp [sf,List.range_succ]
  rw [e2,List.map_append,e];refine Vals.append (ih (by rw [List.length_take];omega) fun j v hj=>hi j v ?_) (.cons (hi n _ (List.getElem?_eq_getElem _)) .nil);rw [List.getElem?_take] at hj
  split at hj
  ·exact hj
  ·cases hj
def EG (hc:X.calm=true):fU X (.type "list") Rb:=by
 rintro pins s U H xs us Q I r ⟨p,i,j,k,rfl,hp,h0,a1,a2,b1,b2,c2,hn,q⟩;obtain ⟨u,rfl,ru⟩:=r.one;cases ru;obtain ⟨⟨t,u,v,hr⟩,_,_⟩:=I.dD p _ hp;have hd:0<=(j-i-1) / k\/¬i<j:=by
  by_cases z:i<j
  ·exact .inl (Int.ediv_nonneg (by omega) (by omega))
  ·exact .inr z
 have hsz:Builtin.Range.rangeSize i j k=(AN i j k:Nat):=by
  unfold Builtin.Range.rangeSize AN;rw [if_pos h0]
  split
  ·rcases hd with z | z
   ·omega
   ·exact absurd (by assumption) z
  ·rfl
 have hsm:Builtin.Range.small i j k=true:=by
  unfold Builtin.Range.small;rw [hsz];simp only [Builtin.Range.rangeFitsLong,Bool.and_eq_true,Bool.or_eq_true,decide_eq_true_eq,beq_iff_eq];have:(AN i j k:Int)<=2 ^ 24:=by exact_mod_cast hn
  refine ⟨⟨⟨⟨⟨by omega,by omega⟩,by omega,by omega⟩,by omega,by omega⟩,by omega,by omega⟩,.inr ?_⟩;rw [if_pos (by omega),Bool.and_eq_true,decide_eq_true_eq,decide_eq_true_eq];omega
 refine PySem.call_list_range (I.ok.hd hc) hr hsm hsz hn fun h' tk acc' c' hk hl hi=>?_
 have hv:Vals ((sf i k (AN i j k)).map V.int) acc'.toList:=Cu (by simpa using hi.1) fun m v hm=>by
  obtain ⟨t,e⟩:=hi.2 m v (by simpa using hm);exact ⟨t,e⟩
 refine ⟨.ref s.heap.objs.size,upd H s.heap.objs.size (.lst ((sf i k (AN i j k)).map V.int)),I.laid (t':=tk) hk (ao _) ?_,rfl,q _ I.fresh⟩;refine ⟨by rw [List.length_map];simp only [sf,List.length_map,List.length_range];exact hn,acc'.toList,c',hv,?_⟩
 simpa using hl
def EH (ta:qN):fV:=fun Z Q=>ta Z fun ds Z1=>match ds with
 | [.int i,.int j,.int k]=>0<k/\-1000000000<=i/\i<=1000000000/\-1000000000<=j/\j<=1000000000/\k<=1000000000/\AN i j k<=2 ^ 24/\Q (.lst ((sf i k (AN i j k)).map D.int)) Z1
 | _=>False
def Cv {a b c:Expr}{ta:qN}{cp:Pos} (hc:X.calm=true) (hl:X.mg "list"=none) (hr:X.mg "range"=none) (ha:DA X [a,b,c] ta) (hg:Gl X "list":=by rfl) (hg2:Gl X "range":=by rfl)
  (h1:starEach [a,b,c] X.env=(false,eval a X.env)::starEach [b,c] X.env:=by rfl) (h2:(backTo cp (starEach [b,c] X.env)).any (·.1)=false:=by rfl)
  (h3:starEach [Expr.Call (.Name "range" q) [a,b,c] [] cp] X.env=(false,eval (Expr.Call (.Name "range" q) [a,b,c] [] cp) X.env)::starEach [] X.env:=by rfl) (h4:(backTo pos (starEach [] X.env)).any (·.1)=false:=by rfl) :
  DE X (.Call (.Name "list" p) [.Call (.Name "range" q) [a,b,c] [] cp] [] pos) (EH ta) :=
 cN (ua (EG hc) hg hl (by rfl) (gm (ua LX hg2 hr (by rfl) ha (by decide) (by decide) h1 h2) kD h3) (by decide) (by decide) h3 h4) fun U H Q2 hx=>hx.el fun n Z G Q R h k =>
  ⟨n,Z,G,_,R,h,fun vs G1 H1 ds Z1 R1 s1 d1 h1=>by
   split at h1
   ·rename_i i j k'
    have ev:vs=[.int i,.int j,.int k']:=by
     cases d1 with | cons e1 d1=>cases d1 with | cons e2 d1=>cases d1 with | cons e3 d1=>cases d1;cases e1;cases e2;cases e3;rfl
    have ⟨k0,i1,i2,j1,j2,k2,hn,hq⟩:=h1;refine ⟨i,j,k',ev,k0,by omega,fun r hr'=>?_⟩;have hG:G1 r=none:=R1.sub.free hr';have R2:Rel X.K n Z1 U G1 (upd H1 r (Ra r i j k')):=R1.other hG (R1.al _ hr') (R1.II hr') _;refine ⟨r,i,j,k',rfl,aO,k0,i1,i2,j1,j2,k2,hn,fun l hl'=>?_⟩;exact k _ _ _ _ Z1 (R2.laid hl' _) (s1.trans (bE (R2.sub.free hl') _)) (.lst (kC.of aO) ((bP.ints _).up (bE (R2.sub.free hl') _))) hq
   ·exact h1.elim⟩
end
section
variable {A:Around}{prog:Program}{w:World}{s:Shared}{E:Value->Shared->Prop}
variable {zz ti to i1 i2 a1 a2:Addr}{b1 b2:Bool}{k:Nat}{xs ys:Array Value}{u v:Value}
end
section
variable {X:Cx}{pins:List (Addr×Obj)}{U:L2.St}{H:Hp}{s:Shared}{b:Bool}{a:Addr}{xs ys:List V}
end
section
variable {X:Cx}{elts:List Expr}{kk:Nat}{tp p pos:Pos}{a c:Expr}
end
section
variable {X:Cx}{a b e:Expr}{ta tb te:fV}{pos:Pos}
def Rc (i:Nat) (te:fV):dA:=fun E Z=>match Z[i]? with
 | some (.ow _)=>te Z fun d Z1=>match Z1[i]?,d with
  | some (.ow l),.lst m=>l.length+m.length<=sizeLine/\E.nx (Z1.set i (.ow (l++m)))
  | _,_=>False
 | _=>False
end
section
variable {X:Cx}{e:Expr}{es:List Expr}{t:qN}{p pos:Pos}
noncomputable def yx:List D->Option (List Int)
 | []=>some []
 | .int i::r=>(yx r).map (i::·)
 | _::_=>none
theorem vp:∀{l:List D}{ns:List Int},yx l=some ns->l=ns.map D.int
 | [],ns,h=>by cases h;rfl
 | .int i::r,ns,h=>by
  unfold yx at h;cases q:yx r with
  | none=>rw [q] at h;cases h
  | some m=>rw [q] at h;cases h;rw [vp q];rfl
theorem xF:∀ns:List Int,yx (ns.map D.int)=some ns
 | []=>rfl
 | i::r=>by show (yx (r.map D.int)).map (i::·)=_;rw [xF r];rfl
theorem bP.AO {K:Frag}{G:Hp}:∀{vs:List V}{ns:List Int},bP K G vs (ns.map D.int)->vs=ns.map V.int
 | _,[],.nil=>rfl
 | _,_::_,.cons h t=>by rw [h.int_inv,bP.AO t];rfl
end
end Dl
namespace Dl
open PySem L2
def LY (te:fV) (tl th:UE):fV:=fun Z Q=>te Z fun x Z1=>tl Z1 fun l Z2=>th Z2 fun u Z3=>∃d,slF x l u=some d/\Q d Z3
noncomputable def xG:List D->Option (List Bool)
 | []=>some []
 | .bl i::r=>(xG r).map (i::·)
 | _::_=>none
theorem si:∀{l:List D}{ns:List Bool},xG l=some ns->l=ns.map D.bl
 | [],ns,h=>by cases h;rfl
 | .bl i::r,ns,h=>by
  unfold xG at h;cases q:xG r with
  | none=>rw [q] at h;cases h
  | some m=>rw [q] at h;cases h;rw [si q];rfl
noncomputable def EI:D->Option (List D)
 | .lst l=>some l
 | _=>none
theorem sj {l:List D}:EI (.lst l)=some l:=rfl
def GC:RC:=fun ds Q=>match ds with
 | [d]=>∃l,EI d=some l/\∃ns,yx l=some ns/\ns≠[]/\ns.length<64/\∀m:Int,m∈ns->(∀x∈ns,m<=x)->Q (.int m)
 | _=>False
noncomputable def nK (x:Str):List D:=x.cps.toList.map fun c=>.str ⟨#[c]⟩
noncomputable def atS (x:Str):D->Option D
 | .int i=>if 0<=i then (nK x)[i.toNat]? else none
 | _=>none
theorem Rf {x:Str}{i:Int}:atS x (.int i)=if 0<=i then (nK x)[i.toNat]? else none:=rfl
def KA (x:Str) (te:fV):fV:=fun Z Q=>te Z fun d Z1=>∃e,atS x d=some e/\Q e Z1
def EJ (x:Str):Er:=fun Z Q=>Q (nK x) Z
end Dl
namespace HT
open PySem PyProof.Rows
section
variable {prog:Program}{w:World}{A:Around}{E:Value->Shared->Prop}{s:Shared}
def Jd {t sl:Addr}{its:Array Value}{vl vu:Value}{lo hi:Option Int}{Q:Value->Shared->Prop} (ht:IsTup s.heap t its) (hs:s.heap.IsSliceOf sl vl vu .none) (pl:IsPart vl lo) (pu:IsPart vu hi)
  (hw:iN its.size 0 lo=0/\iN its.size its.size hi=its.size) (q:Q (.ref t) s):wpAny (model prog w) A (getItem (.ref t) (.ref sl)) Q E s:=by
 obtain ⟨o,eo,co,_⟩:=id hs;have ty:s.TypeIs (.ref sl) "slice":=⟨o,eo,co⟩;unfold getItem
 try with_reducible refine bW ?_
 first | refine aa (ag ?_) | skip
 refine aa (wpAny_sequenceKey ht.typeIs (by decide) (aa (cj (name:=Str.ofString "__getitem__") ht.typeIs bH (bI bH ht.typeIs entry_tuple_getitem ?_ (args_tuple_getitem _ _)))));show wpAny _ _ (Builtin.Tuple.tupleItemsOf (.ref t) >>= _) _ _ s;refine aa (tupleItemsOf_ ht (aa (wpAny_typeOf ty ?_)));rw [if_pos (by decide)];refine aa (oQ hs pl pu ?_);show wpAny _ _ (if (((iN its.size 0 lo:Nat):Int)==0&&(1:Int)==1&&(iN its.size its.size hi-iN its.size 0 lo)==its.size)=true then _ else _) _ _ s;rw [if_pos (by rw [hw.1,hw.2];simp)];unfold Builtin.Tuple.tupleIsExact;refine aa (aa (wpAny_typeOf ht.typeIs (ag ?_)));rw [if_pos (by decide)];exact aa (wpAny_rule (ag ⟨_,rfl,ag q⟩))
end
end HT
namespace Dl
open PySem PySem.Spec PyProof.Rows L2
section
variable {X:Cx}{a:Expr}{ta:fV}{pos:Pos}
def Rh:Qm X (fun x lo hi H Q=>∃a xs,x=.ref a/\rE X.K H a xs/\(HT.iN xs.length 0 lo=0/\HT.iN xs.length xs.length hi=xs.length)/\Q (.ref a) H):=by
 intro pins s U H x v vl vu lo hi sl Q I rx hs pl pu ⟨a,xs,e,hx,hw,q⟩;subst e;cases rx;obtain ⟨its,r,ht,hz⟩:=I.tuple hx;have el:its.toArray.size=xs.length:=by rw [List.size_toArray];exact r.length.symm
 exact ⟨"tuple",_,bH.lookup,ht.typeIs,HT.Jd ht hs pl pu (by rw [el];exact hw) ⟨.ref a,H,I,rfl,q⟩⟩
def LZ {l:List D}{lo hi:Option Int} (h:HT.iN l.length 0 lo=0/\HT.iN l.length l.length hi=l.length):cutD l lo hi=l:=by
 unfold cutD;rw [h.1,h.2,List.drop_zero,Nat.sub_zero,List.take_length]
def xH {lo hi:Option Expr}{tl th:UE}{p2:Pos} (he:DE X a ta) (hl:DO X lo tl) (hu:DO X hi th):DE X (.Subscript a (.Slice lo hi none p2) pos) (LY ta tl th) :=
 cN (Nx (Qm.or (Qm.or QN Uu) Rh) he hl hu) fun U H Q2 hx=>hx.el fun n Z G Q R h k=>⟨n,Z,G,_,R,h,fun v G1 H1 d Z1 R1 s1 d1 h1=>⟨n,Z1,G1,_,R1,h1,fun l G2 H2 Z2 R2 s2 h2=>⟨n,Z2,G2,_,R2,h2,fun u G3 H3 Z3 R3 s3 ⟨w,e,h3⟩=>by
  have d3:=d1.up (s2.trans s3);cases d with
  | lst m =>
   cases e;obtain ⟨a,vs,rfl,ha,la⟩:=d3.lst_inv;exact .inl (.inl ⟨a,vs,rfl,R3.sub.seq ha,fun p hp=>k _ _ _ _ Z3 (R3.laid hp _) (s1.trans (s2.trans (s3.trans (bE (R3.sub.free hp) _)))) (.lst (kC.of aO) ((Ky la l u).up (bE (R3.sub.free hp) _))) h3⟩)
  | tup m =>
   cases e;obtain ⟨a,vs,rfl,ha,la⟩:=d3.kQ
   by_cases hw:HT.iN m.length 0 l=0/\HT.iN m.length m.length u=m.length
   ·rw [LZ hw] at h3
    exact .inr ⟨a,vs,rfl,aX.tupS R3.sub ha,by rw [la.length];exact hw,k _ G3 H3 _ Z3 R3 (s1.trans (s2.trans s3)) d3 h3⟩
   ·exact .inl (.inr ⟨a,vs,rfl,aX.tupS R3.sub ha,by rw [la.length];exact hw,fun p hp=>k _ _ _ _ Z3 (R3.laid hp _) (s1.trans (s2.trans (s3.trans (bE (R3.sub.free hp) _)))) (.tup (rE.of aO) ((Ky la l u).up (bE (R3.sub.free hp) _))) h3⟩)
  | _=>cases e⟩⟩⟩
end
section
variable {X:Cx}{e:Expr}{es:List Expr}{t:qN}{p pos:Pos}
open AutoSeq1 in
def N5 (l:Addr) (xs:Array Value) (n:Nat) (b:Addr) (ys:Array Value) (m:Nat) (dd:Option Addr) (sl:Array (Option Value)) (h0:¬(!xs.isEmpty&&Builtin.List.listTooLong (xs.size+ys.size))=true) (h1:xs.size<=sizeLine) (h2:xs.size+ys.size<=sizeLine+1) :
  Meets (Builtin.«list.extend» ⟨[.ref l,.ref b],[]⟩) (fun _ R s=>s.heap.get? l=some { cls:=.type "list",dict:=none,data:=.seq xs n,slots:=#[] }/\s.heap.get? b=some { cls:=.type "list",dict:=dd,data:=.seq ys m,slots:=sl } /\
   R (.ok (.ret Value.none)) { s with heap:=s.heap.update l (Obj.mapSeq fun x=>x++ys) }) :=
 .of_wp fun prog w A R s h=>by
  obtain ⟨hp,g,d,tk,os⟩:=s;obtain ⟨hl,hb,h⟩:=h;have f3:=AutoSeq1.sub_list_list;have hz':(xs++ys).size<=sizeLine+1:=by rw [Array.size_append];exact h2
  wp_walk using (wpAny_updateSeq hl rfl (hz:=h1) (_hz':=hz')),wpAny_loadPart' hl,wpAny_loadPart' hb
  exact ⟨_,rfl,h⟩
def N6 (K:Frag):V->List V->Hp->VK->Prop:=fun x vs H Q=>∃(l b:Addr) (xs zs:List V),x=.ref l/\vs=[.ref b]/\H l=some (.lst xs)/\kC K H b zs/\xs.length+zs.length<=sizeLine/\Q .bX (upd H l (.lst (xs++zs)))
def Je:Y5 X "list.extend" (N6 X.K):=by
 rintro pins s U H x vs v us Q I rx rv ⟨l,b,xs,zs,rfl,rfl,hH,hB,hz,q⟩;cases rx;obtain ⟨u,rfl,ru⟩:=rv.one;cases ru;obtain ⟨z,its,n,r,hl,e⟩:=I.Xy hH;obtain ⟨Cf,r2,pl2,z2⟩:=I.list hB;have ⟨⟨Us,M3,data2,S1⟩,n2,e2,c2,d2,k2⟩:=pl2;simp only at c2 d2 k2;subst c2 d2 k2;have el:=r.length;have el2:=r2.length;have Z0:¬(!its.toArray.isEmpty&&Builtin.List.listTooLong (its.toArray.size+Cf.toArray.size))=true:=by
  rw [NA (by rw [List.size_toArray,List.size_toArray];omega),Bool.and_false];exact Bool.false_ne_true
 refine call_meets F.slot_list_extend ⟨_,e,rfl⟩ F.entry_list_extend (F.args_list_extend_2 _ _) (N5 l its.toArray n b Cf.toArray n2 none S1 Z0 (by rw [List.size_toArray];omega) (by rw [List.size_toArray,List.size_toArray];omega)) ⟨e,e2,?_⟩;refine ⟨.bX,_,I.Xw (its':=its++Cf) hH e (by simp) (r.append r2) (by rw [List.length_append];exact hz),rfl,q⟩
def L0 (i:Nat) {x:Str}{e₀:Expr}{np ap cp:Pos}{te:fV} (he:DE X e₀ te) (hN:X.N[i]?=some x:=by rfl) (hv:rX X.env.scope x:=by first | exact Or.inl rfl | exact Or.inr (Or.inl rfl) | exact Or.inr (Or.inr rfl))
  (hd:(x==("__debug__":Str))=false:=by decide) (gL:(x==("__classdict__":Str))=false:=by decide)
  (hs:swapsWith (.Call (.Attribute (.Name x np) "extend" ap) [e₀] [] cp) none pos.line X.env=pure false:=by rfl)
  (kX:attributeBase (.Name x np) "extend" X.env (eval (.Name x np) X.env)=eval (.Name x np) X.env:=by rfl)
  (xw:((backTo cp (starEach [e₀] X.env)).all (fun x=>!x.1)&&(backToKw cp (keywordEach [] X.env)).all (fun x=>x.1.isSome)
   && decide ([e₀].length+([]:List Keyword).length+(if ([]:List Keyword).isEmpty then 0 else 1)<30))=true:=by rfl)
  (oR:(ap.endLine==cp.line)=true:=by rfl) (mz:starEach [e₀] X.env=(false,eval e₀ X.env)::starEach [] X.env:=by rfl) (mY:(backTo cp (starEach [] X.env)).any (·.1)=false:=by rfl) :
  DS X (.Expr (.Call (.Attribute (.Name x np) "extend" ap) [e₀] [] cp) pos) (Rc i te) :=
 eR (t9 (Kl PySem.F.plainAttrs_list PySem.F.slot_list_extend PySem.F.type_list_extend Je (fe hN hv hd gL) (gm he kD mz) kX xw oR mz mY) hs) fun F U H hx=>hx.el fun n Z G E R h k=>by
  unfold Rc at h
  split at h
  ·rename_i l0 e0
   obtain ⟨p,vs,g1,g2,g3,g4,g5⟩:=R.sl i _ e0;refine ⟨.ref p,g1,.inl ⟨rfl,vs,kC.of g2⟩,n,Z,G,_,R,h,fun v G1 H1 d Z1 R1 s1 d1 h1=>?_⟩
   split at h1
   ·rename_i l1 m e1
    obtain ⟨q,ws,k1,k2,k3,k4,k5⟩:=R1.sl i _ e1;rw [g1] at k1;cases k1;obtain ⟨b,zs,rfl,hb,lb⟩:=d1.lst_inv;exact ⟨p,b,ws,zs,rfl,rfl,k2,R1.sub.seq hb,by rw [k5.length,lb.length];exact h1.1,k.nx _ U G1 _ (R1.change e1 g1 (k5.append lb)) h1.2⟩
   ·exact h1.elim
  ·exact h.elim
end
section
variable {X:Cx}{pins:List (Addr×Obj)}{U:L2.St}{H:Hp}{s:Shared}{fp:List Addr}
def Inv.yields {g:Heap}{tk:Nat}{vs:List V}{us:List Value} (I:Inv X pins U H s) (hf:∀b∈fp,vZ X pins H b) (fo:∀b∈fp,∃o,s.heap.get? b=some o)
  (kp:∀c o,c∉fp->s.heap.get? c=some o->g.get? c=some o) (pT:IsTup g s.heap.objs.size us.toArray) (rv:Vals vs us) (hz:vs.length<=sizeLine) :
  Inv X pins U (upd H s.heap.objs.size (.tup vs)) { s with heap:=g,toks:=tk }/\∀b∈fp,upd H s.heap.objs.size (.tup vs) b=none:=by
 have Al:∀b∈fp,H b=none:=fun b hb=>(hf b hb).1
 have lt:∀{b:Addr}{o:Obj},s.heap.get? b=some o->b≠s.heap.objs.size:=fun e=>aP (az e)
 have Qh:∀{b:Addr}{o:HO},H b=some o->b∉fp:=fun e hb=>by rw [Al _ hb] at e;cases e
 have fr:H s.heap.objs.size=none:=I.dD.fresh (ao _);have un:Un (oM X.stack) fp H (upd H s.heap.objs.size (.tup vs)) s.heap g:=by
  refine ⟨fun b o e _ _ nx=>kp b o nx e,fun b o e _ _ nx=>⟨o.slots,kp b o nx e⟩,fun b o e n _=>by rw [aF (lt e)];exact n,fun b o e nx=>⟨o,kp b o nx e⟩,fun b zs e=>?_,fun b o' w' e=>?_,fun b ps e=>⟨#[],?_⟩⟩
  ·rw [aF (cq e fr)];exact e
  ·rw [aF (cq e fr)];exact e
  ·rw [aF (cq e fr),e];simp
 have dD:t7 X.prog X.w (upd H s.heap.objs.size (.tup vs)) g:=fun b o e=>by
  by_cases hb:b=s.heap.objs.size
  ·subst hb
   rw [aO] at e;cases e;exact ⟨hz,us,rv,pT⟩
  ·rw [aF hb] at e
   refine (I.dD b o e).rY (fun c w' hc' q=>kp c w' ?_ q) (fun c q=>by rw [aF (cq q fr)];exact q) fun c zs q=>by rw [aF (cq q fr)];exact q
   rcases hc' with rfl | hc'
   ·exact Qh e
   ·exact Qh hc'
 refine ⟨I.call' (s':={ s with heap:=g,toks:=tk }) (ch:=fp) rfl un dD I.bare fun b hb=>⟨(hf b hb).2.2.2.1,(hf b hb).2.1,(hf b hb).2.2.2.2.1,(hf b hb).2.2.2.2.2⟩,fun b hb=>?_⟩;obtain ⟨o,eo⟩:=fo b hb;rw [aF (lt eo)];exact Al b hb
def Inv.turns {g:Heap}{tk:Nat} (I:Inv X pins U H s) (hf:∀b∈fp,vZ X pins H b) (kp:∀c o,c∉fp->s.heap.get? c=some o->g.get? c=some o):Inv X pins U H { s with heap:=g,toks:=tk }:=by
 have Al:∀b∈fp,H b=none:=fun b hb=>(hf b hb).1
 have Qh:∀{b:Addr}{o:HO},H b=some o->b∉fp:=fun e hb=>by rw [Al _ hb] at e;cases e
 have un:Un (oM X.stack) fp H H s.heap g:=⟨fun b o e _ _ nx=>kp b o nx e,fun b o e _ _ nx=>⟨o.slots,kp b o nx e⟩,fun _ _ _ n _=>n,fun b o e nx=>⟨o,kp b o nx e⟩,fun _ _ e=>e,fun _ _ _ e=>e,fun b ps e=>⟨#[],by rw [e];simp⟩⟩;have dD:t7 X.prog X.w H g:=fun b o e=>by
  refine (I.dD b o e).rY (fun c w' hc' q=>kp c w' ?_ q) (fun c q=>q) fun c zs q=>q
  rcases hc' with rfl | hc'
  ·exact Qh e
  ·exact Qh hc'
 exact I.call' (s':={ s with heap:=g,toks:=tk }) (ch:=fp) rfl un dD I.bare fun b hb=>⟨(hf b hb).2.2.2.1,(hf b hb).2.1,(hf b hb).2.2.2.2.1,(hf b hb).2.2.2.2.2⟩
end
open AutoSeq1 in
section
variable {prog:Program}{w:World}{A:Around}{E:Value->Shared->Prop}{s:Shared}{b:Bool}{p:Addr}{xs:Array Value}
end
section
variable {X:Cx}{elts:List Expr}{kk:Nat}{tp p pos:Pos}{a:Expr}
end
section
variable {X:Cx}{b:Expr}{tb:fV}{x:Str}{j:Nat}{cp pos:Pos}
def N7 {x:Str}{d e:D} (h:atS x d=some e):∃(i:Int) (c:Nat),d=.int i/\0<=i/\x.cps[i.toNat]?=some c/\e=.str ⟨#[c]⟩:=by
 unfold atS at h
 split at h
 ·rename_i i
  by_cases h0:0<=i
  ·rw [if_pos h0] at h
   unfold nK at h;rw [List.getElem?_map,Array.getElem?_toList] at h;cases q:x.cps[i.toNat]? with
   | none=>rw [q] at h;cases h
   | some c=>rw [q] at h;cases h;exact ⟨i,c,rfl,h0,q,rfl⟩
  ·rw [if_neg h0] at h;cases h
 ·cases h
def XT (x:Str):RD:=fun v y Q=>match v with
 | .str z=>z=x/\∃e,atS x y=some e/\Q e
 | _=>False
def XU {K:Frag} (hx:x.length<=sizeLine):Ij K (Z7 K) (XT x):=fun G H v y dv dy Q Q2 s hv hy h k=>by
 unfold XT at h
 split at h
 ·obtain ⟨rfl,e,he,q⟩:=h
  obtain ⟨i,c,rfl,h0,hc,rfl⟩:=N7 he;cases hv.str_inv;cases hy.int_inv;refine .inr (.inr ⟨_,i,c,rfl,rfl,hx,?_,k _ G H _ (Ext.refl s) (.str _) q⟩);have e:((i.toNat:Nat):Int)=i:=Int.toNat_of_nonneg h0;rw [<-e];exact pK (by rw [Array.getElem?_toList];exact hc)
 ·exact h.elim
def N8 {Z:Ev}{Q:QE} (h:KA x tb Z Q):aY (XT x) (dC (.str x)) tb Z Q:=by
 have e:(fun (y:D) (Z2:Ev)=>XT x (.str x) y fun d=>Q d Z2)=fun y Z2=>∃e,atS x y=some e/\Q e Z2:=funext fun y=>funext fun Z2=>propext ⟨fun h=>h.2,fun h=>⟨rfl,h⟩⟩
 show tb Z (fun y Z2=>XT x (.str x) y fun d=>Q d Z2);rw [e];exact h
def Ri (hb:DE X b tb) (hx:x.length<=sizeLine:=by decide +kernel) (hp:zM b:=by exact fun _ _=>rfl):DE X (.Subscript (.Constant (.str x) j cp) b pos) (KA x tb) :=
 cN (NH Nz (XU hx) fH hb hp) fun U H Q2 hx=>hx.el fun n Z G Q R h k=>⟨n,Z,G,Q,R,N8 h,k⟩
end
noncomputable def Its (x:Str):It:=⟨fun i _=>i<x.cps.size,fun i H v H'=>H'=H/\∃c,x.cps[i]?=some c/\v=.str ⟨#[c]⟩,fun i _=>x.cps.size<=i⟩
def Jf {P:Program}{w:World}{K:Frag}{tg:Expr}{x:Str}{t:Tok} (it:Addr):Turn P w K tg (Its x) [it] it (fun i h=>h.IsStrIter it "str_ascii_iterator" x t i) where
 mem:=bB.mpr rfl
 obj:=fun i h st b hb=>by
  rw [List.mem_singleton.mp hb];obtain ⟨o,e,_,d⟩:=st;exact ⟨o,e,fun v z=>by rw [d] at z;cases z⟩
 keep:=fun i h h' ⟨o,e,r⟩ k=>⟨o,k it (bB.mpr rfl) o e,r⟩
 item:=by
  intro X hP hw hK hc i pins s U H E I hf st hg;subst hP hw hK;have hx:x.cps[i]?=some (x.cps[i]'hg):=bh hg;obtain ⟨f0,f1,f2,f3,f4,f5⟩:=hf it (bB.mpr rfl);refine wpAny_pyNext_ascii_item st hx fun g st' sb=>?_
  have I1:Inv X pins U H { s with heap:=g,toks:=s.toks+1 }:=I.turned (fun b o hb e=>(sb.2 b hb).trans e) f0 f1 f3 f4 f5;obtain ⟨o,e,c,d⟩:=id st';exact ⟨_,rfl,Kg (s:={ s with heap:=g,toks:=s.toks+1 }) e c d (by decide) ⟨.str ⟨#[x.cps[i]'hg]⟩,H,I1,⟨_,rfl⟩,⟨rfl,_,hx,rfl⟩,st',fun b hb=>(hf b hb).1⟩⟩
 done:=by
  intro X hP hw hK hc i pins s U H E I hf st hg;subst hP hw hK;obtain ⟨f0,f1,f2,f3,f4,f5⟩:=hf it (bB.mpr rfl);exact wpAny_pyNext_ascii_end (I.ok.hd hc) st (Array.getElem?_eq_none hg) fun g eb=>⟨rfl,I.turned (t':=s.toks) (fun b o hb e=>eb b o hb e) f0 f1 f3 f4 f5⟩
 self:=fun _ _ _ _ _ st q=>wpAny_pyIter_striter_ascii st q
section
variable {X:Cx}{tg:Expr}{x:Str}{j:Nat}{cp:Pos}
def N9 (ha:x.cps.all (·<128)=true):PI X tg (.Constant (.str x) j cp) (fun U H R=>R (Its x) H):=by
 intro pins s U H R I h;refine Calls.Constant_str (wpAny_pyIter_ascii ha ?_);have I1:=I.tok (s.toks+1);refine ⟨_,[_],_,_,H,rfl,I1.kept (t':=s.toks+1) fun b o e=>ai _ e,Jf _,⟨_,aB _ rfl,rfl,rfl⟩,fun b hb=>?_,h⟩;rw [List.mem_singleton.mp hb];exact I1.Nh (ao _) (I1.dD.fresh (ao _))
def L1 {K:Frag}{G:Hp}:Qp K G (Its x) (nK x):=by
 have el:(nK x).length=x.cps.size:=by unfold nK;rw [List.length_map,Array.length_toList]
 refine ⟨fun i G1 H1 s1 s2 hi=>by rw [el] at hi;exact hi,fun i G1 H1 v H2 s1 s2 hi y=>?_,fun i G1 H1 s1 s2 hi=>by rw [el] at hi;exact hi⟩;obtain ⟨rfl,c,hc,rfl⟩:=y;refine ⟨G1,.str ⟨#[c]⟩,Ext.refl s2,?_,.str _⟩;unfold nK;rw [List.getElem?_map,Array.getElem?_toList,hc];rfl
def Oa (ha:x.cps.all (·<128)=true:=by decide +kernel):DI X tg (.Constant (.str x) j cp) (EJ x) :=
 AE (N9 ha) fun U H R2 hx=>hx.el fun n Z G Q R h k=>k _ G H _ Z R (aX.refl _) L1 h
end
section
variable {X:Cx}{e:Expr}{es:List Expr}{t:qN}{p pos:Pos}
theorem lU:∀{us:List Value}{ns:List Int},IntsAre us ns->Vals (ns.map V.int) us
 | _,_,.nil=>.nil
 | _,_,.cons n t h=>.cons ⟨t,rfl⟩ (lU h)
def Jg (K:Frag):List V->Hp->VK->Prop:=fun xs H Q=>∃(p:Addr) (ns:List Int),xs=[.ref p]/\kC K H p (ns.map V.int)/\ns.length<64 /\
 ∀ms:List Int,ms.Perm ns->ms.Pairwise (·<=·)->∀l,H l=none->Q (.ref l) (upd H l (.lst (ms.map V.int)))
def AQ:fU X (.builtin "sorted") (Jg X.K):=by
 rintro pins s U H xs us Q I r ⟨p,ns,rfl,hq,yy,q⟩;obtain ⟨u,rfl,ru⟩:=r.one;cases ru;obtain ⟨its,rv,pl,hz⟩:=I.list hq;have hi:=intsAre_of rv;have el:=rv.length;rw [List.length_map] at el;refine sorted_ints pl.isList hi (by omega) fun out ms a1 a2 a3=>?_
 obtain ⟨n,he⟩:=sortedAll_at s.heap its out;have lm:=a2.length_eq;refine ⟨.ref _,_,I.laid (a:=s.heap.objs.size+1) (o:=.lst (ms.map V.int)) (t':=s.toks) (fun _ _=>sortedAll_old) (cf _) ⟨?_,out.toList,n,lU a1,?_⟩,rfl,q ms a2 a3 _ (I.dD.fresh (cf _))⟩
 ·rw [List.length_map,lm]
  exact ay (show ns.length<=64 by omega) (by decide)
 ·rw [he]
theorem AR (val:Nat->Int):∀i,(firstMet val i).Nodup
 | 0=>by rw [firstMet_zero];exact .nil
 | i+1=>by
  rw [firstMet_succ];unfold step_dedup
  split
  ·exact AR val i
  ·rename_i h
   refine List.nodup_append.mpr ⟨AR val i,by simp,fun a ha b hb e=>h ?_⟩;rw [List.mem_singleton] at hb;subst e hb;exact List.any_eq_true.mpr ⟨_,ha,by simp⟩
def UO (ns:List Int) (t:Int):t∈firstMet (fun i=>ns.getD i 0) ns.length<->t∈ns:=by
 have h:=firstMet_any (fun i=>ns.getD i 0) ns.length t;have e:(List.range ns.length).map (fun i=>ns.getD i 0)=ns:=by
  apply List.ext_getElem?;intro i;rw [List.getElem?_map]
  by_cases z:i<ns.length
  ·rw [List.getElem?_range z,List.getElem?_eq_getElem z];simp [z]
  ·rw [List.getElem?_eq_none (by simp;omega),List.getElem?_eq_none (by omega)];rfl
 rw [e] at h
 constructor
 ·intro z
  have:ns.any (·==t)=true:=by rw [<-h];exact List.any_eq_true.mpr ⟨t,z,by simp⟩
  obtain ⟨x,hx,ex⟩:=List.any_eq_true.mp this;rw [beq_iff_eq] at ex;subst ex;exact hx
 ·intro z
  have:(firstMet (fun i=>ns.getD i 0) ns.length).any (·==t)=true:=by rw [h];exact List.any_eq_true.mpr ⟨t,z,by simp⟩
  obtain ⟨x,hx,ex⟩:=List.any_eq_true.mp this;rw [beq_iff_eq] at ex;subst ex;exact hx
end
section
variable {prog:Program}{w:World}{A:Around}{E:Value->Shared->Prop}{s:Shared}
end
section
variable {X:Cx}{e:Expr}{es:List Expr}{t:qN}{p pos:Pos}
end
noncomputable def notStar:Expr->Bool
 | .Starred ..=>false
 | _=>true
def L3 {e:Expr}{es:List Expr}{env:Env} (h:notStar e=true):starEach (e::es) env=(false,eval e env)::starEach es env:=by
 cases e <;> first | rfl | cases h
section
variable {X:Cx}{e:Expr}{es:List Expr}{te:fV}{t:qN}
def eZ (ha:DE X e te) (hr:DA X es t) (h:notStar e=true:=by rfl):DA X (e::es) (av te t):=ah ha hr (L3 h)
end
inductive Ar where
 | v (d:D) | o (C:Nat) (fs:List (Str×Fl)) | l (xs:List D) | x | r (fs:List (Str×Fl))
 deriving Inhabited
abbrev Ca:=List Ar->(D->List Ar->Prop)->Prop
noncomputable def slA (h:Nat):Ar->Sl
 | .v d=>.sh d
 | .o C fs=>.ob (some h) C fs
 | .l xs=>.mu h xs
 | .x=>.no
 | .r fs=>.rc (some h) fs
noncomputable def EK (hs:Nat->Nat):Nat->List Ar->List Sl
 | _,[]=>[]
 | i,a::r=>slA (hs i) a::EK hs (i+1) r
noncomputable def dt (N:List Str) (hs:Nat->Nat) (as:List Ar):Ev:=EK hs 0 as++List.replicate (N.length-as.length) Sl.no
noncomputable def UP (h:Nat):Ar->Option Sl->Ar
 | .v d,_=>.v d
 | .o _ _,some (.ob (some a) C' fs')=>if a=h then .o C' fs' else .x
 | .l _,some (.mu a ys)=>if a=h then .l ys else .x
 | .r _,some (.rc (some a) fs')=>if a=h then .r fs' else .x
 | _,_=>.x
noncomputable def dO (hs:Nat->Nat):Nat->List Ar->Ev->List Ar
 | _,[],_=>[]
 | i,a::r,Z=>UP (hs i) a Z[i]?::dO hs (i+1) r Z
inductive Ax where
 | v (d:D) | at (j:Nat)
abbrev Jh:=Ev->(List Ax->Ev->Prop)->Prop
noncomputable def kB:List Ax->List Nat
 | []=>[]
 | .v _::r=>kB r
 | .at j::r=>j::kB r
noncomputable def Rj (Z:Ev):Ax->Ar
 | .v d=>.v d
 | .at j=>match Z[j]? with
  | some (.ob _ C fs)=>.o C fs
  | some (.ow l)=>.l l
  | some (.mu _ l)=>.l l
  | some (.sh d)=>.v d
  | some (.rc _ fs)=>.r fs
  | _=>.x
noncomputable def Y8:Sl->Option Ar->Sl
 | .ob h _ _,some (.o C fs)=>.ob h C fs
 | .ow _,some (.l ys)=>.ow ys
 | .mu a _,some (.l ys)=>.mu a ys
 | .rc h _,some (.r fs)=>.rc h fs
 | .sh d,_=>.sh d
 | _,_=>.no
noncomputable def Cw:Ev->List Ax->List Ar->Ev
 | Z,[],_=>Z
 | Z,.v _::r,os=>Cw Z r os.tail
 | Z,.at j::r,os=>Cw (match Z[j]? with | some s=>Z.set j (Y8 s os.head?) | none=>Z) r os.tail
def AS (S:Ca) (t:Jh):fV:=fun Z Q=>t Z fun axs Z1=>(kB axs).Nodup/\S (axs.map (Rj Z1)) fun d outs=>Q d (Cw Z1 axs outs)
def fb (i:Nat) (C:Nat) (m:Str) (S:Ca) (t:Jh):fV:=fun Z Q=>match Z[i]? with
 | some (.ob _ C' fs)=>C'=C/\fs.lookup m=none/\t Z fun axs Z1=>(i::kB axs).Nodup/\S (Rj Z1 (.at i)::axs.map (Rj Z1)) fun d outs=>Q d (Cw Z1 (.at i::axs) outs)
 | _=>False
def Ob (i:Nat) (C:Nat) (S:Ca) (t:qN):dA:=fun E Z=>t Z fun ds Z1=>S (.o C []::ds.map .v) fun d outs=>match d,outs with
 | .bX,.o C' fs::_=>E.nx (Z1.set i (.ob none C' fs))
 | _,_=>False
def fc:Jh:=fun Z Q=>Q [] Z
def dk (te:fV) (t:Jh):Jh:=fun Z Q=>te Z fun d Z1=>t Z1 fun axs Z2=>Q (.v d::axs) Z2
def aAt (j:Nat) (t:Jh):Jh:=fun Z Q=>t Z fun axs Z1=>Q (.at j::axs) Z1
def XW (K:Frag) (G H:Hp) (ow:Ow) (i:Nat) (v:V):Ar->Prop
 | .v d=>Den K G v d
 | .o C fs=>∃a dx bU,v=.ref a/\H a=some (.ins C dx bU)/\H dx=some (.own a)/\ow a=some (i,("":Str))/\ow dx=some (i,("":Str))/\uA K G H ow i bU fs
 | .l xs=>∃a vs,v=.ref a/\H a=some (.lst vs)/\ow a=some (i,("":Str))/\bP K G vs xs
 | .x=>True
 | .r fs=>∃a bU,v=.ref a/\H a=some (.dK (bU.map kx))/\ow a=some (i,("":Str))/\uA K G H ow i bU fs
structure Rk (M:Addr->Prop) (G H G' H':Hp):Prop where
 gg:aX G G'
 gh:aX G' H'
 hh:∀b o,H b=some o->¬M b->H' b=some o
 al:∀b,H' b=none->H b=none
 fr:∀b o,G' b=some o->G b=none->H b=none
structure EL (K:Frag) (G H:Hp) (ow:Ow) (vs:List V) (as:List Ar):Prop where
 at_:∀k a v,as[k]?=some a->vs[k]?=some v->XW K G H ow k v a
def AU (K:Frag) (S:Ca):Sp:=fun vs H Q _=>∃(G:Hp) (as:List Ar) (Qd:D->List Ar->Prop) (ow:Ow),aX G H/\as.length=vs.length/\EL K G H ow vs as/\(∀p k,ow p=some k->G p=none/\H p≠none)/\S as Qd /\
 ∀(v:V) (G' H':Hp) (d:D) (outs:List Ar) (ow':Ow),Rk (fun p=>ow p≠none) G H G' H'->Den K G' v d->EL K G' H' ow' vs outs->(∀p k,ow' p=some k->G' p=none/\H' p≠none/\(H p=none\/ow p≠none))->Qd d outs->Q v H'
theorem GD (hs:Nat->Nat):∀(as:List Ar) (i k:Nat),(EK hs i as)[k]?=(as[k]?).map (slA (hs (i+k)))
 | [],i,k=>by simp [EK]
 | a::r,i,0=>by simp [EK]
 | a::r,i,k+1=>by simp only [EK,List.getElem?_cons_succ];rw [GD hs r (i+1) k];congr 2;congr 1;omega
theorem wq (hs:Nat->Nat):∀(as:List Ar) (i:Nat),(EK hs i as).length=as.length
 | [],i=>rfl
 | a::r,i=>by simp [EK,wq hs r]
theorem GF (hs:Nat->Nat) (Z:Ev):∀(as:List Ar) (i k:Nat),(dO hs i as Z)[k]?=(as[k]?).map fun a=>UP (hs (i+k)) a Z[i+k]?
 | [],i,k=>by simp [dO]
 | a::r,i,0=>by simp [dO]
 | a::r,i,k+1=>by
  simp only [dO,List.getElem?_cons_succ];rw [GF hs Z r (i+1) k];have:i+1+k=i+(k+1):=by omega
  rw [this]
theorem AV:∀(axs:List Ax) (Z:Ev) (outs:List Ar) (j:Nat) (s':Sl),(kB axs).Nodup->(Cw Z axs outs)[j]?=some s' ->
  (j∉kB axs/\Z[j]?=some s')\/∃(k:Nat) (s:Sl),axs[k]?=some (Ax.at j)/\Z[j]?=some s/\s'=Y8 s outs[k]?
 | [],Z,outs,j,s',_,h=>.inl ⟨by simp [kB],h⟩
 | .v d::r,Z,outs,j,s',nd,h=>by
  rcases AV r Z outs.tail j s' nd h with ⟨h1,h2⟩ | ⟨k,s,h1,h2,h3⟩
  ·exact .inl ⟨h1,h2⟩
  ·exact .inr ⟨k+1,s,by simpa using h1,h2,by rw [h3];cases outs <;> simp⟩
 | .at i::r,Z,outs,j,s',nd,h=>by
  obtain ⟨n1,n2⟩:=List.nodup_cons.mp nd;rcases AV r _ outs.tail j s' n2 h with ⟨h1,h2⟩ | ⟨k,s,h1,h2,h3⟩
  ·by_cases e:i=j
   ·subst e
    cases q:Z[i]? with
    | none=>rw [q] at h2;simp only at h2;rw [q] at h2;cases h2
    | some s =>
     rw [q] at h2;simp only at h2;rcases kR h2 with ⟨_,e2,_⟩ | ⟨z,_⟩
     ·exact .inr ⟨0,s,rfl,rfl,by rw [e2];cases outs <;> rfl⟩
     ·exact absurd rfl z
   ·refine .inl ⟨by simp only [kB,List.mem_cons,not_or];exact ⟨fun z=>e z.symm,h1⟩,?_⟩
    cases q:Z[i]? with
    | none=>rw [q] at h2;exact h2
    | some s=>rw [q] at h2;simp only at h2;rwa [List.getElem?_set_ne e] at h2
  ·have hj:j∈kB r:=by
    have:∀(l:List Ax) (k:Nat),l[k]?=some (.at j)->j∈kB l:=by
     intro l
     induction l with
     | nil=>intro k z;simp at z
     | cons a t ih =>
      intro k z;cases k with
      | zero=>simp at z;subst z;simp [kB]
      | succ k=>have:=ih k (by simpa using z);cases a <;> simp [kB,this]
    exact this r k h1
   have e:i≠j:=fun z=>n1 (by rw [z];exact hj)
   refine .inr ⟨k+1,s,by simpa using h1,?_,by rw [h3];cases outs <;> simp⟩;cases q:Z[i]? with
   | none=>rw [q] at h2;exact h2
   | some s=>rw [q] at h2;simp only at h2;rwa [List.getElem?_set_ne e] at h2
theorem AW:∀(axs:List Ax) (Z:Ev) (outs:List Ar),(Cw Z axs outs).length=Z.length
 | [],Z,outs=>rfl
 | .v d::r,Z,outs=>AW r Z outs.tail
 | .at i::r,Z,outs=>by
  show (Cw (match Z[i]? with | some s=>Z.set i (Y8 s outs.head?) | none=>Z) r outs.tail).length=_;rw [AW r];cases Z[i]? <;> simp
noncomputable def posOf (j:Nat):List Ax->Option Nat
 | []=>none
 | .v _::r=>(posOf j r).map (·+1)
 | .at i::r=>if i=j then some 0 else (posOf j r).map (·+1)
theorem pU {j:Nat}:∀{axs:List Ax},j∉kB axs->posOf j axs=none
 | [],_=>rfl
 | .v _::r,h=>by simp only [posOf];rw [pU (axs:=r) h];rfl
 | .at i::r,h=>by
  simp only [kB,List.mem_cons,not_or] at h;simp only [posOf];rw [if_neg (fun z=>h.1 z.symm),pU h.2];rfl
theorem AX {j:Nat}:∀{axs:List Ax}{k:Nat},(kB axs).Nodup->axs[k]?=some (.at j)->posOf j axs=some k
 | [],k,_,h=>by simp at h
 | .v _::r,0,_,h=>by simp at h
 | .v _::r,k+1,nd,h=>by simp only [posOf];rw [AX (axs:=r) (k:=k) nd (by simpa using h)];rfl
 | .at i::r,0,_,h=>by simp at h;subst h;simp [posOf]
 | .at i::r,k+1,nd,h=>by
  obtain ⟨n1,n2⟩:=List.nodup_cons.mp nd;have e:=AX (axs:=r) (k:=k) n2 (by simpa using h);have:i≠j:=fun z=>by
   subst z;have:=pU (axs:=r) n1;rw [e] at this;cases this
  simp only [posOf];rw [if_neg this,e];rfl
section
variable {K:Frag}{G H G' H':Hp}{ow ow':Ow}{i i':Nat}
noncomputable def pV (vs:List V):Nat->Nat:=fun k=>match vs[k]? with
 | some (.ref a)=>a
 | _=>0
def AY {N:List Str}{vs:List V}{as:List Ar} (s:aX G H) (hl:as.length=vs.length) (h:EL K G H ow vs as) (ho:∀p k,ow p=some k->G p=none/\H p≠none) :
  Rel K ⟨G,H,fun p=>ow p≠none⟩ (dt N (pV vs) as) (start N vs) G H:=by
 refine ⟨s,aX.refl _,fun b o e _=>e,fun b e=>e,fun b o e (e0:G b=none)=>(by rw [e0] at e;cases e),⟨ow,⟨fun p k hk=>⟨(ho p k hk).1,(ho p k hk).2,.inr (fun z=>by rw [hk] at z;cases z)⟩⟩,fun i sl hs=>?_⟩,?_⟩
 ·unfold dt at hs
  by_cases hi:i<as.length
  ·rw [List.getElem?_append_left (by rw [wq];exact hi),GD,Nat.zero_add] at hs
   have q:as[i]?=some as[i]:=aI hi;rw [q] at hs;have hv:vs[i]?=some (vs[i]'(by omega)):=aI (by omega);have hw:=h.at_ i _ _ q hv;have mz:(start N vs)[i]?=some (some (vs[i]'(by omega))):=by
    unfold L2.start;rw [List.getElem?_append_left (by rw [List.length_map];omega),List.getElem?_map,hv];rfl
   rw [mz];generalize as[i]=a at hs hw;generalize vs[i]'(by omega)=v at hv hw;cases a with
   | v d=>cases hs;exact ⟨v,rfl,hw⟩
   | x=>cases hs;trivial
   | o C fs =>
    cases hs;obtain ⟨a,dx,bU,rfl,h3,h4,h5,h6,h7⟩:=hw;refine ⟨a,dx,bU,rfl,fun a0 z=>?_,h3,h4,h5,h6,h7⟩;cases z;unfold pV;rw [hv]
   | r fs =>
    cases hs;obtain ⟨a,bU,rfl,h3,h5,h7⟩:=hw;refine ⟨a,bU,rfl,fun a0 z=>?_,h3,h5,h7⟩;cases z;unfold pV;rw [hv]
   | l xs =>
    obtain ⟨a,ws,rfl,h3,h4,h5⟩:=hw;have e:pV vs i=a:=by unfold pV;rw [hv]
    cases hs;rw [e];exact ⟨ws,rfl,h3,h4,h5⟩
  ·rw [List.getElem?_append_right (by rw [wq];omega),List.getElem?_replicate] at hs
   split at hs
   ·cases hs;trivial
   ·cases hs
 ·simp [dt,L2.start,hl,wq]
def Oc {n:En}{Z:Ev}{U:L2.St}{vs:List V}{as:List Ar} (hw:EL K G H ow vs as) (hG:aX G G') (gh:∀(i:Nat) (s:Sl),Z[i]?=some s->FX K n G' H' ow' i U[i]? s):EL K G' H' ow' vs (dO (pV vs) 0 as Z):=by
 refine ⟨fun k b v hb hv=>?_⟩;rw [GF,Nat.zero_add] at hb;cases qa:as[k]? with
 | none=>rw [qa] at hb;cases hb
 | some a =>
  rw [qa] at hb;have h0:=hw.at_ k a v qa hv;cases a with
  | v d=>cases hb;exact Den.up hG h0
  | x=>cases hb;trivial
  | o C fs =>
   simp only [Option.map_some,Option.some.injEq] at hb;subst hb;obtain ⟨a,dx,bU,rfl,-⟩:=h0;cases q:Z[k]? with
   | none=>trivial
   | some s =>
    cases s with
    | ob h C' fs' =>
     cases h with
     | none=>trivial
     | some a' =>
      show XW K G' H' ow' k (.ref a) (if a'=pV vs k then .o C' fs' else .x)
      split
      ·rename_i e3
       obtain ⟨b,dy,wfs,g1,g2,g3,g4,g5,g6,g7⟩:=gh k _ q;have:b=a:=by rw [g2 _ rfl,e3];unfold pV;rw [hv]
       subst this;exact ⟨b,dy,wfs,rfl,g3,g4,g5,g6,g7⟩
      ·trivial
    | _=>trivial
  | r fs =>
   simp only [Option.map_some,Option.some.injEq] at hb;subst hb;obtain ⟨a,bU,rfl,-⟩:=h0;cases q:Z[k]? with
   | none=>trivial
   | some s =>
    cases s with
    | rc h fs' =>
     cases h with
     | none=>trivial
     | some a' =>
      show XW K G' H' ow' k (.ref a) (if a'=pV vs k then .r fs' else .x)
      split
      ·rename_i e3
       obtain ⟨b,wfs,g1,g2,g3,g5,g7⟩:=gh k _ q;have:b=a:=by rw [g2 _ rfl,e3];unfold pV;rw [hv]
       subst this;exact ⟨b,wfs,rfl,g3,g5,g7⟩
      ·trivial
    | _=>trivial
  | l xs =>
   simp only [Option.map_some,Option.some.injEq] at hb;subst hb;obtain ⟨a,ws,rfl,-⟩:=h0;cases q:Z[k]? with
   | none=>trivial
   | some s =>
    cases s with
    | mu a' ys =>
     show XW K G' H' ow' k (.ref a) (if a'=pV vs k then .l ys else .x)
     split
     ·rename_i e3
      obtain ⟨ws',g1,g2,g3,g4⟩:=gh k _ q;have:a'=a:=by rw [e3];unfold pV;rw [hv]
      subst this;exact ⟨_,ws',rfl,g2,g3,g4⟩
     ·trivial
    | _=>trivial
end
section
variable {P:Program}{w:World}{K:Frag}{mg:Str->Option Value}{base:Heap}
def KC {x qual:Str}{st:Stmt}{f:Addr}{fd:FuncData}{N ps:List Str}{k:Nat}{S:Ca} (F:kY K x qual st f fd) (Sc:bx N ps (aC st)) (len:∀as Q,S as Q->as.length=ps.length)
  (mX:∀(dM:Value) (A:Around) (outer:List Env) (s:Shared) (H:Hp) (E:XK),fG k (A.deeper (envOfC qual (aC st) s.heap.objs.size f dM)) ->
   ∃t,Em (mB jQ P w K mg base N qual (aC st) f dM A outer s H E).Qk (iS st) t/\∀(hs:Nat->Nat) as Q,S as Q->t { nx:=fun Z=>Q .bX (dO hs 0 as Z),rt:=fun d Z=>Q d (dO hs 0 as Z) } (dt N hs as)):cM P w K mg base jQ (k+1) f fd ps (AU K S):=by
 refine F.ok Sc (fun vs H Q E ⟨G,as,Qd,ow,sub,hl,hw,ho,h,_⟩=>?_) (fun dM A outer s H vs Q E hr ⟨G,as,Qd,ow,sub,hl,hw,ho,h,kk⟩=>?_)
 ·rw [<-hl];exact len as Qd h
 ·obtain ⟨t,ht,hq⟩:=mX dM A outer s H E hr
  have fin:∀(v:V) (d:D) (Z:Ev) (U:L2.St) (G' H':Hp),Rel K ⟨G,H,fun p=>ow p≠none⟩ Z U G' H'->Den K G' v d->Qd d (dO (pV vs) 0 as Z)->Q v H':=fun v d Z U G' H' R' dv q=>by
   obtain ⟨ow',ok',gh'⟩:=R'.gh;exact kk v G' H' d _ ow' ⟨R'.eg,R'.sub,R'.eh,R'.al,fun b o e e0=>R'.fr b o e e0⟩ dv (Oc hw R'.eg gh') (fun p k hk=>ok'.is p k hk) q
  exact ⟨_,ht,⟨G,H,fun p=>ow p≠none⟩,_,G,_,AY (N:=N) sub hl hw ho,hq (pV vs) as Qd h,⟨fun Z U G' H' R' q=>fin .bX .bX Z U G' H' R' .bX q,fun v d Z U G' H' R' dv q=>fin v d Z U G' H' R' dv q,fun _ _ _ _ _ q=>q.elim,fun _ _ _ _ _ q=>q.elim⟩⟩
end
inductive Dj (K:Frag) (G:Hp) (U:L2.St):List V->List Ax->Prop
 | nil:Dj K G U [] []
 | v {x:V}{d:D}{xs:List V}{axs:List Ax}:Den K G x d->Dj K G U xs axs->Dj K G U (x::xs) (.v d::axs)
 | at {x:V}{j:Nat}{xs:List V}{axs:List Ax}:U[j]?=some (some x)->Dj K G U xs axs->Dj K G U (x::xs) (.at j::axs)
section
variable {K:Frag}{G G' H H':Hp}{U:L2.St}{n:En}{Z:Ev}
theorem Dj.length:∀{vs:List V}{axs:List Ax},Dj K G U vs axs->vs.length=axs.length
 | _,_,.nil=>rfl
 | _,_,.v _ t=>by simp [Dj.length t]
 | _,_,.at _ t=>by simp [Dj.length t]
theorem Dj.Cj:∀{vs:List V}{axs:List Ax}{k:Nat}{d:D}{v:V},Dj K G U vs axs->axs[k]?=some (.v d)->vs[k]?=some v->Den K G v d
 | _,_,_,_,_,.nil,h,_=>by simp at h
 | _,_,0,_,_,.v h _,h1,h2=>by simp at h1 h2;subst h1 h2;exact h
 | _,_,0,_,_,.at h _,h1,h2=>by simp at h1
 | _,_,k+1,_,_,.v _ t,h1,h2=>Dj.Cj (k:=k) t (by simpa using h1) (by simpa using h2)
 | _,_,k+1,_,_,.at _ t,h1,h2=>Dj.Cj (k:=k) t (by simpa using h1) (by simpa using h2)
theorem Dj.Rl:∀{vs:List V}{axs:List Ax}{k j:Nat},Dj K G U vs axs->axs[k]?=some (.at j)->∃v,vs[k]?=some v/\U[j]?=some (some v)
 | _,_,_,_,.nil,h=>by simp at h
 | _,_,0,_,.v h _,h1=>by simp at h1
 | _,_,0,_,.at h _,h1=>by simp at h1;subst h1;exact ⟨_,rfl,h⟩
 | _,_,k+1,_,.v _ t,h1=>by
  obtain ⟨v,e1,e2⟩:=Dj.Rl (k:=k) t (by simpa using h1);exact ⟨v,by simpa using e1,e2⟩
 | _,_,k+1,_,.at _ t,h1=>by
  obtain ⟨v,e1,e2⟩:=Dj.Rl (k:=k) t (by simpa using h1);exact ⟨v,by simpa using e1,e2⟩
def Rel.after {M:Addr->Prop} (R:Rel K n Z U G H) (e:Rk M G H G' H') (hM:∀p,M p->n.H p=none\/n.M p) :
  aX G' H'/\aX n.G G'/\(∀b o,n.H b=some o->¬n.M b->H' b=some o)/\(∀b,H' b=none->n.H b=none)/\(∀b o,G' b=some o->n.G b=none->n.H b=none):=by
 refine ⟨e.gh,R.eg.trans e.gg,fun b o q m=>e.hh b o (R.eh b o q m) fun z=>?_,fun b q=>R.al b (e.al b q),fun b o q q0=>?_⟩
 ·rcases hM b z with h | h
  ·rw [h] at q;cases q
  ·exact m h
 ·cases h:G b with
  | none=>exact R.al b (e.fr b o q h)
  | some w=>exact R.fr b w h q0
def Rel.enter (R:Rel K n Z U G H) {axs:List Ax}{vs:List V} (nd:(kB axs).Nodup) (ha:Dj K G U vs axs):∃KD:Ow,EL K G H KD vs (axs.map (Rj Z))/\(∀p k,KD p=some k->G p=none/\H p≠none) /\
  ∀(G' H':Hp) (outs:List Ar) (ow':Ow),Rk (fun p=>KD p≠none) G H G' H'->EL K G' H' ow' vs outs->(∀p k,ow' p=some k->G' p=none/\H' p≠none/\(H p=none\/KD p≠none))->Rel K n (Cw Z axs outs) U G' H':=by
 obtain ⟨ow,ok,gh⟩:=R.gh;have oc:∀{p:Addr}{j k:Nat}{f:Str},axs[k]?=some (.at j)->ow p=some (j,f)->((ow p).bind fun jf=>(posOf jf.1 axs).map fun k=>(k,jf.2))=some (k,f):=fun {p j k f} hk h=>by
  rw [h];show (posOf j axs).map _=_;rw [AX nd hk];rfl
 have oc':∀{p:Addr},((ow p).bind fun jf=>(posOf jf.1 axs).map fun k=>(k,jf.2))≠none->∃jf,ow p=some jf:=fun {p} h=>by
  cases q:ow p with
  | none=>rw [q] at h;exact absurd rfl h
  | some w=>exact ⟨w,rfl⟩
 refine ⟨fun p=>(ow p).bind fun jf=>(posOf jf.1 axs).map fun k=>(k,jf.2),⟨fun k a v h1 h2=>?_⟩,fun p k hk=>?_,fun G' H' outs ow' e hw ho=>?_⟩
 ·rw [List.getElem?_map] at h1
  cases q:axs[k]? with
  | none=>rw [q] at h1;cases h1
  | some ax =>
   rw [q] at h1;cases ax with
   | v d=>cases h1;exact ha.Cj q h2
   | «at» j =>
    obtain ⟨v',e1,e2⟩:=ha.Rl q;rw [h2] at e1;cases e1;simp only [Option.map_some,Option.some.injEq] at h1;subst h1;show XW K G H _ k v (match Z[j]? with | some (.ob _ C fs)=>.o C fs | some (.ow l)=>.l l | some (.mu _ l)=>.l l | some (.sh d)=>.v d | some (.rc _ fs)=>.r fs | _=>.x);cases qs:Z[j]? with
    | none=>trivial
    | some s =>
     have hs:=gh j s qs;rw [e2] at hs;cases s with
     | no=>trivial
     | sh d=>have ⟨w,g1,g2⟩:=hs;cases g1;exact g2
     | ow l=>have ⟨p,ws,g1,g2,g3,g4,g5⟩:=hs;cases g1;exact ⟨p,ws,rfl,g2,oc q g4,g5⟩
     | mu b l=>have ⟨ws,g1,g2,g4,g5⟩:=hs;cases g1;exact ⟨b,ws,rfl,g2,oc q g4,g5⟩
     | ob h C fs =>
      have ⟨a,dx,bU,g1,g2,g3,g4,g5,g6,g7⟩:=hs;cases g1;exact ⟨a,dx,bU,rfl,g3,g4,oc q g5,oc q g6,g7.keep (aX.refl _) (fun p f z=>oc q z) fun _ _ _ _ z=>z⟩
     | pt a=>trivial
     | hb a C fs=>trivial
     | hd a z kvs=>trivial
     | rc h fs =>
      have ⟨a,bU,g1,g2,g3,g5,g7⟩:=hs;cases g1;exact ⟨a,bU,rfl,g3,oc q g5,g7.keep (aX.refl _) (fun p f z=>oc q z) fun _ _ _ _ z=>z⟩
 ·obtain ⟨jf,hj⟩:=oc' (p:=p) (fun z=>by have w:=z.symm.trans hk;cases w)
  obtain ⟨h1,h2,h3⟩:=ok.is p jf hj;exact ⟨h1,h2⟩
 ·obtain ⟨a1,a2,a3,a4,a5⟩:=R.after e (fun p hp=>by obtain ⟨jf,hj⟩:=oc' hp;exact (ok.is p jf hj).2.2)
  refine ⟨a1,a2,a3,a4,a5,⟨fun p=>match ow' p with
   | some (k,f)=>(match axs[k]? with | some (.at j)=>some (j,f) | _=>none)
   | none=>match ow p with
    | some (j,f)=>if posOf j axs=none then some (j,f) else none
    | none=>none,⟨fun p kk hk=>?_⟩,fun j s' hs'=>?_⟩,by rw [AW];exact R.len⟩
  ·cases q:ow' p with
   | some kf =>
    obtain ⟨h1,h2,h3⟩:=ho p kf q;refine ⟨h1,h2,?_⟩;rcases h3 with h3 | h3
    ·exact .inl (R.al p h3)
    ·obtain ⟨jf,hj⟩:=oc' h3;exact (ok.is p jf hj).2.2
   | none =>
    simp only [q] at hk;cases q2:ow p with
    | none=>rw [q2] at hk;cases hk
    | some jf =>
     have ⟨j,f⟩:=jf;rw [q2] at hk;simp only at hk
     split at hk
     ·rename_i hp
      obtain ⟨h1,h2,h3⟩:=ok.is p _ q2;have nM:¬(((ow p).bind fun jf=>(posOf jf.1 axs).map fun k=>(k,jf.2))≠none):=fun z=>z (by rw [q2];show (posOf j axs).map _=_;rw [hp];rfl)
      refine ⟨?_,fun z=>h2 (e.al p z),h3⟩;cases q3:G' p with
      | none=>rfl
      | some w=>exact absurd (e.fr p w q3 h1) h2
     ·cases hk
  ·rcases AV axs Z outs j s' nd hs' with ⟨hj,hs⟩ | ⟨k,s,hk,hs,rfl⟩
   ·have hp:posOf j axs=none:=pU hj
    have nC:∀p f,ow p=some (j,f)->((ow p).bind fun jf=>(posOf jf.1 axs).map fun k=>(k,jf.2))=none:=fun p f z=>by rw [z];show (posOf j axs).map _=_;rw [hp];rfl
    refine (gh j s' hs).keep e.gg (fun p f z=>?_) fun p f o z q=>e.hh p o q fun w=>w (nC p f z)
    have q:ow' p=none:=by
     cases q:ow' p with
     | none=>rfl
     | some kf =>
      obtain ⟨h1,h2,h3⟩:=ho p kf q;rcases h3 with h3 | h3
      ·exact absurd h3 (ok.is p _ z).2.1
      ·exact absurd (nC p f z) h3
    simp only [q,z,hp];simp
   ·obtain ⟨v,e1,e2⟩:=ha.Rl hk
    have h0:=gh j s hs;rw [e2] at h0 ⊢;have hO:∀p f,ow' p=some (k,f)->(match ow' p with
      | some (k,f)=>(match axs[k]? with | some (.at j)=>some (j,f) | _=>none)
      | none=>match ow p with
       | some (j,f)=>if posOf j axs=none then some (j,f) else none
       | none=>none)=some (j,f):=fun p f z=>by simp only [z,hk]
    cases qo:outs[k]? with
    | none =>
     cases s with
     | sh d=>have ⟨w,g1,g2⟩:=h0;exact ⟨w,g1,g2.up e.gg⟩
     | _=>trivial
    | some ar =>
     have hr:=hw.at_ k ar v qo e1;cases s with
     | no=>cases ar <;> trivial
     | pt a=>cases ar <;> trivial
     | hb a C fs=>cases ar <;> trivial
     | hd a z kvs=>cases ar <;> trivial
     | sh d=>have ⟨w,g1,g2⟩:=h0;exact ⟨w,g1,g2.up e.gg⟩
     | ow l =>
      cases ar with
      | l ys =>
       obtain ⟨a,ws,rfl,r1,r2,r3⟩:=hr;have ⟨p,zs,g1,g2,g3,g4,g5⟩:=h0;cases g1;exact ⟨a,ws,rfl,r1,g3,hO _ _ r2,r3⟩
      | _=>trivial
     | mu b l =>
      cases ar with
      | l ys =>
       obtain ⟨a,ws,rfl,r1,r2,r3⟩:=hr;have ⟨zs,g1,g2,g4,g5⟩:=h0;cases g1;exact ⟨ws,rfl,r1,hO _ _ r2,r3⟩
      | _=>trivial
     | ob h C fs =>
      cases ar with
      | o C' fs' =>
       obtain ⟨a,dx,bU,rfl,r1,r2,r3,r4,r5⟩:=hr;have ⟨a',dx',vfs',g1,g2,_⟩:=h0;cases g1;exact ⟨a,dx,bU,rfl,g2,r1,r2,hO _ _ r3,hO _ _ r4,r5.keep (aX.refl _) hO fun _ _ _ _ z=>z⟩
      | _=>trivial
     | rc h fs =>
      cases ar with
      | r fs' =>
       obtain ⟨a,bU,rfl,r1,r3,r5⟩:=hr;have ⟨a',vfs',g1,g2,_⟩:=h0;cases g1;exact ⟨a,bU,rfl,g2,r1,hO _ _ r3,r5.keep (aX.refl _) hO fun _ _ _ _ z=>z⟩
      | _=>trivial
end
def lAo (K:Frag) (t:Jh):TA:=fun U H Q2=>∃(n:En) (Z:Ev) (G:Hp) (Q:List Ax->Ev->Prop),Rel K n Z U G H/\t Z Q /\
 ∀(v:List V) (G' H':Hp) (d:List Ax) (Z':Ev),Rel K n Z' U G' H'->aX G G'->Dj K G' U v d->Q d Z'->Q2 v H'
def lAo.el {K:Frag}{t:Jh}{U H Q2}{P:Prop} (x:lAo K t U H Q2) (k:∀(n:En) (Z:Ev) (G:Hp) (Q:List Ax->Ev->Prop),(Rel K n Z U G H)->(t Z Q)->(∀(v:List V) (G' H':Hp) (d:List Ax) (Z':Ev),Rel K n Z' U G' H'->aX G G'->Dj K G' U v d->Q d Z'->Q2 v H')->P):P:=by
 have ⟨n,Z,G,Q,h0,h1,h2⟩:=x;exact k n Z G Q h0 h1 h2
abbrev S7 (X:Cx) (es:List Expr) (t:Jh):Prop:=PA X es (lAo X.K t)
noncomputable def held:Option Sl->Bool
 | some (.ob _ _ _)=>true
 | some (.ow _)=>true
 | some (.mu _ _)=>true
 | some (.rc _ _)=>true
 | _=>false
def aAt' (j:Nat) (t:Jh):Jh:=fun Z Q=>held Z[j]?=true/\aAt j t Z Q
section
variable {X:Cx}{e:Expr}{es:List Expr}{te:fV}{t:Jh}{x:Str}{p pos:Pos}{f C:Addr}{fd:FuncData}{ps:List Str}{S:Ca}{k:Nat}{m:Str}{apos:Pos}
def cQ:S7 X [] fc:=AA kD fun U H Q2 hx=>hx.el fun n Z G Q R h k=>k [] G H [] Z R (aX.refl _) .nil h
def br (ha:DE X e te) (hr:S7 X es t) (hs:starEach (e::es) X.env=(false,eval e X.env)::starEach es X.env:=by rfl):S7 X (e::es) (dk te t) :=
 AA (gm ha hr hs) fun U H Q2 hx=>hx.el fun n Z G Q R h k=>⟨n,Z,G,_,R,h,fun v G1 H1 d Z1 R1 s1 d1 h1=>⟨n,Z1,G1,_,R1,h1,fun vs G2 H2 ds Z2 R2 s2 d2 h2 =>
  k (v::vs) G2 H2 (.v d::ds) Z2 R2 (s1.trans s2) (.v (d1.up s2) d2) h2⟩⟩
def Rm {K:Frag}{n:En}{Z:Ev}{U:L2.St}{G H:Hp}{j:Nat} (R:Rel K n Z U G H) (h:held Z[j]?=true):∃v,U[j]?=some (some v):=by
 cases q:Z[j]? with
 | none=>rw [q] at h;cases h
 | some s =>
  have hs:=R.sl j s q;rw [q] at h;cases s with
  | no=>cases h
  | sh d=>cases h
  | ow l=>have ⟨p,vs,g1,_⟩:=hs;exact ⟨_,g1⟩
  | mu a l=>have ⟨vs,g1,_⟩:=hs;exact ⟨_,g1⟩
  | ob h C fs=>have ⟨a,dx,bU,g1,_⟩:=hs;exact ⟨_,g1⟩
  | pt a=>cases h
  | hb a C fs=>cases h
  | hd a z kvs=>cases h
  | rc h fs=>have ⟨a,bU,g1,_⟩:=hs;exact ⟨_,g1⟩
def Ji (j:Nat) (hr:S7 X es t) (hN:X.N[j]?=some x:=by rfl) (hv:rX X.env.scope x:=by first | exact Or.inl rfl | exact Or.inr (Or.inl rfl) | exact Or.inr (Or.inr rfl)) (hd:(x==("__debug__":Str))=false:=by decide)
  (gL:(x==("__classdict__":Str))=false:=by decide) (hs:starEach (.Name x p::es) X.env=(false,eval (.Name x p) X.env)::starEach es X.env:=by rfl):S7 X (.Name x p::es) (aAt' j t) :=
 AA (gm (fe hN hv hd gL) hr hs) fun U H Q2 ⟨n,Z,G,Q,R,⟨hh,h⟩,k⟩=>by
  obtain ⟨v,hv⟩:=Rm R hh;exact ⟨v,hv,n,Z,G,_,R,h,fun vs G2 H2 ds Z2 R2 s2 d2 h2=>k (v::vs) G2 H2 (.at j::ds) Z2 R2 s2 (.at hv d2) h2⟩
def AZ (F:cM X.prog X.w X.K X.mg X.base jQ k f fd ps (AU X.K S)) (hr:fG k X.A) (hm:X.mg x=some (.ref f)) (hk:keepIn X.K (.ref f)=true) (hb:Binds X.K fd ps [])
  (ha:S7 X (e::es) t) (hg:Gl X x:=by rfl) (zg:(x==("__debug__":Str))=false:=by decide) (he:starEach (e::es) X.env=(false,eval e X.env)::starEach es X.env:=by rfl) (lL:(backTo pos (starEach es X.env)).any (·.1)=false:=by rfl) :
  DE X (.Call (.Name x p) (e::es) [] pos) (AS S t) :=
 cN (Ec F hr hg hm hk hb .nil Gq ha zg he lL) fun U H Q2 hx=>hx.el fun n Z G Q R h kk=>⟨n,Z,G,_,R,h,fun vs G1 H1 axs Z1 R1 s1 d1 ⟨nd,h1⟩=>by
  show AU X.K S (vs++[]) H1 Q2 E0;rw [List.append_nil];obtain ⟨KD,c1,c2,c3⟩:=R1.enter nd d1;exact ⟨G1,_,_,KD,R1.sub,by rw [List.length_map,d1.length],c1,c2,h1,fun v G2 H2 d outs ow' e2 dv w2 o2 q2=>kk v G2 H2 d _ (c3 G2 H2 outs ow' e2 w2 o2) (s1.trans e2.gg) dv q2⟩⟩
def gq (i:Nat) {y:Str}{op:Pos}{pl:Sem Bool} (c:Au X.K C) (hm:Meth X.K C m f) (F:cM X.prog X.w X.K X.mg X.base jQ k f fd ps (AU X.K S)) (hr:fG k X.A) (hb:Binds X.K fd ps []) (ha:S7 X (e::es) t)
  (hN:X.N[i]?=some y:=by rfl) (hv:rX X.env.scope y:=by first | exact Or.inl rfl | exact Or.inr (Or.inl rfl) | exact Or.inr (Or.inr rfl)) (hd:(y==("__debug__":Str))=false:=by decide) (gL:(y==("__classdict__":Str))=false:=by decide)
  (mz:starEach (e::es) X.env=(false,eval e X.env)::starEach es X.env:=by rfl) (lL:(backTo pos (starEach es X.env)).any (·.1)=false:=by rfl)
  (ht:eval (.Call (.Attribute (.Name y op) m apos) (e::es) [] pos) X.env=(do
   let ov <-eval (.Name y op) X.env
   standAt apos.atName
   let (f,first) <-holding [ov] (getMethod ov m pl)
   callWith pos f first (backTo pos (starEach (e::es) X.env)) (backToKw pos (keywordEach [] X.env))):=by rfl) :
  DE X (.Call (.Attribute (.Name y op) m apos) (e::es) [] pos) (fb i C m S t) :=
 cN (Ki (pl:=pl) (fe hN hv hd gL) c hm F hr hb .nil Gq ha mz lL ht) fun U H Q2 hx=>hx.el fun n Z G Q R h kk=>by
  unfold fb at h
  split at h
  ·rename_i h0 C' fs q
   obtain ⟨rfl,hl,h⟩:=h;obtain ⟨a,dx,bU,g1,g2,g3,g4,ow,i',g5⟩:=R.sl i _ q;refine ⟨.ref a,g1,a,dx,bU,rfl,g3,?_,n,Z,G,_,R,h,fun vs G1 H1 axs Z1 R1 s1 d1 ⟨nd,h1⟩=>?_⟩
   ·have hk:m∉fs.map (·.1):=fun z=>by
     obtain ⟨p,hp,e⟩:=ak.mp z;exact absurd hl (by intro hh;have:=aU.mp hh p hp;simp [e] at this)
    rw [<-g5.keys] at hk;exact aU.mpr fun p hp=>by
     have:p.1≠m:=fun z=>hk (ak.mpr ⟨p,hp,z⟩)
     simpa using fun z=>this z.symm
   ·show AU X.K S (.ref a::(vs++[])) H1 Q2 E0
    rw [List.append_nil];obtain ⟨KD,c1,c2,c3⟩:=R1.enter (axs:=.at i::axs) nd (.at g1 d1);exact ⟨G1,_,_,KD,R1.sub,by simp [d1.length],c1,c2,h1,fun v G2 H2 d outs ow' e2 dv w2 o2 q2=>kk v G2 H2 d _ (c3 G2 H2 outs ow' e2 w2 o2) (s1.trans e2.gg) dv q2⟩
  ·exact h.elim
def gf (i:Nat) {y:Str}{op:Pos}{pl:Sem Bool} (c:Au X.K C) (hm:Meth X.K C m f) (F:cM X.prog X.w X.K X.mg X.base jQ k f fd ps (AU X.K S)) (hr:fG k X.A) (hb:Binds X.K fd ps [])
  (hN:X.N[i]?=some y:=by rfl) (hv:rX X.env.scope y:=by first | exact Or.inl rfl | exact Or.inr (Or.inl rfl) | exact Or.inr (Or.inr rfl)) (hd:(y==("__debug__":Str))=false:=by decide) (gL:(y==("__classdict__":Str))=false:=by decide)
  (ht:eval (.Call (.Attribute (.Name y op) m apos) [] [] pos) X.env=(do
   let ov <-eval (.Name y op) X.env
   standAt apos.atName
   let (f,first) <-holding [ov] (getMethod ov m pl)
   callWith pos f first (backTo pos (starEach [] X.env)) (backToKw pos (keywordEach [] X.env))):=by rfl) :
  DE X (.Call (.Attribute (.Name y op) m apos) [] [] pos) (fb i C m S fc) :=
 cN (Gj (pl:=pl) (fe hN hv hd gL) c hm F hr hb .nil Gq ht) fun U H Q2 hx=>hx.el fun n Z G Q R h kk=>by
  unfold fb at h
  split at h
  ·rename_i h0 C' fs q
   obtain ⟨rfl,hl,nd,h⟩:=h;obtain ⟨a,dx,bU,g1,g2,g3,g4,ow,i',g5⟩:=R.sl i _ q;refine ⟨.ref a,g1,a,dx,bU,rfl,g3,?_,?_⟩
   ·have hk:m∉fs.map (·.1):=fun z=>by
     obtain ⟨p,hp,e⟩:=ak.mp z;exact absurd hl (by intro hh;have:=aU.mp hh p hp;simp [e] at this)
    rw [<-g5.keys] at hk;exact aU.mpr fun p hp=>by
     have:p.1≠m:=fun z=>hk (ak.mpr ⟨p,hp,z⟩)
     simpa using fun z=>this z.symm
   ·obtain ⟨KD,c1,c2,c3⟩:=R.enter (axs:=[.at i]) nd (.at g1 .nil)
    exact ⟨G,_,_,KD,R.sub,by simp,c1,c2,h,fun v G2 H2 d outs ow' e2 dv w2 o2 q2=>kk v G2 H2 d _ (c3 G2 H2 outs ow' e2 w2 o2) e2.gg dv q2⟩
  ·exact h.elim
end
noncomputable def fN (f:Str) (s:Fl):List (Str×Fl)->List (Str×Fl)
 | []=>[(f,s)]
 | (g,x)::r=>if g=f then (g,s)::r else (g,x)::fN f s r
noncomputable def putK (f:Str):List Str->List Str
 | []=>[f]
 | g::r=>if g=f then g::r else g::putK f r
theorem Dk (f:Str) (v:V):∀l:List (Str×V),(oh f v l).map (·.1)=putK f (l.map (·.1))
 | []=>rfl
 | (g,x)::r=>by
  simp only [oh,List.map_cons,putK]
  split
  ·rfl
  ·rw [List.map_cons,Dk f v r]
theorem kE (f:Str) (s:Fl):∀l:List (Str×Fl),(fN f s l).map (·.1)=putK f (l.map (·.1))
 | []=>rfl
 | (g,x)::r=>by
  simp only [fN,List.map_cons,putK]
  split
  ·rfl
  ·rw [List.map_cons,kE f s r]
theorem sk (f:Str):∀l:List Str,f∈l->putK f l=l
 | [],h=>by simp at h
 | g::r,h=>by
  simp only [putK]
  split
  ·rfl
  ·rename_i ne
   rcases aE.mp h with e | e
   ·exact absurd e.symm ne
   ·rw [sk f r e]
theorem iw (f g:Str) (s:Fl):∀fs:List (Str×Fl),(fN f s fs).lookup g=if g=f then some s else fs.lookup g
 | []=>by
  show List.lookup g [(f,s)]=_
  by_cases h:g=f
  ·have hb:(g==f)=true:=cJ.mpr h
   simp only [List.lookup,hb,if_pos h]
  ·have hb:(g==f)=false:=bc.mpr h
   simp only [List.lookup,hb,if_neg h]
 | (k,x)::r=>by
  have ih:=iw f g s r;rw [show fN f s ((k,x)::r)=(if k=f then (k,s)::r else (k,x)::fN f s r) from rfl]
  by_cases hk:k=f
  ·rw [if_pos hk]
   by_cases h:g=k
   ·have hb:(g==k)=true:=cJ.mpr h
    simp only [List.lookup,hb,if_pos (h.trans hk)]
   ·have hb:(g==k)=false:=bc.mpr h
    simp only [List.lookup,hb,if_neg (fun e:g=f=>h (e.trans hk.symm))]
  ·rw [if_neg hk]
   by_cases h:g=k
   ·have hb:(g==k)=true:=cJ.mpr h
    simp only [List.lookup,hb,if_neg (fun e:g=f=>hk (h.symm.trans e))]
   ·have hb:(g==k)=false:=bc.mpr h
    simp only [List.lookup,hb];exact ih
abbrev A0:=Ev->(D->Prop)->Prop
noncomputable def KG (C i:Nat) (f:Str) (Z:Ev):Option D:=match Z[i]? with
 | some (.ob _ C' fs)=>if C'=C then (match fs.lookup f with
  | some (.sh d)=>some d
  | _=>none) else none
 | _=>none
noncomputable def putAt (i:Nat) (f:Str) (s:Fl) (Z:Ev):Ev:=match Z[i]? with
 | some (.ob h C fs)=>Z.set i (.ob h C (fN f s fs))
 | _=>Z
noncomputable def GG (C i:Nat) (Z:Ev):Bool:=match Z[i]? with
 | some (.ob _ C' fs)=>decide (C'=C)&&decide (fs.length<999)
 | _=>false
def rG (i:Nat):A0:=fun Z Q=>match Z[i]? with
 | some (.sh d)=>Q d
 | _=>False
def xC (d:D):A0:=fun _ Q=>Q d
def uD (C i:Nat) (f:Str):A0:=fun Z Q=>match KG C i f Z with
 | some d=>Q d
 | none=>False
def dX (t:A0):fV:=fun Z Q=>t Z fun d=>Q d Z
def yz (C i:Nat) (f:Str) (te:fV):dA:=fun E Z=>te Z fun d Z1=>GG C i Z1=true/\E.nx (putAt i f (.sh d) Z1)
section
variable {K:Frag}{n:En}{G H G' H':Hp}{ow ow':Ow}{i i':Nat}{f:Str}{v:V}{s:Fl}{bU:List (Str×V)}{fs:List (Str×Fl)}{Z:Ev}{U:L2.St}{p q:Addr}{o:HO}
def IG.KH (hH:∀p f o,ow p=some (i,f)->(∀C dx fs,o≠HO.ins C dx fs)->H p=some o->H' p=some o) (h:IG K G H ow i f v s):IG K G H' ow i f v s:=by
 cases s with
 | sh d=>exact h
 | ow l=>have ⟨q,vs,h1,h2,h3,h4⟩:=h;exact ⟨q,vs,h1,hH _ _ _ h3 (fun _ _ _ z=>by cases z) h2,h3,h4⟩
 | dc l=>have ⟨q,vs,h1,h2,h3,h4⟩:=h;exact ⟨q,vs,h1,hH _ _ _ h3 (fun _ _ _ z=>by cases z) h2,h3,h4⟩
 | fz q l=>exact h
theorem uA.KH (hH:∀p f o,ow p=some (i,f)->(∀C dx fs,o≠HO.ins C dx fs)->H p=some o->H' p=some o) (h:uA K G H ow i bU fs):uA K G H' ow i bU fs :=
 ⟨h.keys,fun f s e=>let ⟨v,h1,h2⟩:=h.at_ f s e;⟨v,h1,h2.KH hH⟩⟩
def uA.put (h:uA K G H ow i bU fs) (hv:IG K G H ow i f v s):uA K G H ow i (oh f v bU) (fN f s fs):=by
 refine ⟨by rw [Dk,kE,h.keys],fun g s' e=>?_⟩;rw [iw] at e;rw [r9]
 by_cases z:g=f
 ·rw [if_pos z] at e ⊢
  cases e;subst z;exact ⟨v,rfl,hv⟩
 ·rw [if_neg z] at e ⊢
  exact h.at_ g s' e
def Rel.A1 (R:Rel K n Z U G H) (ok:IH n G H ow) (gh:∀(i:Nat) (s:Sl),Z[i]?=some s->FX K n G H ow i U[i]? s) (hp:ow p=some (i,f)) {s':Sl} (hs:FX K n G (upd H p o) ow i U[i]? s'):Rel K n (Z.set i s') U G (upd H p o):=by
 obtain ⟨g3,g7,g8⟩:=ok.is _ _ hp;have ne:∀b u,G b=some u->b≠p:=fun b u e z=>by subst z;rw [g3] at e;cases e
 refine ⟨fun b u e=>by rw [aF (ne b u e)];exact R.sub b u e,R.eg,fun b u q m=>?_,fun b q=>?_,R.fr,⟨ow,⟨fun b k hk=>?_⟩,fun j s hj=>?_⟩,by rw [List.length_set];exact R.len⟩
 ·have:b≠p:=fun z=>by
   subst z;rcases g8 with g8 | g8
   ·rw [g8] at q;cases q
   ·exact m g8
  rw [aF this];exact R.eh b u q m
 ·by_cases hb:b=p
  ·subst hb;rw [aO] at q;cases q
  ·rw [aF hb] at q;exact R.al b q
 ·obtain ⟨h1,h2,h3⟩:=ok.is b k hk;exact ⟨h1,v9 h2,h3⟩
 ·rcases kR hj with ⟨e,rfl,hl⟩ | ⟨e,hj⟩
  ·subst e;exact hs
  ·refine (gh j s hj).keep (aX.refl _) (fun _ _ z=>z) fun b f' u z q=>?_
   have:b≠p:=fun w=>by subst w;rw [hp] at z;cases z;exact e rfl
   rw [aF this];exact q
def Rn (R:Rel K n Z U G H) (ok:IH n G H ow) (gh:∀(i:Nat) (s:Sl),Z[i]?=some s->FX K n G H ow i U[i]? s) (hq:H q=none) (i:Nat) (f:Str) (o:HO) :
  IH n G (upd H q o) (my ow q (some (i,f)))/\∀(i':Nat) (s:Sl),Z[i']?=some s->FX K n G (upd H q o) (my ow q (some (i,f))) i' U[i']? s:=by
 have FY:∀b k,ow b=some k->b≠q:=fun b k hk z=>by subst z;exact (ok.is _ _ hk).2.1 hq
 refine ⟨⟨fun b k hk=>?_⟩,fun j s hs=>?_⟩
 ·by_cases hb:b=q
  ·subst hb;exact ⟨R.sub.free hq,by rw [aO];exact (fun z=>by cases z),.inl (R.al _ hq)⟩
  ·rw [cu hb] at hk
   obtain ⟨h1,h2,h3⟩:=ok.is b k hk;exact ⟨h1,v9 h2,h3⟩
 ·exact (gh j s hs).keep (aX.refl _) (fun b f z=>by rw [cu (FY _ _ z)];exact z) fun b f u z q=>by rw [aF (FY _ _ z)];exact q
def L4 {C i:Nat}{d:D} (h:KG C i f Z=some d):∃h0 fs,Z[i]?=some (.ob h0 C fs)/\fs.lookup f=some (.sh d):=by
 unfold KG at h
 split at h
 ·rename_i h0 C' fs e
  split at h
  ·rename_i ec
   subst ec
   split at h
   ·rename_i d' e2;cases h;exact ⟨h0,fs,e,e2⟩
   ·cases h
  ·cases h
 ·cases h
def Dm {C i:Nat} (h:GG C i Z=true):∃h0 fs,Z[i]?=some (.ob h0 C fs)/\fs.length<999:=by
 unfold GG at h
 split at h
 ·rename_i h0 C' fs e
  simp only [Bool.and_eq_true,decide_eq_true_eq] at h;obtain ⟨rfl,h⟩:=h;exact ⟨h0,fs,e,h⟩
 ·cases h
def oW {h0:Option Nat}{C:Nat} (e:Z[i]?=some (.ob h0 C fs)) (s:Fl):putAt i f s Z=Z.set i (.ob h0 C (fN f s fs)):=by
 unfold putAt;rw [e]
def Rel.putV (R:Rel K n Z U G H) {h0:Option Nat}{C:Nat}{d:D} (e:Z[i]?=some (.ob h0 C fs)) (hv:Den K G v d):∃a dx bU,U[i]?=some (some (.ref a))/\H a=some (.ins C dx bU)/\bU.length=fs.length /\
  Rel K n (Z.set i (.ob h0 C (fN f (.sh d) fs))) U G (upd H a (.ins C dx (oh f v bU))):=by
 obtain ⟨ow,ok,gh⟩:=R.gh;obtain ⟨a,dx,bU,g1,g2,g3,g4,g5,g6,g7⟩:=gh i _ e;refine ⟨a,dx,bU,g1,g3,by have:=congrArg List.length g7.keys;simpa using this,R.A1 ok gh g5 ⟨a,dx,_,g1,g2,aO,?_,g5,g6,?_⟩⟩
 ·rw [aF (fun z=>by subst z;rw [g3] at g4;cases g4)];exact g4
 ·refine uA.put (g7.KH fun p f o z no q=>?_) hv
  rw [aF (fun z=>by subst z;rw [g3] at q;cases q;exact no _ _ _ rfl)];exact q
end
def lX (K:Frag) (t:A0):TE:=fun U H Q2=>∃(n:En) (Z:Ev) (G:Hp) (Q:D->Prop),Rel K n Z U G H/\t Z Q/\∀(v:V) (G' H':Hp) (d:D),Ext G H G' H'->Den K G' v d->Q d->Q2 v H'
def lX.el {K:Frag}{t:A0}{U H Q2}{P:Prop} (x:lX K t U H Q2) (k:∀(n:En) (Z:Ev) (G:Hp) (Q:D->Prop),(Rel K n Z U G H)->(t Z Q)->(∀(v:V) (G' H':Hp) (d:D),Ext G H G' H'->Den K G' v d->Q d->Q2 v H')->P):P:=by
 have ⟨n,Z,G,Q,h0,h1,h2⟩:=x;exact k n Z G Q h0 h1 h2
abbrev DX (X:Cx) (e:Expr) (t:A0):Prop:=PE X e (lX X.K t)
section
variable {X:Cx}{a b e:Expr}{es:List Expr}{ta tb te:A0}{t:TXA}{pos:Pos}{C:Addr}{f:Str}
def gi (h:DX X e te):DE X e (dX te):=cN h fun U H Q2 hx=>hx.el fun n Z G Q R h k=>⟨n,Z,G,_,R,h,fun v G' H' d x dv q=>k v G' H' d Z (R.ext x) x.gg dv q⟩
def jo (i:Nat) {x:Str}{pos:Pos} (hN:X.N[i]?=some x:=by rfl) (hv:rX X.env.scope x:=by first | exact Or.inl rfl | exact Or.inr (Or.inl rfl) | exact Or.inr (Or.inr rfl)) (hd:(x==("__debug__":Str))=false:=by decide)
  (gL:(x==("__classdict__":Str))=false:=by decide):DX X (.Name x pos) (rG i) :=
 cN (fe hN hv hd gL) fun U H Q2 hx=>hx.el fun n Z G Q R h k=>by
  unfold rG at h
  split at h
  ·rename_i d e
   obtain ⟨v,h1,h2⟩:=R.sl i _ e;exact ⟨v,h1,k v G H d (Ext.refl R.sub) h2 h⟩
  ·exact h.elim
def UQ {d:D}{v:V} (h:PE X e (tC v)) (hd:∀G,Den X.K G v d):DX X e (xC d):=cN h fun U H Q2 hx=>hx.el fun n Z G Q R h k=>k v G H d (Ext.refl R.sub) (hd G) h
def UR {j pos}:DX X (.Constant .none j pos) (xC .bX):=UQ Nb fun _=>.bX
def kF (i:Nat) {x:Str}{np:Pos} (c:Au X.K C) (na:gM X.K C f) (hN:X.N[i]?=some x:=by rfl) (hv:rX X.env.scope x:=by first | exact Or.inl rfl | exact Or.inr (Or.inl rfl) | exact Or.inr (Or.inr rfl))
  (hd:(x==("__debug__":Str))=false:=by decide) (gL:(x==("__classdict__":Str))=false:=by decide) (hb:attributeBase (.Name x np) f X.env (eval (.Name x np) X.env)=eval (.Name x np) X.env:=by rfl):DX X (.Attribute (.Name x np) f pos) (uD C i f) :=
 cN (vm (fe hN hv hd gL) hb) fun U H Q2 hx=>hx.el fun n Z G Q R h k=>by
  unfold uD at h
  split at h
  ·rename_i d e
   obtain ⟨h0,fs,e1,e2⟩:=L4 e;obtain ⟨a,dx,bU,g1,g2,g3,g4,ow,i',g5⟩:=R.sl i _ e1;obtain ⟨v,k1,k2⟩:=g5.at_ f _ e2;exact ⟨.ref a,g1,a,C,dx,bU,v,rfl,g3,c,na,k1,k v G H d (Ext.refl R.sub) k2 h⟩
  ·exact h.elim
def uh (i:Nat) {x:Str}{np tp:Pos}{tv:fV} (c:Au X.K C) (na:gM X.K C f) (he:DE X e tv) (hN:X.N[i]?=some x:=by rfl) (hv:rX X.env.scope x:=by first | exact Or.inl rfl | exact Or.inr (Or.inl rfl) | exact Or.inr (Or.inr rfl))
  (hd:(x==("__debug__":Str))=false:=by decide) (gL:(x==("__classdict__":Str))=false:=by decide) (hs:swapsWith e (some (.Attribute (.Name x np) f tp)) pos.line X.env=pure false:=by rfl) :
  DS X (.Assign [.Attribute (.Name x np) f tp] e pos) (yz C i f tv) :=
 eR (Nq (fe hN hv hd gL) he hs) fun F U H hx=>hx.el fun n Z G E R h k=>⟨n,Z,G,_,R,h,fun v G1 H1 d Z1 R1 s1 d1 ⟨h1,h2⟩=>by
  obtain ⟨h0,fs,e1,lt⟩:=Dm h1;obtain ⟨a,dx,bU,g1,g2,g3,R2⟩:=R1.putV (f:=f) e1 d1;rw [oW e1] at h2;exact ⟨.ref a,g1,a,C,dx,bU,rfl,g2,c,na,by omega,k.nx _ U G1 _ R2 h2⟩⟩
end
def make_core {K:Frag}{n:En}{Z1:Ev}{U:L2.St}{G1 H1:Hp}{vs:List V}{ds:List D}{S:Ca}{y dy C:Addr}{Qf:Nat->List (Str×Fl)->Prop}{Q2:Hp->Prop} (i:Nat) (R1:Rel K n Z1 U G1 H1) (d1:bP K G1 vs ds) (hy:H1 y=none) (WL:H1 dy=none) (ne:dy≠y)
  (h1:S (.o C []::ds.map .v) fun d outs=>match d,outs with
   | .bX,.o C' fs::_=>Qf C' fs
   | _,_=>False)
  (k:∀C' fs G2 H2,aX G1 G2->Rel K n (Z1.set i (.ob none C' fs)) (U.set i (some (.ref y))) G2 H2->Qf C' fs->Q2 H2):AU K S (.ref y::vs) (upd (upd H1 dy (.own y)) y (.ins C dy [])) (fun v H2=>v=.bX/\Q2 H2) E0:=by
 have nd:(upd H1 dy (.own y)) y=none:=by rw [aF (Ne.symm ne)];exact hy
 have R2:Rel K n Z1 U G1 (upd H1 dy (.own y)):=R1.other (R1.sub.free WL) (R1.al _ WL) WL _;have R3:Rel K n Z1 U G1 (upd (upd H1 dy (.own y)) y (.ins C dy [])):=R2.other (R2.sub.free nd) (R2.al _ nd) nd _;have Od:∀p,(my (my (fun _=>none) dy (some (0,("":Str)))) y (some (0,("":Str)))) p≠none->p=y\/p=dy:=fun p hp=>by
  by_cases h1:p=y
  ·exact .inl h1
  ·rw [cu h1] at hp
   by_cases h2:p=dy
   ·exact .inr h2
   ·rw [cu h2] at hp;exact absurd rfl hp
 have EM:∀p,p=y\/p=dy->H1 p=none:=fun p hp=>by
  rcases hp with rfl | rfl
  ·exact hy
  ·exact WL
 refine ⟨G1,_,_,my (my (fun _=>none) dy (some (0,("":Str)))) y (some (0,("":Str))),R3.sub,by simp [d1.length],⟨fun k a v ka kv=>?_⟩,fun p k hp=>?_,h1,fun v G2 H2 d outs ow' e2 dv w2 o2 q2=>?_⟩
 ·cases k with
  | zero =>
   simp only [List.getElem?_cons_zero,Option.some.injEq] at ka kv;subst ka kv;exact ⟨y,dy,[],rfl,aO,by rw [aF ne];exact aO,gX,by rw [cu ne];exact gX,⟨rfl,fun f s z=>by cases z⟩⟩
  | succ k =>
   simp only [List.getElem?_cons_succ,List.getElem?_map] at ka kv;cases q:ds[k]? with
   | none=>rw [q] at ka;cases ka
   | some d =>
    rw [q] at ka;cases ka;obtain ⟨v',g1,g2⟩:=d1.get q;rw [kv] at g1;cases g1;exact g2
 ·have hp':=Od p (fun z=>by rw [z] at hp;cases hp)
  refine ⟨R1.sub.free (EM p hp'),?_⟩;rcases hp' with rfl | rfl
  ·rw [aO];exact fun z=>by cases z
  ·rw [aF ne,aO];exact fun z=>by cases z
 ·show v=.bX/\Q2 H2
  cases outs with
  | nil=>cases d <;> exact q2.elim
  | cons a0 outs =>
   cases a0 with
   | o C' fs =>
    cases d with
    | bX =>
     refine ⟨dv.Ej,?_⟩;obtain ⟨a1,a2,a3,a4,a5⟩:=R3.after e2 (fun p hp=>.inl (R1.al p (EM p (Od p hp))));obtain ⟨ow,ok,gh⟩:=R1.gh;obtain ⟨a,dx,bU,g1,g2,g3,g4,g5,g6⟩:=w2.at_ 0 _ _ rfl rfl;cases g1;have owN:∀p jf,ow p=some jf->ow' p=none/\H2 p=H1 p/\G2 p=none:=fun p jf z=>by
      obtain ⟨h1,h2,h3⟩:=ok.is p jf z;have np:¬(p=y\/p=dy):=fun w=>h2 (EM p w)
      have h3p:(upd (upd H1 dy (.own y)) y (.ins C dy [])) p=H1 p:=by rw [aF (fun w=>np (.inl w)),aF (fun w=>np (.inr w))]
      refine ⟨?_,?_,?_⟩
      ·cases q:ow' p with
       | none=>rfl
       | some kf =>
        obtain ⟨j1,j2,j3⟩:=o2 p kf q;rcases j3 with j3 | j3
        ·rw [h3p] at j3;exact absurd j3 h2
        ·exact absurd (Od p j3) np
      ·cases q:H1 p with
       | none=>exact absurd q h2
       | some u=>exact e2.hh p u (by rw [h3p];exact q) fun w=>np (Od p w)
      ·cases q:G2 p with
       | none=>rfl
       | some u=>have:=e2.fr p u q h1;rw [h3p] at this;exact absurd this h2
     refine k C' fs G2 H2 e2.gg ⟨a1,a2,a3,a4,a5,⟨fun p=>match ow' p with
      | some (0,f)=>some (i,f)
      | some _=>none
      | none=>ow p,⟨fun p jf hj=>?_⟩,fun j s hs=>?_⟩,by rw [List.length_set,List.length_set];exact R1.len⟩ q2
     ·cases q:ow' p with
      | some kf =>
       obtain ⟨j1,j2,j3⟩:=o2 p kf q;refine ⟨j1,j2,.inl ?_⟩;rcases j3 with j3 | j3
       ·exact R3.al p j3
       ·exact R1.al p (EM p (Od p j3))
      | none =>
       simp only [q] at hj;obtain ⟨h1,h2,h3⟩:=ok.is p jf hj;obtain ⟨_,n2,n3⟩:=owN p jf hj;exact ⟨n3,by rw [n2];exact h2,h3⟩
     ·have hO:∀p f,ow' p=some (0,f)->(match ow' p with | some (0,f)=>some (i,f) | some _=>none | none=>ow p)=some (i,f):=fun p f z=>by simp only [z]
      rcases kR hs with ⟨e,rfl,hl⟩ | ⟨e,hs⟩
      ·subst e
       exact ⟨_,dx,bU,List.getElem?_set_self (aM hl (Nat.le_of_eq R1.len)),(fun a0 z=>by cases z),g2,g3,hO _ _ g4,hO _ _ g5,g6.keep (aX.refl _) hO fun _ _ _ _ z=>z⟩
      ·rw [List.getElem?_set_ne e]
       refine (gh j s hs).keep e2.gg (fun p f z=>?_) fun p f u z q=>?_
       ·simp only [(owN p _ z).1];exact z
       ·rw [(owN p _ z).2.1];exact q
    | _=>exact q2.elim
   | _=>cases d <;> exact q2.elim
def Ro {X:Cx} (i:Nat) {x cn:Str}{p pos pos' lM:Pos}{e:Expr}{es:List Expr}{t:qN}{S:Ca}{k:Nat}{f C:Addr}{fd:FuncData}{ps:List Str} (hN:X.N.Nodup) (M:Mk X.K C f) (F:cM X.prog X.w X.K X.mg X.base jQ k f fd ps (AU X.K S)) (hr:fG (k+1) X.A) (hm:X.mg cn=some (.ref C)) (hb:Binds X.K fd ps [])
  (ha:DA X (e::es) t) (hi:X.N[i]?=some x:=by rfl) (hx:Loc X.env.scope x:=by first | exact Or.inl rfl | exact Or.inr rfl) (hs:swapsWith (.Call (.Name cn p) (e::es) [] lM) (some (.Name x pos')) pos.line X.env=pure false:=by rfl)
  (hf:X.fn x=true\/X.env.scope.names.lookup x=some .local:=by first | exact .inl rfl | exact .inr rfl | assumption) (hg:Gl X cn:=by rfl) (zg:(cn==("__debug__":Str))=false:=by decide)
  (he:starEach (e::es) X.env=(false,eval e X.env)::starEach es X.env:=by rfl) (lL:(backTo lM (starEach es X.env)).any (·.1)=false:=by rfl) :
  DS X (.Assign [.Name x pos'] (.Call (.Name cn p) (e::es) [] lM) pos) (Ob i C S t) :=
 eR (xt (i:=i) hN hi hx (QF M F hr hg hm hb .nil Gq ha zg he lL) hs hf) fun F U H hx=>hx.el fun n Z G E R h k=>⟨n,Z,G,_,R,h,fun vs G1 H1 ds Z1 R1 s1 d1 h1 y dy hy WL ne=>by
  show AU X.K S (.ref y::(vs++[])) _ _ E0;rw [List.append_nil];exact make_core i R1 d1 hy WL ne h1 fun C' fs G2 H2 s2 R2 q=>k.nx _ _ G2 H2 R2 q⟩
section
variable {X:Cx}{e:Expr}{te:A0}{pos:Pos}{C:Addr}{f:Str}
end
end Dl
namespace L2
open PySem PySem.Spec PyProof.Rows
section
variable {κ:Type} [DecidableEq κ]
noncomputable def jU (kvs:List (κ×V)) (k:κ):Option V:=(kvs.find? fun kv=>decide (kv.1=k)).map (·.2)
noncomputable def putK (kvs:List (κ×V)) (k:κ) (v:V):List (κ×V) :=
 if (kvs.any fun kv=>decide (kv.1=k))=true then kvs.map (fun kv=>if kv.1=k then (kv.1,v) else kv) else kvs++[(k,v)]
noncomputable def A2 (kvs:List (κ×V)) (k:κ):List (κ×V):=kvs.filter fun kv=>decide (kv.1≠k)
def wt {p:κ×V}{r:List (κ×V)}{k:κ} (e:p.1=k):jU (p::r) k=some p.2:=by simp [jU,List.find?_cons,e]
def wu {p:κ×V}{r:List (κ×V)}{k:κ} (e:¬p.1=k):jU (p::r) k=jU r k:=by simp [jU,List.find?_cons,e]
theorem wx (k:κ):∀kvs:List (κ×V),(kvs.any fun kv=>decide (kv.1=k))=(jU kvs k).isSome
 | []=>rfl
 | p::r=>by
  rw [List.any_cons]
  by_cases e:p.1=k
  ·simp only [wt e,decide_eq_true e,Bool.true_or,Option.isSome_some]
  ·rw [wu e,decide_eq_false e,Bool.false_or];exact wx k r
def sm (kvs:List (κ×V)) (k:κ) (v:V):(putK kvs k v).length<=kvs.length+1:=by
 unfold putK
 split
 ·rw [List.length_map];omega
 ·rw [List.length_append,List.length_cons,List.length_nil];omega
def Oe {kvs:List (κ×V)}{k:κ} (v:V) (h:jU kvs k=none):putK kvs k v=kvs++[(k,v)]:=by
 unfold putK;rw [wx,h];exact if_neg (by decide)
def pH.xI {o:Option V}{u:Option Value} (r:pH o u):o.isSome=u.isSome:=by
 cases o with
 | none=>cases u with
  | none=>rfl
  | some _=>exact (show False from r).elim
 | some _=>cases u with
  | none=>exact (show False from r).elim
  | some _=>rfl
def KV.val {kvs:List (κ×V)}{vs:List (κ×Value)} (r:KV kvs vs) (k:κ):pH (jU kvs k) (valueAt vs k):=by
 unfold KV at r
 induction r with
 | nil=>exact True.intro
 | @cons p q ps qs h t ih =>
  have ⟨h1,h2⟩:=h
  by_cases e:p.1=k
  ·have e':q.1=k:=h1.symm.trans e
   have b:valueAt (q::qs) k=some q.2:=by simp [valueAt,List.find?_cons,e']
   rw [wt e,b];exact h2
  ·have e':¬q.1=k:=fun z=>e (h1.trans z)
   have b:valueAt (q::qs) k=valueAt qs k:=by simp [valueAt,List.find?_cons,e']
   rw [wu e,b];exact ih
def KV.any {kvs:List (κ×V)}{vs:List (κ×Value)} (r:KV kvs vs) (k:κ):(kvs.any fun kv=>decide (kv.1=k))=vs.any fun kv=>decide (kv.1=k):=by
 unfold KV at r
 induction r with
 | nil=>rfl
 | cons h t ih=>rw [List.any_cons,List.any_cons,ih,h.1]
def KV.Of {kvs:List (κ×V)}{vs:List (κ×Value)} (r:KV kvs vs) (k:κ) {y:V}{u:Value} (ry:RelV y u) :
  KV (kvs.map fun kv=>if kv.1=k then (kv.1,y) else kv) (vs.map fun kv=>if kv.1=k then (kv.1,u) else kv):=by
 unfold KV at r ⊢
 induction r with
 | nil=>exact .nil
 | @cons p q ps qs h t ih =>
  rw [List.map_cons,List.map_cons];refine .cons ?_ ih;have ⟨h1,h2⟩:=h
  by_cases e:p.1=k
  ·rw [if_pos e,if_pos (h1.symm.trans e)];exact ⟨h1,ry⟩
  ·rw [if_neg e,if_neg (fun z=>e (h1.trans z))];exact ⟨h1,h2⟩
def KV.put {kvs:List (κ×V)}{vs:List (κ×Value)} (r:KV kvs vs) (k:κ) {y:V}{u:Value} (ry:RelV y u):KV (putK kvs k y) (stored vs k u):=by
 unfold putK stored;rw [r.any k]
 by_cases e:(vs.any fun kv=>decide (kv.1=k))=true
 ·rw [if_pos e,if_pos e];exact r.Of k ry
 ·rw [if_neg e,if_neg e];exact Paired.snoc r ⟨rfl,ry⟩
def KV.drop {kvs:List (κ×V)}{vs:List (κ×Value)} (r:KV kvs vs) (k:κ):KV (A2 kvs k) (without vs k):=by
 unfold KV at r ⊢;unfold A2 without
 induction r with
 | nil=>exact .nil
 | @cons p q ps qs h t ih =>
  have ⟨h1,h2⟩:=h;rw [List.filter_cons,List.filter_cons]
  by_cases e:p.1=k
  ·have a:¬decide (p.1≠k)=true:=by simp [e]
   have b:¬decide (q.1≠k)=true:=by simp [h1.symm.trans e]
   rw [if_neg a,if_neg b];exact ih
  ·have e':¬q.1=k:=fun z=>e (h1.trans z)
   have a:decide (p.1≠k)=true:=by simp [e]
   have b:decide (q.1≠k)=true:=by simp [e']
   rw [if_pos a,if_pos b];exact .cons ⟨h1,h2⟩ ih
theorem KV.length {kvs:List (κ×V)}{vs:List (κ×Value)} (r:KV kvs vs):kvs.length=vs.length:=Paired.length r
def Og (kvs:List (κ×V)) (k:κ):(A2 kvs k).length<=kvs.length:=bD _ _
end
def Dp {P:Program}{w:World}{k:Key}{u:Value} (r:RelV (kV k) u):(dG P w).is k u=true:=by
 cases k with
 | inl i=>obtain ⟨t,e⟩:=(show ∃t,u=Value.int i t from r);subst e;exact Ga P w i t
 | inr x=>obtain ⟨t,e⟩:=(show ∃t,u=Value.str x t from r);subst e;exact Gb P w x t
theorem Dq {P:Program}{w:World}:∀{ks:List Key}{us:List Value},Vals (ks.map kV) us->ItemsAre (dG P w) ks us
 | [],_,r=>by rw [List.map_nil] at r;cases r;exact .nil
 | k::ks,_,r=>by
  rw [List.map_cons] at r;cases r with
  | cons h t=>exact .cons (Dp h) (Dq t)
abbrev KT (H:Hp):List (List Key×V)->List (List Key×Addr×Value)->Prop:=Paired fun p q=>p.1=q.1/\H q.2.1=some (.tup (p.1.map kV))/\RelV p.2 q.2.2
def KT.val {H:Hp}{kvs:List (List Key×V)}{xs:List (List Key×Addr×Value)} (r:KT H kvs xs) (k:List Key):pH (jU kvs k) ((atKey xs k).map (·.2)):=by
 induction r with
 | nil=>exact True.intro
 | @cons p q ps qs h t ih =>
  have ⟨h1,_,h2⟩:=h
  by_cases e:p.1=k
  ·have e':q.1=k:=h1.symm.trans e
   have b:atKey (q::qs) k=some q.2:=by simp [atKey,List.find?_cons,e']
   rw [wt e,b];exact h2
  ·have e':¬q.1=k:=fun z=>e (h1.trans z)
   have b:atKey (q::qs) k=atKey qs k:=by simp [atKey,List.find?_cons,e']
   rw [wu e,b];exact ih
def KT.Of {H:Hp}{kvs:List (List Key×V)}{xs:List (List Key×Addr×Value)} (r:KT H kvs xs) (k:List Key) {y:V}{u:Value} (ry:RelV y u) :
  KT H (kvs.map fun kv=>if kv.1=k then (kv.1,y) else kv) (xs.map (putAt k u)):=by
 induction r with
 | nil=>exact .nil
 | @cons p q ps qs h t ih =>
  rw [List.map_cons,List.map_cons];refine .cons ?_ ih;have ⟨h1,h2,h3⟩:=h;unfold putAt
  by_cases e:p.1=k
  ·rw [if_pos e,if_pos (h1.symm.trans e)];exact ⟨h1,h2,ry⟩
  ·rw [if_neg e,if_neg (fun z=>e (h1.trans z))];exact ⟨h1,h2,h3⟩
def KT.put {H:Hp}{kvs:List (List Key×V)}{xs:List (List Key×Addr×Value)} (r:KT H kvs xs) (k:List Key) {b:Addr}{y:V}{u:Value} (hb:H b=some (.tup (k.map kV))) (ry:RelV y u) :
  KT H (putK kvs k y) (storedH xs k b u):=by
 have e:(kvs.any fun kv=>decide (kv.1=k))=(atKey xs k).isSome:=by
  rw [wx,(r.val k).xI,Option.isSome_map]
 unfold putK storedH;rw [e]
 by_cases q:(atKey xs k).isSome=true
 ·rw [if_pos q,if_pos q];exact r.Of k ry
 ·rw [if_neg q,if_neg q];exact Paired.snoc r ⟨rfl,hb,ry⟩
def KT.keeps {H H':Hp}{kvs:List (List Key×V)}{xs:List (List Key×Addr×Value)} (r:KT H kvs xs) (ht:∀b ys,H b=some (.tup ys)->H' b=some (.tup ys)):KT H' kvs xs :=
 Paired.TU r fun _ _ z=>⟨z.1,ht _ _ z.2.1,z.2.2⟩
section
variable {P:Program}{w:World}{H:Hp}{h:Heap}{a:Addr}
def S8 {u:HO} (ok:t7 P w H h) (e:Rd H a u):fL P w H h a u:=e.ok ok
def GH {kvs:List (Key×V)} (ok:t7 P w H h) (e:Rd H a (.dK kvs)):kvs.length<=sizeLine/\(a==sysModules)=false/\∃vs,KV kvs vs/\h.DictOf (dG P w) a vs :=
 show fL P w H h a (.dK kvs) from S8 ok e
def Oh {kvs:List (Key×V)} (ok:t7 P w H h) (e:H a=some (.dK kvs)):kvs.length<=sizeLine/\(a==sysModules)=false/\∃vs,KV kvs vs/\h.DictOf (dG P w) a vs:=GH ok (.inl e)
def EN {ks:List Key} (ok:t7 P w H h) (e:H a=some (.tup (ks.map kV))):(tupleKind (dG P w)).is h ks a:=by
 obtain ⟨_,its,r,o,h1,h2,n,h3⟩:=(show fL P w H h a (.tup (ks.map kV)) from ok a _ e);exact ⟨o,its.toArray,n,h1,h2,h3,by simpa using Dq r⟩
def GI {kvs:List (List Key×V)} (ok:t7 P w H h) (e:Rd H a (.dT kvs)):kvs.length<=sizeLine/\(a==sysModules)=false /\
  ∃xs,KT H kvs xs/\h.DictOfH (tupleKind (dG P w)) a xs:=by
 obtain ⟨z,y,xs,r,o,es,ep,h1,h2,h3,h4,h5⟩:=(show fL P w H h a (.dT kvs) from S8 ok e);refine ⟨z,y,xs,r,o,es,ep,h1,h2,h3,h4,fun x hx=>?_,h5⟩;have all:∀{l:List (List Key×V)}{m:List (List Key×Addr×Value)},KT H l m->∀x∈m,(tupleKind (dG P w)).is h x.1 x.2.1:=by
  intro l m q
  induction q with
  | nil=>intro x hx;exact nomatch hx
  | @cons p q ps qs hq t ih =>
   intro x hx;rcases aE.mp hx with e | hx
   ·subst e
    exact EN ok (by rw [<-hq.1];exact hq.2.1)
   ·exact ih x hx
 exact all r x hx
def XX {kvs:List (List Key×V)} (ok:t7 P w H h) (e:H a=some (.dT kvs)):kvs.length<=sizeLine/\(a==sysModules)=false /\
  ∃xs,KT H kvs xs/\h.DictOfH (tupleKind (dG P w)) a xs:=GI ok (.inl e)
end
def xJ (H:Hp) (a:Addr) (y:V) (r:Option V):Prop :=
 (∃kvs k,Rd H a (.dK kvs)/\y=kV k/\r=jU kvs k)\/∃kvs k b,Rd H a (.dT kvs)/\y=.ref b/\H b=some (.tup (k.map kV))/\r=jU kvs k
def Jj (H:Hp) (a:Addr) (y v:V) (H':Hp):Prop :=
 (∃kvs k,H a=some (.dK kvs)/\y=kV k/\kvs.length<sizeLine/\H'=upd H a (.dK (putK kvs k v))) \/
 ∃kvs k b,H a=some (.dT kvs)/\y=.ref b/\H b=some (.tup (k.map kV))/\kvs.length<sizeLine/\H'=upd H a (.dT (putK kvs k v))
theorem xJ.k {H:Hp}{a:Addr}{kvs:List (Key×V)}{k:Key} (e:H a=some (.dK kvs)):xJ H a (kV k) (jU kvs k):=.inl ⟨kvs,k,.inl e,rfl,rfl⟩
theorem Jj.k {H:Hp}{a:Addr}{kvs:List (Key×V)}{k:Key}{v:V} (e:H a=some (.dK kvs)) (hl:kvs.length<sizeLine):Jj H a (kV k) v (upd H a (.dK (putK kvs k v))):=.inl ⟨kvs,k,e,rfl,hl,rfl⟩
section
variable {X:Cx}{pins:List (Addr×Obj)}{U:St}{H:Hp}{s:Shared}{a:Addr}{y v:V}{u r:Value}{o:Option V}{A:Around}{E:Value->Shared->Prop}
def Inv.big (I:Inv X pins U H s):sysModules<s.heap.objs.size:=by
 have h:mainGlobals<s.heap.objs.size:=(I.mod.glob.keeps I.bk).lt;exact Nat.lt_trans (by decide) h
def L5 {Q:Value->Shared->Prop} (hu:A.units+1<cLine) (I:Inv X pins U H s) (g:xJ H a y (some v)) (ry:RelV y u) (h:∀w' s',Inv X pins U H s'->RelV v w'->Q w' s') :
  wpAny (model X.prog X.w) A (getItem (.ref a) u) Q E s:=by
 rcases g with ⟨kvs,k,e,ey,l⟩ | ⟨kvs,k,b,e,ey,eb,l⟩
 ·subst ey
  obtain ⟨z,hd,vs,rel,dd⟩:=GH I.dD e;obtain ⟨w',hw,rw'⟩:=pH.some_of (v:=v) (o:=valueAt vs k) (by rw [l];exact rel.val k);exact wpAny_getItem_of (Dp ry) dd.mapOf hw (h w' _ (I.tok _) rw')
 ·subst ey
  cases (show u=Value.ref b from ry);obtain ⟨z,hd,xs,rel,dd⟩:=GI I.dD e;obtain ⟨w',hw,rw'⟩:=pH.some_of (v:=v) (o:=(atKey xs k).map (·.2)) (by rw [l];exact rel.val k);obtain ⟨p,hp,Y9⟩:=Option.map_eq_some_iff.mp hw;refine wpAny_getItem_heap (tupleKind_room_in1 hu) (EN I.dD eb) dd hp ?_;rw [Y9];exact h w' _ (I.tok _) rw'
def Rp {Q:Value->Shared->Prop} (hu:A.units+1<cLine) (I:Inv X pins U H s) (g:xJ H a y o) (ry:RelV y u) (h:∀s',Inv X pins U H s'->Q (.bool (!o.isSome)) s') :
  wpAny (model X.prog X.w) A (compareOp .NotIn u (.ref a)) Q E s:=by
 rcases g with ⟨kvs,k,e,ey,l⟩ | ⟨kvs,k,b,e,ey,eb,l⟩
 ·subst ey
  obtain ⟨z,hd,vs,rel,dd⟩:=GH I.dD e;refine wpAny_notIn_of (Dp ry) hd dd.mapOf ?_;rw [<-(rel.val k).xI,<-l];exact h _ (I.tok _)
 ·subst ey
  cases (show u=Value.ref b from ry);obtain ⟨z,hd,xs,rel,dd⟩:=GI I.dD e;refine wpAny_notIn_heap (tupleKind_room_in1 hu) (EN I.dD eb) hd dd ?_;have q:=(rel.val k).xI;rw [Option.isSome_map] at q;rw [<-q,<-l];exact h _ (I.tok _)
def zQ {h':Heap}{t':Nat}{ob:HO} (I:Inv X pins U H s) (mu:W6 (H a)) (hs:Heap.SameBut a s.heap h') (he:∃q,h'.get? a=some q) (new:fL X.prog X.w (upd H a ob) h' a ob) :
  Inv X pins U (upd H a ob) { s with heap:=h',toks:=t' } :=
 I.write (x:=a) (e:=a) mu (.inl rfl) (fun b q hb z=>(hs.2 b hb).trans z) he new
def Jk {P:Program}{w:World}{H':Hp}{h':Heap}{kvs:List (Key×V)}{vs:List (Key×Value)} (z:kvs.length<=sizeLine) (hd:(a==sysModules)=false) (rel:KV kvs vs) (dd:h'.DictOf (dG P w) a vs) :
  fL P w H' h' a (.dK kvs):=⟨z,hd,vs,rel,dd⟩
def L6 {H':Hp}{Q:Unit->Shared->Prop} (hu:A.units+1<cLine) (I:Inv X pins U H s) (g:Jj H a y v H') (ry:RelV y u) (rv:RelV v r) (h:∀s',Inv X pins U H' s'->Q () s') :
  wpAny (model X.prog X.w) A (setItem (.ref a) u r) Q E s:=by
 rcases g with ⟨kvs,k,e,ey,l,eH⟩ | ⟨kvs,k,b,e,ey,eb,l,eH⟩
 ·subst ey eH
  obtain ⟨z,hd,vs,rel,dd⟩:=Oh I.dD e;have hz:vs.length<=sizeLine:=by rw [<-rel.length];exact z
  have hl:(putK kvs k v).length<=sizeLine:=by have:=sm kvs k v;omega
  refine wpAny_setItem_pairs (hsz:=hz) (Dp ry) dd fun h' dd' hs=>h _ ?_
  have he:∃q,h'.get? a=some q:=let ⟨q,_,_,hq,_⟩:=dd';⟨q,hq⟩
  exact zQ I (by rw [e];exact True.intro) hs he (Jk hl hd (rel.put k rv) dd')
 ·subst ey eH
  cases (show u=Value.ref b from ry);obtain ⟨z,hd,xs,rel,dd⟩:=XX I.dD e;have hz:xs.length<=sizeLine:=by rw [<-Paired.length rel];exact z
  have hl:(putK kvs k v).length<=sizeLine:=by have:=sm kvs k v;omega
  refine wpAny_setItem_heap (hsz:=hz) (tupleKind_room_in1 hu) (EN I.dD eb) dd fun h' dd' hs=>h _ ?_
  have ⟨q,es,ep,hq,h2,h3,h4,_,h5⟩:=dd';refine zQ I (by rw [e];exact True.intro) hs ⟨q,hq⟩ ⟨hl,hd,_,(rel.put k eb rv).keeps fun c ys ec=>?_,q,es,ep,hq,h2,h3,h4,h5⟩;rw [aF (W5 ec e (fun z=>nomatch z))];exact ec
end
section
variable {X:Cx}{pins:List (Addr×Obj)}{U:St}{H:Hp}{s:Shared}{a:Addr}{kvs:List (Key×V)}{k:Key}{u:Value}{A:Around}{E:Value->Shared->Prop}
def XY {v:V}{more:List Value}{Q:Value->Shared->Prop} (I:Inv X pins U H s) (e:H a=some (.dK kvs)) (ry:RelV (kV k) u) (l:jU kvs k=some v) (hm:more=[]\/∃x,more=[x])
  (h:∀w' s',Inv X pins U (upd H a (.dK (A2 kvs k))) s'->RelV v w'->Q w' s'):wpAny (model X.prog X.w) A (call (.builtin "dict.pop") (.ref a::u::more)) Q E s:=by
 obtain ⟨z,hd,vs,rel,dd⟩:=Oh I.dD e;obtain ⟨w',hw,rw'⟩:=pH.some_of (v:=v) (o:=valueAt vs k) (by rw [<-l];exact rel.val k);have hp:(keyPart u).isSome=true:=by
  cases k with
  | inl i=>obtain ⟨t,q⟩:=(show ∃t,u=Value.int i t from ry);subst q;rfl
  | inr x=>obtain ⟨t,q⟩:=(show ∃t,u=Value.str x t from ry);subst q;rfl
 have ha:argsOk "dict.pop" ⟨.ref a::u::more,[]⟩:=by
  rcases hm with q | ⟨x,q⟩
  ·subst q;exact PySem.F.args_dict_pop_2 _ _
  ·subst q;exact PySem.F.args_dict_pop_3 _ _ _
 refine call_meetsIn PySem.F.slot_dict_pop dd.typeIs PySem.F.entry_dict_pop ha (meets_dict_pop_there (dG X.prog X.w) a (Dp ry) more hm hp)
  ⟨vs,w',dd,by rw [<-rel.length];exact z,hw,fun h' dd' hs=>h w' _ ?_ rw'⟩
 have he:∃q,h'.get? a=some q:=let ⟨q,_,_,hq,_⟩:=dd';⟨q,hq⟩
 exact zQ I (by rw [e];exact True.intro) hs he (Jk (ay (Og kvs k) z) hd (rel.drop k) dd')
end
def Rq (i:Expr):Prop:=∀ov iv,subscripted i false ov iv=operate [ov,iv] (getItem ov iv)
def Rr {prog:Program}{w:World}{A:Around}{E:Value->Shared->Prop}{s:Shared}{env:Env}{value slice:Expr}{pos:Pos}{T id:String}{Q:Value->Shared->Prop}
  (hl:typeLookup (.type T) "__getitem__"=pure (some (.builtin id))) (hs:Rq slice)
  (h:wpAny (model prog w) A (eval value env) (fun o s₁=>wpAny (model prog w) A (eval slice env) (fun i s₂=>s₂.TypeIs o T/\wpAny (model prog w) A (getItem o i) Q E s₂) E s₁) E s) :
  wpAny (model prog w) A (eval (.Subscript value slice pos) env) Q E s:=by
 refine Subscript_ (aV h (fun o s₁ h₁=>aV h₁ (fun i s₂ h₂=>?_) fun _ _ x=>x) fun _ _ x=>x);obtain ⟨hT,h₂⟩:=h₂;unfold subscriptTail;refine aa ?_;rw [getitemInPython_of_ne hT.not_modules];refine aa (wpAny_specialOf hT hl ?_);have fin:wpAny (model prog w) A (subscripted slice false o i) (fun r s₃=>wpAny (model prog w) A (letTemporaryGo value o r >>= fun _=>pure r) Q E s₃) E s₂:=by
  rw [hs o i];exact wpAny_operating (aV h₂ (fun r s₃ h₃=>aa (wpAny_letTemporaryGo (ag h₃))) fun _ _ x=>x)
 first
  | exact ag (aa fin)
  | exact aa (ag (aa fin))
  | exact aa fin
def GJ {X:Cx}{pins:List (Addr×Obj)}{U:St}{H:Hp}{s:Shared}{a:Addr}{y:V}{o:Option V} (I:Inv X pins U H s) (g:xJ H a y o):s.TypeIs (.ref a) "dict":=by
 rcases g with ⟨kvs,k,e,_,_⟩ | ⟨kvs,k,b,e,_,_,_⟩
 ·obtain ⟨_,_,vs,_,dd⟩:=GH I.dD e
  exact dd.typeIs
 ·obtain ⟨_,_,xs,_,dd⟩:=GI I.dD e
  exact dd.typeIs
def S9 (td ty:TE):TE:=fun U H Q=>td U H fun x H1=>ty U H1 fun y H2=>∃a v,x=.ref a/\xJ H2 a y (some v)/\Q v H2
def XZ (td ty tv:TE):TS:=fun D U H=>tv U H fun v H1=>td U H1 fun x H2=>ty U H2 fun y H3=>∃a H4,x=.ref a/\Jj H3 a y v H4/\D.nx U H4
section
variable {X:Cx}{o i e value:Expr}{pos pos' ZW:Pos}{td ty tv:TE}
def EO (hu:X.A.units+1<cLine) (ho:PE X o td) (hi:PE X i ty) (hs:Rq i):PE X (.Subscript o i pos) (S9 td ty):=by
 intro pins s U H Q I h;refine Rr PySem.F.slot_dict_getitem.lookup hs (gy (ho pins s U H _ I h) fun u s1 ⟨x,H1,I1,rx,q1⟩=>gy (hi pins s1 U H1 _ I1 q1) fun iv s2 ⟨y,H2,I2,ry,a,v,ex,g,q2⟩=>?_);subst ex;obtain rfl : u=Value.ref a:=rx;exact ⟨GJ I2 g,L5 hu I2 g ry fun w' s3 I3 rw'=>⟨v,H2,I3,rw',q2⟩⟩
def ER (hu:X.A.units+1<cLine) (ho:PE X o td) (hi:PE X i ty) (hv:PE X value tv) (hs:swapsWith value (some (.Subscript o i pos')) pos.line X.env=pure false) :
  PS X (.Assign [.Subscript o i pos'] value pos) (XZ td ty tv):=by
 intro pins s U H D I h;refine wpAny_Assign_Subscript (gy (hv pins s U H _ I h) fun r s1 ⟨v,H1,I1,rv,q1⟩=>gy (ho pins s1 U H1 _ I1 q1) fun u s2 ⟨x,H2,I2,rx,q2⟩=>gy (hi pins s2 U H2 _ I2 q2) fun iv s3 ⟨y,H3,I3,ry,a,H4,ex,g,q3⟩=>?_) hs;subst ex;obtain rfl : u=Value.ref a:=rx;exact L6 hu I3 g ry rv fun s4 I4=>⟨U,H4,I4,q3⟩
end
def GK {P:Program}{w:World}{H:Hp} (h:Heap) (hb:sysModules<h.objs.size):fL P w H (h.push { cls:=.type "dict",data:=.dict #[] }) h.objs.size (.dK []) :=
 ⟨bw _,bc.mpr (Ne.symm (aP hb)),[],.nil,Heap.DictOf.new h⟩
def US:TE:=fun _ H Q=>∀p,H p=none->Q (.ref p) (upd H p (.dK []))
section
variable {X:Cx}{pos:Pos}
def GL:PE X (.Dict [] [] pos) US:=fun pins s U H Q I h =>
 wpAny_Dict_empty ⟨.ref s.heap.objs.size,_,I.laid (a:=s.heap.objs.size) (o:=.dK []) (t':=s.toks) (fun _ _ q=>ai _ q) (ao _) (GK s.heap I.big),rfl,h _ (I.dD.fresh (ao _))⟩
end
def ES:List (TE×TE)->St->Hp->(List (V×V)->Hp->Prop)->Prop
 | [],_,H,Q=>Q [] H
 | (tk,tv)::r,U,H,Q=>tk U H fun x H1=>tv U H1 fun y H2=>ES r U H2 fun ps H3=>Q ((x,y)::ps) H3
abbrev VV:List (V×V)->List (Value×Value)->Prop:=Paired fun p q=>RelV p.1 q.1/\RelV p.2 q.2
def X0 (X:Cx) (pos:Pos) (keys:List (Option Expr)) (values:List Expr) (Jl:List (TE×TE)):Prop :=
 ∀(pins:List (Addr×Obj)) (s:Shared) (U:St) (H:Hp) (Q:List (V×V)->Hp->Prop),Inv X pins U H s->ES Jl U H Q ->
  wpAny (model X.prog X.w) X.A (evalPairs (pairTrees keys values X.env pos)) (fun vs s'=>∃ps H',Inv X pins U H' s'/\VV ps vs/\Q ps H') X.xe s
def Rt {X:Cx}{pos:Pos}:X0 X pos [] [] []:=fun pins s U H Q I h=>pairTrees_nil_walk ⟨[],H,I,.nil,h⟩
def GN {X:Cx}{pos:Pos}{k v:Expr}{ks:List (Option Expr)}{vs:List Expr}{tk tv:TE}{Jl:List (TE×TE)} (hk:PE X k tk) (hv:PE X v tv) (hr:X0 X pos ks vs Jl) :
  X0 X pos (some k::ks) (v::vs) ((tk,tv)::Jl):=fun pins s U H Q I h =>
 pairTrees_cons_walk (gy (hk pins s U H _ I h) fun u s1 ⟨x,H1,I1,rx,q1⟩=>gy (hv pins s1 U H1 _ I1 q1) fun w2 s2 ⟨y,H2,I2,ry,q2⟩ =>
  gy (hr pins s2 U H2 _ I2 q2) fun ws s3 ⟨ps,H3,I3,rel,q3⟩=>⟨(x,y)::ps,H3,I3,.cons ⟨rx,ry⟩ rel,q3⟩)
noncomputable def pW (kvs more:List (Key×V)):List (Key×V):=more.foldl (fun acc kv=>putK acc kv.1 kv.2) kvs
def KV.merge:∀{more:List (Key×V)}{rs:List (Key×Value)}{kvs:List (Key×V)}{vs:List (Key×Value)},KV more rs->KV kvs vs->KV (pW kvs more) (merged vs rs):=by
 intro more rs kvs vs r;unfold KV at r
 induction r generalizing kvs vs with
 | nil=>intro q;exact q
 | @cons p q ps qs h t ih =>
  intro r0;have e:KV (putK kvs p.1 p.2) (stored vs q.1 q.2):=by
   have:=r0.put p.1 h.2;rw [<-h.1];exact this
  exact ih e
theorem uT:∀(more kvs:List (Key×V)),(pW kvs more).length<=kvs.length+more.length
 | [],kvs=>by show kvs.length<=kvs.length+0;omega
 | p::r,kvs=>by
  have h1:=uT r (putK kvs p.1 p.2);have h2:=sm kvs p.1 p.2;show (pW (putK kvs p.1 p.2) r).length<=_;rw [List.length_cons];omega
theorem A3 {P:Program}{w:World}:∀{kvs:List (Key×V)}{ws:List (Value×Value)},VV (kvs.map fun kv=>(kV kv.1,kv.2)) ws->∃rs,Carries (dG P w) ws rs/\KV kvs rs
 | [],_,r=>by rw [List.map_nil] at r;cases r;exact ⟨[],True.intro,.nil⟩
 | p::kvs,_,r=>by
  rw [List.map_cons] at r;cases r with
  | @cons a b as bs h t =>
   obtain ⟨rs,c,q⟩:=A3 (P:=P) (w:=w) t;have ⟨b1,b2⟩:=b;exact ⟨(p.1,b2)::rs,⟨Dp h.1,rfl,c⟩,.cons ⟨rfl,h.2⟩ q⟩
def X1 (Jl:List (TE×TE)):TE:=fun U H Q=>∀p,H p=none->ES Jl U (upd H p (.dK [])) fun ps H2=>H2 p=some (.dK [])/\∃kvs:List (Key×V),ps=kvs.map (fun kv=>(kV kv.1,kv.2))/\kvs.length<=15/\Q (.ref p) (upd H2 p (.dK (pW [] kvs)))
def Ru {X:Cx}{pos:Pos}{keys:List (Option Expr)}{values:List Expr}{Jl:List (TE×TE)} (h:X0 X pos keys values Jl) (NC:keys.all (·.isSome)=true) (hl:keys.length=values.length) (h0:keys≠[])
  (X2:keys.length<=15):PE X (.Dict keys values pos) (X1 Jl):=by
 intro pins s U H Q I q;have hn:=I.dD.fresh (ao s.heap.objs.size);have I1:=I.laid (a:=s.heap.objs.size) (o:=.dK []) (h':=s.heap.push { cls:=.type "dict",data:=.dict #[] }) (t':=s.toks) (fun _ _ q=>ai _ q) (ao _) (GK s.heap I.big);refine wpAny_Dict_walk (knd:=dG X.prog X.w) NC hl h0 X2 (gy (h pins _ U _ _ I1 (q _ hn)) fun ws s2 ⟨ps,H2,I2,rel,e,kvs,ep,lk,q2⟩=>?_);subst ep;obtain ⟨rs,c,rk⟩:=A3 (P:=X.prog) (w:=X.w) rel;obtain ⟨z,hd,vs0,r0,dd⟩:=Oh I2.dD e;cases r0;refine ⟨rs,c,dd,fun h' dd' hs=>⟨.ref s.heap.objs.size,_,?_,rfl,q2⟩⟩;have hz:(pW [] kvs).length<=sizeLine:=by
  have h1:=uT kvs [];rw [List.length_nil] at h1;rw [sizeLine_eq];omega
 have he:∃q,h'.get? s.heap.objs.size=some q:=let ⟨q,_,_,hq,_⟩:=dd';⟨q,hq⟩
 exact zQ I2 (by rw [e];exact True.intro) hs he (Jk hz hd (rk.merge .nil) dd')
structure M1 (X:Cx) (o:Expr) (m:Str) (apos:Pos) (e:Expr) (lM:Pos):Prop where
 base:attributeBase o m X.env (eval o X.env)=eval o X.env
 ET:((backTo lM (starEach [e] X.env)).all (fun x=>!x.1)&&(backToKw lM (keywordEach [] X.env)).all (fun x=>x.1.isSome)
  && decide (([e]:List Expr).length+([]:List Keyword).length+(if ([]:List Keyword).isEmpty then 0 else 1)<30))=true
 line:(apos.endLine==lM.line)=true
 trees:backTo lM (starEach [e] X.env)=[(false,eval e X.env)]
def IsD (H:Hp) (a:Addr):Prop:=(∃kvs,Rd H a (.dK kvs))\/∃kvs,Rd H a (.dT kvs)
def Jm {X:Cx}{pins:List (Addr×Obj)}{U:St}{H:Hp}{s:Shared}{a:Addr} (I:Inv X pins U H s) (d:IsD H a) :
  s.TypeIs (.ref a) "dict"/\(∀b,Value.ref a=.ref b->∃ob,s.heap.get? b=some ob/\ob.dict=none)/\(a==sysModules)=false:=by
 rcases d with ⟨kvs,e⟩ | ⟨kvs,e⟩
 ·obtain ⟨_,hd,vs,_,dd⟩:=GH I.dD e
  refine ⟨dd.typeIs,fun b q=>?_,hd⟩;cases q;have ⟨ob,_,_,h1,h2,_⟩:=dd;exact ⟨ob,h1,h2.2.1⟩
 ·obtain ⟨_,hd,xs,_,dd⟩:=GI I.dD e
  refine ⟨dd.typeIs,fun b q=>?_,hd⟩;cases q;have ⟨ob,_,_,h1,h2,_⟩:=dd;exact ⟨ob,h1,h2.2.1⟩
section
variable {X:Cx}{pins:List (Addr×Obj)}{U:St}{H:Hp}{s:Shared}{a:Addr}{y d:V}{u r:Value}{o:Option V}{A:Around}{E:Value->Shared->Prop}
end
def UT (td ty:TE):TE:=fun U H Q=>td U H fun x H1=>∃a,x=.ref a/\IsD H1 a/\ty U H1 fun y H2=>∃kvs k v,H2 a=some (.dK kvs)/\y=kV k/\jU kvs k=some v/\Q v (upd H2 a (.dK (A2 kvs k)))
section
variable {X:Cx}{o e f:Expr}{apos lM:Pos}{td ty tx:TE}
def GO (ho:PE X o td) (he:PE X e ty) (m:M1 X o "pop" apos e lM):PE X (.Call (.Attribute o "pop" apos) [e] [] lM) (UT td ty):=by
 intro pins s U H Q I h;refine wpAny_Call_method m.base m.ET m.line PySem.F.plainAttrs_dict PySem.F.slot_dict_pop PySem.F.type_dict_pop (gy (ho pins s U H _ I h) fun u s1 ⟨x,H1,I1,rx,a,ex,d,q1⟩=>?_);subst ex;obtain rfl : u=Value.ref a:=rx;obtain ⟨t1,t2,_⟩:=Jm I1 d;refine ⟨t1,t2,?_⟩;rw [m.trees];refine Calls.callWith_builtin rfl (Calls.evalArgs_plain (Calls.spliced_cons (gy (he pins s1 U H1 _ I1 q1) fun iv s2 ⟨y,H2,I2,ry,kvs,k,v,ea,ey,l,q2⟩=>Calls.spliced_nil ?_)));subst ey;exact XY I2 ea ry l (.inl rfl) fun w' s3 I3 rw'=>⟨v,_,I3,rw',q2⟩
end
section
variable {X:Cx}{pins:List (Addr×Obj)}{U:St}{H:Hp}{s:Shared}{a:Addr}{kvs:List (Key×V)}{A:Around}{E:Value->Shared->Prop}
end
section
variable {X:Cx}{pins:List (Addr×Obj)}{U:St}{H:Hp}{s:Shared}{a:Addr}{y:V}{u:Value}{A:Around}{E:Value->Shared->Prop}
end
end L2
namespace Dl
open PySem PySem.Spec PyProof.Rows L2
noncomputable def lV (kvs:List (Key×D)) (k:Key):Option D:=(kvs.find? fun kv=>decide (kv.1=k)).map (·.2)
noncomputable def putD (kvs:List (Key×D)) (k:Key) (d:D):List (Key×D) :=
 if (kvs.any fun kv=>decide (kv.1=k))=true then kvs.map (fun kv=>if kv.1=k then (kv.1,d) else kv) else kvs++[(k,d)]
noncomputable def Dr (kvs:List (Key×D)) (k:Key):List (Key×D):=kvs.filter fun kv=>decide (kv.1≠k)
noncomputable def zk:D->Option Key
 | .int i=>some (.inl i)
 | .str x=>some (.inr x)
 | _=>none
noncomputable def dK:Key->D
 | .inl i=>.int i
 | .inr x=>.str x
section
variable {K:Frag}{G G':Hp}{vs:List (Key×V)}{ds:List (Key×D)}{k:Key}
theorem fW.length (h:fW K G vs ds):vs.length=ds.length:=by
 induction h with
 | nil=>rfl
 | cons _ _ ih=>simp [ih]
def fW.val {d:D} (h:fW K G vs ds) (e:lV ds k=some d):∃v,jU vs k=some v/\Den K G v d:=by
 induction h with
 | nil=>cases e
 | @cons k' v' d' r s a _ ih =>
  by_cases z:k'=k
  ·have e1:lV ((k',d')::s) k=some d':=by simp [lV,z]
   rw [e1] at e;cases e;exact ⟨v',by simp [jU,z],a⟩
  ·have e1:lV ((k',d')::s) k=lV s k:=by simp [lV,List.find?_cons,z]
   rw [e1] at e;obtain ⟨v,h1,h2⟩:=ih e;exact ⟨v,by rw [show jU ((k',v')::r) k=jU r k by simp [jU,List.find?_cons,z]];exact h1,h2⟩
def fW.isSome (h:fW K G vs ds):(jU vs k).isSome=(lV ds k).isSome:=by
 induction h with
 | nil=>rfl
 | @cons k' v' d' r s a _ ih =>
  by_cases z:k'=k
  ·rw [show lV ((k',d')::s) k=some d' by simp [lV,z],show jU ((k',v')::r) k=some v' by simp [jU,z]];rfl
  ·rw [show lV ((k',d')::s) k=lV s k by simp [lV,List.find?_cons,z],show jU ((k',v')::r) k=jU r k by simp [jU,List.find?_cons,z]];exact ih
def fW.any (h:fW K G vs ds):(vs.any fun kv=>decide (kv.1=k))=ds.any fun kv=>decide (kv.1=k):=by
 induction h with
 | nil=>rfl
 | cons a _ ih=>simp only [List.any_cons,ih]
def fW.append {vs':List (Key×V)}{ds':List (Key×D)} (h:fW K G vs ds) (h':fW K G vs' ds'):fW K G (vs++vs') (ds++ds'):=by
 induction h with
 | nil=>exact h'
 | cons a _ ih=>exact .cons a ih
def fW.Of {v:V}{d:D} (h:fW K G vs ds) (hv:Den K G v d):fW K G (vs.map fun kv=>if kv.1=k then (kv.1,v) else kv) (ds.map fun kv=>if kv.1=k then (kv.1,d) else kv):=by
 induction h with
 | nil=>exact .nil
 | @cons k' v' d' r s a _ ih =>
  rw [List.map_cons,List.map_cons]
  by_cases z:k'=k
  ·rw [if_pos z,if_pos z];exact .cons hv ih
  ·rw [if_neg z,if_neg z];exact .cons a ih
def fW.put {v:V}{d:D} (h:fW K G vs ds) (hv:Den K G v d):fW K G (L2.putK vs k v) (putD ds k d):=by
 unfold L2.putK putD;rw [h.any (k:=k)]
 split
 ·exact h.Of hv
 ·exact h.append (.cons hv .nil)
def fW.drop (h:fW K G vs ds):fW K G (A2 vs k) (Dr ds k):=by
 unfold A2 Dr
 induction h with
 | nil=>exact .nil
 | @cons k' v' d' r s a _ ih =>
  by_cases z:k'=k
  ·rw [List.filter_cons_of_neg (by simp [z]),List.filter_cons_of_neg (by simp [z])];exact ih
  ·rw [List.filter_cons_of_pos (by simp [z]),List.filter_cons_of_pos (by simp [z])];exact .cons a ih
def fW.get {i:Nat}{kv:Key×V} (h:fW K G vs ds) (e:vs[i]?=some kv):∃d,ds[i]?=some (kv.1,d)/\Den K G kv.2 d:=by
 induction h generalizing i with
 | nil=>simp at e
 | @cons k' v' d' r s a _ ih =>
  cases i with
  | zero=>simp at e;subst e;exact ⟨d',rfl,a⟩
  | succ i=>exact ih (by simpa using e)
def lg {v:V}{d:D} (h:Den K G v d) (e:zk d=some k):v=kV k:=by
 cases h <;> simp [zk] at e <;> subst e <;> rfl
def UU:Den K G (kV k) (dK k):=by
 cases k
 ·exact .int _
 ·exact .str _
end
noncomputable def A4 (C i:Nat) (f:Str) (Z:Ev):Option (List (Key×D)):=match Z[i]? with
 | some (.ob _ C' fs)=>if C'=C then (match fs.lookup f with
  | some (.dc l)=>some l
  | _=>none) else none
 | _=>none
noncomputable def L7 (C i:Nat) (f:Str) (Z:Ev):Option (List (Key×D)):=match Z[i]? with
 | some (.ob _ C' fs)=>if C'=C then (match fs.lookup f with
  | some (.dc l)=>some l
  | some (.fz _ l)=>some l
  | _=>none) else none
 | _=>none
section
variable {K:Frag}{n:En}{G H G' H':Hp}{ow ow':Ow}{i i':Nat}{f:Str}{v:V}{s:Fl}{bU:List (Str×V)}{fs:List (Str×Fl)}{Z:Ev}{U:L2.St}{p q:Addr}{o:HO}
def ui {C i:Nat}{l:List (Key×D)} (h:A4 C i f Z=some l):∃h0 fs,Z[i]?=some (.ob h0 C fs)/\fs.lookup f=some (.dc l):=by
 unfold A4 at h
 split at h
 ·rename_i h0 C' fs e
  split at h
  ·rename_i ec
   subst ec
   split at h
   ·rename_i d' e2;cases h;exact ⟨h0,fs,e,e2⟩
   ·cases h
  ·cases h
 ·cases h
def Oi {C i:Nat}{l:List (Key×D)} (h:L7 C i f Z=some l):∃h0 fs,Z[i]?=some (.ob h0 C fs)/\(fs.lookup f=some (.dc l)\/∃q,fs.lookup f=some (.fz q l)):=by
 unfold L7 at h
 split at h
 ·rename_i h0 C' fs e
  split at h
  ·rename_i ec
   subst ec
   split at h
   ·rename_i d' e2;cases h;exact ⟨h0,fs,e,.inl e2⟩
   ·rename_i q d' e2;cases h;exact ⟨h0,fs,e,.inr ⟨q,e2⟩⟩
   ·cases h
  ·cases h
 ·cases h
def uA.own {s0 s1:Fl}{o':HO} (h:uA K G H ow i bU fs) (hf:fs.lookup f=some s0) (hq:bU.lookup f=some (.ref q)) (ho:ow q=some (i,f)) (hd:IG K G (upd H q o') ow i f (.ref q) s1):uA K G (upd H q o') ow i bU (fN f s1 fs):=by
 refine ⟨?_,fun g s' e=>?_⟩
 ·rw [kE,Dl.sk,h.keys]
  cases hm:fs.find? (fun p=>f==p.1) with
  | none =>
   have:=List.find?_eq_none.mp hm;have:fs.lookup f=none:=aU.mpr fun p hp=>by simpa using this p hp
   rw [hf] at this;cases this
  | some p =>
   have h1:=List.mem_of_find?_eq_some hm;have h2:=List.find?_some hm;exact ak.mpr ⟨p,h1,(cJ.mp h2).symm⟩
 ·rw [iw] at e
  by_cases z:g=f
  ·rw [if_pos z] at e
   cases e;subst z;exact ⟨.ref q,hq,hd⟩
  ·rw [if_neg z] at e
   obtain ⟨v,h1,h2⟩:=h.at_ g s' e;refine ⟨v,h1,?_⟩;cases s' with
   | sh d=>exact h2
   | ow m =>
    obtain ⟨r,ws,g1,g2,g3,g4⟩:=h2;have:r≠q:=fun w=>by subst w;rw [ho] at g3;cases g3;exact z rfl
    exact ⟨r,ws,g1,by rw [aF this];exact g2,g3,g4⟩
   | dc m =>
    obtain ⟨r,ws,g1,g2,g3,g4⟩:=h2;have:r≠q:=fun w=>by subst w;rw [ho] at g3;cases g3;exact z rfl
    exact ⟨r,ws,g1,by rw [aF this];exact g2,g3,g4⟩
   | fz q' m=>exact h2
def Rel.X3 (R:Rel K n Z U G H) {h0:Option Nat}{C:Nat} (e:Z[i]?=some (.ob h0 C fs)) (hq:H q=none):∃a dx bU,U[i]?=some (some (.ref a))/\(upd H q (.dK [])) a=some (.ins C dx bU)/\bU.length=fs.length /\
  Rel K n (Z.set i (.ob h0 C (fN f (.dc []) fs))) U G (upd (upd H q (.dK [])) a (.ins C dx (oh f (.ref q) bU))):=by
 obtain ⟨ow,ok,gh⟩:=R.gh;have R1:Rel K n Z U G (upd H q (.dK [])):=R.other (R.sub.free hq) (R.al _ hq) hq _;obtain ⟨ok1,gh1⟩:=Rn R ok gh hq i f (.dK []);obtain ⟨a,dx,bU,g1,g2,g3,g4,g5,g6,g7⟩:=gh1 i _ e;have qa:q≠a:=fun z=>by subst z;rw [aO] at g3;cases g3
 refine ⟨a,dx,bU,g1,g3,by have:=congrArg List.length g7.keys;simpa using this,R1.A1 ok1 gh1 g5 ⟨a,dx,_,g1,g2,aO,?_,g5,g6,?_⟩⟩
 ·rw [aF (fun z=>by subst z;rw [g3] at g4;cases g4)];exact g4
 ·refine uA.put (g7.KH fun p f o z no q=>?_) ⟨q,[],rfl,?_,gX,.nil⟩
  ·rw [aF (fun z=>by subst z;rw [g3] at q;cases q;exact no _ _ _ rfl)];exact q
  ·rw [aF qa];exact aO
def Rel.EU (R:Rel K n Z U G H) {h0:Option Nat}{C:Nat}{l:List (Key×D)} (e:Z[i]?=some (.ob h0 C fs)) (hl:fs.lookup f=some (.dc l)):∃a dx bU q vs,U[i]?=some (some (.ref a))/\H a=some (.ins C dx bU)/\bU.lookup f=some (.ref q)/\H q=some (.dK vs)/\fW K G vs l /\
  ∀(G' H':Hp) (vs':List (Key×V)) (l':List (Key×D)),Ext G H G' H'->fW K G' vs' l'->Rel K n (Z.set i (.ob h0 C (fN f (.dc l') fs))) U G' (upd H' q (.dK vs')):=by
 obtain ⟨ow,ok,gh⟩:=R.gh;obtain ⟨a,dx,bU,g1,g2,g3,g4,g5,g6,g7⟩:=gh i _ e;obtain ⟨w,k1,q,vs,rfl,k2,k3,k4⟩:=g7.at_ f _ hl;refine ⟨a,dx,bU,q,vs,g1,g3,k1,k2,k4,fun G' H' vs' l' x hd=>?_⟩;have ok':IH n G' H' ow:=⟨fun p k hk=>by
  obtain ⟨h1,h2,h3⟩:=ok.is p k hk;refine ⟨?_,ub x.hh h2,h3⟩;cases q:G' p with
  | none=>rfl
  | some w=>exact absurd (x.fr p w q h1) h2⟩
 have gh':∀(i:Nat) (s:Sl),Z[i]?=some s->FX K n G' H' ow i U[i]? s:=fun i s hs=>(gh i s hs).keep x.gg (fun _ _ z=>z) fun p f u _ z=>x.hh p u z
 refine (R.ext x).A1 ok' gh' k3 ⟨a,dx,bU,g1,g2,?_,?_,g5,g6,?_⟩
 ·rw [aF (fun z=>by subst z;rw [g3] at k2;cases k2)];exact x.hh _ _ g3
 ·rw [aF (fun z=>by subst z;rw [g4] at k2;cases k2)];exact x.hh _ _ g4
 ·exact (g7.keep x.gg (fun _ _ z=>z) fun p f u _ z=>x.hh p u z).own hl k1 k3 ⟨q,vs',rfl,aO,k3,hd⟩
def Rel.Oj (R:Rel K n Z U G H) {C:Nat}{l:List (Key×D)} (h:L7 C i f Z=some l):∃a dx bU q vs,U[i]?=some (some (.ref a))/\H a=some (.ins C dx bU)/\bU.lookup f=some (.ref q)/\Rd H q (.dK vs)/\fW K G vs l:=by
 obtain ⟨h0,fs,e1,e2⟩:=Oi h;obtain ⟨ow,ok,gh⟩:=R.gh;obtain ⟨a,dx,bU,g1,g2,g3,g4,g5,g6,g7⟩:=gh i _ e1;rcases e2 with e2 | ⟨q,e2⟩
 ·obtain ⟨w,k1,q,vs,rfl,k2,k3,k4⟩:=g7.at_ f _ e2
  exact ⟨a,dx,bU,q,vs,g1,g3,k1,.inl k2,k4⟩
 ·obtain ⟨w,k1,ob,vs,rfl,k2,k3⟩:=g7.at_ f _ e2
  exact ⟨a,dx,bU,q,vs,g1,g3,k1,.inr ⟨ob,R.sub _ _ k2⟩,k3⟩
end
def dw {k:Nat}{A:Around} (r:fG k A):A.units+1<cLine:=by have:=r.un;omega
def Ol (C i:Nat) (f:Str):dA:=fun E Z=>GG C i Z=true/\E.nx (putAt i f (.dc []) Z)
def KI (C i:Nat) (f:Str) (tx:A0):A0:=fun Z Q=>match L7 C i f Z with
 | some l=>tx Z fun z=>∃k d,zk z=some k/\lV l k=some d/\Q d
 | none=>False
def KJ (C i:Nat) (f:Str) (tx tz:A0):dA:=fun E Z=>match A4 C i f Z with
 | some l=>tx Z fun d=>tz Z fun z=>∃k,zk z=some k/\l.length<sizeLine/\E.nx (putAt i f (.dc (putD l k d)) Z)
 | none=>False
def KL (C i:Nat) (f:Str) (tz:A0):dA:=fun E Z=>match A4 C i f Z with
 | some l=>tz Z fun z=>∃k d,zk z=some k/\lV l k=some d/\E.nx (putAt i f (.dc (Dr l k)) Z)
 | none=>False
def Om (b:Bool) (C i:Nat) (f:Str) (tx:A0):qO:=fun Z Q=>match L7 C i f Z with
 | some l=>tx Z fun z=>∃k,zk z=some k/\Q (b==(lV l k).isSome) Z
 | none=>False
section
variable {X:Cx}{a b e z:Expr}{es:List Expr}{ta tb te tz:A0}{pos:Pos}{C:Addr}{f:Str}
def Rv (i:Nat) {x:Str}{np tp lp:Pos} (c:Au X.K C) (na:gM X.K C f) (hN:X.N[i]?=some x:=by rfl) (hv:rX X.env.scope x:=by first | exact Or.inl rfl | exact Or.inr (Or.inl rfl) | exact Or.inr (Or.inr rfl))
  (hd:(x==("__debug__":Str))=false:=by decide) (gL:(x==("__classdict__":Str))=false:=by decide) (hs:swapsWith (.Dict [] [] lp) (some (.Attribute (.Name x np) f tp)) pos.line X.env=pure false:=by rfl) :
  DS X (.Assign [.Attribute (.Name x np) f tp] (.Dict [] [] lp) pos) (Ol C i f) :=
 eR (Nq (fe hN hv hd gL) GL hs) fun F U H ⟨n,Z,G,E,R,⟨h2,h3⟩,k⟩=>fun p hp=>by
  obtain ⟨h0,fs,e1,lt⟩:=Dm h2;obtain ⟨a,dx,bU,g1,g2,g3,R2⟩:=R.X3 (f:=f) e1 hp;rw [oW e1] at h3;exact ⟨.ref a,g1,a,C,dx,bU,rfl,g2,c,na,by omega,k.nx _ U G _ R2 h3⟩
def Rw (i:Nat) {x:Str}{np fp:Pos} (hu:X.A.units+1<cLine) (c:Au X.K C) (na:gM X.K C f) (hz:DX X z tz) (hN:X.N[i]?=some x:=by rfl) (hv:rX X.env.scope x:=by first | exact Or.inl rfl | exact Or.inr (Or.inl rfl) | exact Or.inr (Or.inr rfl))
  (hd:(x==("__debug__":Str))=false:=by decide) (gL:(x==("__classdict__":Str))=false:=by decide) (hb:attributeBase (.Name x np) f X.env (eval (.Name x np) X.env)=eval (.Name x np) X.env:=by rfl) (hs:Rq z:=by exact fun _ _=>rfl) :
  DX X (.Subscript (.Attribute (.Name x np) f fp) z pos) (KI C i f tz) :=
 cN (EO hu (vm (fe hN hv hd gL) hb) hz hs) fun U H Q2 hx=>hx.el fun n Z G Q R h k=>by
  unfold KI at h
  split at h
  ·rename_i l el
   obtain ⟨a,dx,bU,q,vs,g1,g2,g3,g4,g5⟩:=R.Oj el;refine ⟨.ref a,g1,a,C,dx,bU,.ref q,rfl,g2,c,na,g3,n,Z,G,_,R,h,fun v G1 H1 d x1 d1 ⟨kk,dd,e1,e2,hq⟩=>?_⟩;obtain ⟨w,w1,w2⟩:=g5.val e2;cases lg d1 e1;have g4':Rd H1 q (.dK vs):=by
    rcases g4 with g4 | ⟨ob,g4⟩
    ·exact .inl (x1.hh _ _ g4)
    ·exact .inr ⟨ob,x1.hh _ _ g4⟩
   exact ⟨q,w,rfl,.inl ⟨vs,kk,g4',rfl,w1.symm⟩,k _ G1 H1 _ x1 (w2.up x1.gg) hq⟩
  ·exact h.elim
def Rx (i:Nat) {x:Str}{np fp sp:Pos} (hu:X.A.units+1<cLine) (c:Au X.K C) (na:gM X.K C f) (he:DX X e te) (hz:DX X z tz) (hN:X.N[i]?=some x:=by rfl) (hv:rX X.env.scope x:=by first | exact Or.inl rfl | exact Or.inr (Or.inl rfl) | exact Or.inr (Or.inr rfl))
  (hd:(x==("__debug__":Str))=false:=by decide) (gL:(x==("__classdict__":Str))=false:=by decide) (hb:attributeBase (.Name x np) f X.env (eval (.Name x np) X.env)=eval (.Name x np) X.env:=by rfl)
  (hs:swapsWith e (some (.Subscript (.Attribute (.Name x np) f fp) z sp)) pos.line X.env=pure false:=by rfl) :
  DS X (.Assign [.Subscript (.Attribute (.Name x np) f fp) z sp] e pos) (KJ C i f te tz) :=
 eR (ER hu (vm (fe hN hv hd gL) hb) hz he hs) fun F U H hx=>hx.el fun n Z G E R h k=>by
  unfold KJ at h
  split at h
  ·rename_i l el
   refine ⟨n,Z,G,_,R,h,fun v G1 H1 d x1 d1 h1=>?_⟩;obtain ⟨h0,fs,e1,e2⟩:=ui el;obtain ⟨a,dx,bU,q,vs,g1,g2,g3,g4,g5,g6⟩:=(R.ext x1).EU e1 e2;refine ⟨.ref a,g1,a,C,dx,bU,.ref q,rfl,g2,c,na,g3,n,Z,G1,_,R.ext x1,h1,fun v2 G2 H2 d2 x2 M3 ⟨kk,ek,hl,h2⟩=>?_⟩;cases lg M3 ek;rw [oW e1] at h2;exact ⟨q,_,rfl,Jj.k (x2.hh _ _ g4) (by rw [g5.length];exact hl),k.nx _ U G2 _ (g6 G2 H2 _ _ x2 ((g5.up x2.gg).put (d1.up x2.gg))) h2⟩
  ·exact h.elim
def Ry (i:Nat) {x:Str}{np fp ap cp:Pos} (c:Au X.K C) (na:gM X.K C f) (hz:DX X z tz) (hN:X.N[i]?=some x:=by rfl) (hv:rX X.env.scope x:=by first | exact Or.inl rfl | exact Or.inr (Or.inl rfl) | exact Or.inr (Or.inr rfl))
  (hd:(x==("__debug__":Str))=false:=by decide) (gL:(x==("__classdict__":Str))=false:=by decide) (hb:attributeBase (.Name x np) f X.env (eval (.Name x np) X.env)=eval (.Name x np) X.env:=by rfl)
  (hs:swapsWith (.Call (.Attribute (.Attribute (.Name x np) f fp) "pop" ap) [z] [] cp) none pos.line X.env=pure false:=by rfl)
  (m:M1 X (.Attribute (.Name x np) f fp) "pop" ap z cp:=by exact ⟨rfl,rfl,rfl,rfl⟩) :
  DS X (.Expr (.Call (.Attribute (.Attribute (.Name x np) f fp) "pop" ap) [z] [] cp) pos) (KL C i f tz) :=
 eR (t9 (GO (vm (fe hN hv hd gL) hb) hz m) hs) fun F U H hx=>hx.el fun n Z G E R h k=>by
  unfold KL at h
  split at h
  ·rename_i l el
   obtain ⟨h0,fs,e1,e2⟩:=ui el;obtain ⟨a,dx,bU,q,vs,g1,g2,g3,g4,g5,g6⟩:=R.EU e1 e2;refine ⟨.ref a,g1,a,C,dx,bU,.ref q,rfl,g2,c,na,g3,q,rfl,.inl ⟨vs,.inl g4⟩,n,Z,G,_,R,h,fun v G1 H1 d x1 d1 ⟨kk,dd,ek,ev,h2⟩=>?_⟩;cases lg d1 ek;obtain ⟨w,w1,w2⟩:=g5.val ev;rw [oW e1] at h2;exact ⟨vs,kk,w,x1.hh _ _ g4,rfl,w1,k.nx _ U G1 _ (g6 G1 H1 _ _ x1 ((g5.up x1.gg).drop)) h2⟩
  ·exact h.elim
def Ds (hu:X.A.units+1<cLine):oO X (compareOp .NotIn) (fun x y H Q=>∃a o,y=.ref a/\xJ H a x o/\Q (.bl (!o.isSome)) H):=by
 intro pins s U H x y v u Q I rx ry ⟨a,o,e,g,q⟩;subst e;obtain rfl : u=Value.ref a:=ry;exact Rp hu I g rx fun s3 I3=>⟨.bl (!o.isSome),H,I3,rfl,q⟩
def Dt (i:Nat) {x:Str}{np fp:Pos} (hu:X.A.units+1<cLine) (c:Au X.K C) (na:gM X.K C f) (hz:DX X z tz) (hN:X.N[i]?=some x:=by rfl) (hv:rX X.env.scope x:=by first | exact Or.inl rfl | exact Or.inr (Or.inl rfl) | exact Or.inr (Or.inr rfl))
  (hd:(x==("__debug__":Str))=false:=by decide) (gL:(x==("__classdict__":Str))=false:=by decide) (hb:attributeBase (.Name x np) f X.env (eval (.Name x np) X.env)=eval (.Name x np) X.env:=by rfl) (hm:behindInMarks .NotIn (.Attribute (.Name x np) f fp)=false:=by first | exact jP _ | rfl) :
  DT X (.Compare z [.NotIn] [.Attribute (.Name x np) f fp] pos) (Om false C i f tz) :=
 xy (Ea (Ds hu) hz (vm (fe hN hv hd gL) hb) hm) fun U H Q2 hx=>hx.el fun n Z G Q R h k=>by
  unfold Om at h
  split at h
  ·rename_i l el
   refine ⟨n,Z,G,_,R,h,fun v G1 H1 d x1 d1 ⟨kk,ek,hq⟩=>?_⟩;obtain ⟨a,dx,bU,q,vs,g1,g2,g3,g4,g5⟩:=(R.ext x1).Oj el;cases lg d1 ek;refine ⟨.ref a,g1,a,C,dx,bU,.ref q,rfl,g2,c,na,g3,q,jU vs kk,rfl,.inl ⟨vs,kk,g4,rfl,rfl⟩,_,rfl,?_⟩;rw [g5.isSome (k:=kk)];have:(false==(lV l kk).isSome)=!(lV l kk).isSome:=by cases (lV l kk).isSome <;> rfl
   rw [this] at hq;exact k _ G1 H1 Z (R.ext x1) x1.gg hq
  ·exact h.elim
end
section
variable {X:Cx}{pins:List (Addr×Obj)}{U:L2.St}{H:Hp}{s:Shared}{q:Addr}{kvs:List (Key×V)}{ob:Obj}
theorem Inv.mR (I:Inv X pins U H s) (e:H q=some (.dK kvs)):∃ob,Inv X pins U (upd H q (.mR ob (.dK kvs))) s:=by
 obtain ⟨z,y,vs,r,ob,es,ep,eh,c⟩:=I.dD q _ e;have ne:∀b o,H b=some o->(∀kvs,o≠.dK kvs)->b≠q:=fun b o eb no w=>by subst w;rw [e] at eb;cases eb;exact no _ rfl
 have nn:∀b,H b=none->b≠q:=fun b eb w=>by subst w;rw [e] at eb;cases eb
 have st:∀a o,H a=some o->fL X.prog X.w (upd H q (.mR ob (.dK kvs))) s.heap a o:=fun a o ea =>
  (I.dD a o ea).rY (fun _ _ _ w=>w) (fun b w=>by rw [aF (ne b _ w (fun _ z=>by cases z))];exact w) fun b xs w=>by rw [aF (ne b _ w (fun _ z=>by cases z))];exact w
 refine ⟨ob,⟨I.ok,I.os,I.bare,⟨I.base.keep,I.base.slot,fun b o e1 n hx=>?_,I.base.there,fun b xs w=>?_,fun b o u w=>?_,fun b ps w=>?_⟩,I.loc,I.cell,?_,fun x c w=>?_,fun p hp=>?_,fun a o ea=>?_,I.len⟩⟩
 ·have:=I.base.free b o e1 n hx
  rw [aF (nn b this)];exact this
 ·have:=I.base.vj b xs w
  rw [aF (ne b _ this (fun _ z=>by cases z))];exact this
 ·have:=I.base.rZ b o u w
  rw [aF (ne b _ this (fun _ z=>by cases z))];exact this
 ·obtain ⟨more,this⟩:=I.base.vk b ps w
  exact ⟨more,by rw [aF (ne b _ this (fun _ z=>by cases z))];exact this⟩
 ·rw [aF (nn _ I.free)];exact I.free
 ·have:=I.iE x c w
  rw [aF (nn _ this)];exact this
 ·obtain ⟨p1,p2,p3⟩:=I.pin p hp
  exact ⟨p1,by rw [aF (nn _ p2)];exact p2,p3⟩
 ·by_cases ha:a=q
  ·subst ha
   rw [aO] at ea;cases ea;exact ⟨eh,st _ _ e⟩
  ·rw [aF ha] at ea
   exact st a o ea
def Inv.X4 (I:Inv X pins U H s) (e:H q=some (.dK kvs)):∀o u,X.H₀ q≠some (.mR o u):=fun o u w=>by
 have:=I.base.rZ q o u w;rw [e] at this;cases this
def Inv.A5 (I:Inv X pins U H s) (e:H q=some (.mR ob (.dK kvs))) (nf:∀o u,X.H₀ q≠some (.mR o u)):Inv X pins U (upd H q (.dK kvs)) s:=by
 have ne:∀b o,H b=some o->(∀ob u,o≠.mR ob u)->b≠q:=fun b o eb no w=>by subst w;rw [e] at eb;cases eb;exact no _ _ rfl
 have nn:∀b,H b=none->b≠q:=fun b eb w=>by subst w;rw [e] at eb;cases eb
 have st:∀a o,fL X.prog X.w H s.heap a o->fL X.prog X.w (upd H q (.dK kvs)) s.heap a o:=fun a o ea =>
  ea.rY (fun _ _ _ w=>w) (fun b w=>by rw [aF (ne b _ w (fun _ _ z=>by cases z))];exact w) fun b xs w=>by rw [aF (ne b _ w (fun _ _ z=>by cases z))];exact w
 refine ⟨I.ok,I.os,I.bare,⟨I.base.keep,I.base.slot,fun b o e1 n hx=>?_,I.base.there,fun b xs w=>?_,fun b o u w=>?_,fun b ps w=>?_⟩,I.loc,I.cell,?_,fun x c w=>?_,fun p hp=>?_,fun a o ea=>?_,I.len⟩
 ·have:=I.base.free b o e1 n hx
  rw [aF (nn b this)];exact this
 ·have:=I.base.vj b xs w
  rw [aF (ne b _ this (fun _ _ z=>by cases z))];exact this
 ·have:=I.base.rZ b o u w
  have hb:b≠q:=fun z=>by subst z;exact nf o u w
  rw [aF hb];exact this
 ·obtain ⟨more,this⟩:=I.base.vk b ps w
  exact ⟨more,by rw [aF (ne b _ this (fun _ _ z=>by cases z))];exact this⟩
 ·rw [aF (nn _ I.free)];exact I.free
 ·have:=I.iE x c w
  rw [aF (nn _ this)];exact this
 ·obtain ⟨p1,p2,p3⟩:=I.pin p hp
  exact ⟨p1,by rw [aF (nn _ p2)];exact p2,p3⟩
 ·by_cases ha:a=q
  ·subst ha
   rw [aO] at ea;cases ea;exact st _ _ (I.dD _ _ e).2
  ·rw [aF ha] at ea
   exact st a o (I.dD a o ea)
end
def sFrz (t:TS):TS:=fun F U H=>∃(q:Addr) (kvs:List (Key×V)),H q=some (.dK kvs)/\∀ob,t ⟨fun U' H'=>H' q=some (.mR ob (.dK kvs))/\F.nx U' (upd H' q (.dK kvs)),fun _ _=>False,fun _ _=>False,fun _ _=>False⟩ U (upd H q (.mR ob (.dK kvs)))
def UW {X:Cx}{st:Stmt}{t:TS} (h:PS X st t):PS X st (sFrz t):=fun pins s U H F I ⟨q,kvs,e,k⟩=>by
 obtain ⟨ob,I1⟩:=Inv.mR I e;refine aV (h pins s U _ _ I1 (k ob)) (fun f s1 hs=>?_) fun _ _ z=>z
 cases f with
 | next=>have ⟨U',H',I',e',q'⟩:=hs;exact ⟨U',_,Inv.A5 I' e' (Inv.X4 I e),q'⟩
 | ret u=>have ⟨_,_,_,_,_,z⟩:=hs;exact z.elim
 | brk=>have ⟨_,_,_,z⟩:=hs;exact z.elim
 | cont=>have ⟨_,_,_,z⟩:=hs;exact z.elim
noncomputable def WN:Fl->Bool
 | .fz _ _=>false
 | _=>true
noncomputable def Ta:Sl->Bool
 | .ob _ _ fs=>fs.all fun p=>WN p.2
 | .rc _ fs=>fs.all fun p=>WN p.2
 | .hb _ _ fs=>fs.all fun p=>WN p.2
 | .hd _ z _=>!z
 | _=>true
noncomputable def Oo (Z:Ev):Bool:=Z.all Ta
noncomputable abbrev Rz (n:En) (q:Addr) (o:HO):En:=⟨upd n.G q o,upd n.H q o,fun b=>n.M b/\b≠q⟩
section
variable {K:Frag}{n:En}{G H G' H':Hp}{ow ow':Ow}{i i':Nat}{f:Str}{v:V}{s:Fl}{bU:List (Str×V)}{fs:List (Str×Fl)}{Z:Ev}{U:L2.St}{p q:Addr}{o:HO}{ob:Obj}{kvs:List (Key×V)}
def RA {a:Addr}{xs:List V} (hq:G q=some (.mR ob (.dK kvs))) (h:rE K G a xs):rE K (del G q) a xs:=by
 rcases h with (h | ⟨o,h⟩) | h
 ·exact .inl (.inl (by rw [eJ (fun z=>by subst z;rw [hq] at h;cases h)];exact h))
 ·exact .inl (.inr ⟨o,by rw [eJ (fun z=>by subst z;rw [hq] at h;cases h)];exact h⟩)
 ·exact .inr h
def RB {a:Addr}{xs:List V} (hq:G q=some (.mR ob (.dK kvs))) (h:kC K G a xs):kC K (del G q) a xs:=by
 rcases h with (h | ⟨o,h⟩) | h
 ·exact .inl (.inl (by rw [eJ (fun z=>by subst z;rw [hq] at h;cases h)];exact h))
 ·exact .inl (.inr ⟨o,by rw [eJ (fun z=>by subst z;rw [hq] at h;cases h)];exact h⟩)
 ·exact .inr h
mutual
theorem Den.del (hq:G q=some (.mR ob (.dK kvs))):∀{v:V}{d:D},Den K G v d->Den K (Dl.del G q) v d
 | _,_,.bX=>.bX
 | _,_,.bl b=>.bl b
 | _,_,.int i=>.int i
 | _,_,.str x=>.str x
 | _,_,.pt a=>.pt a
 | _,_,.tup h l=>.tup (RA hq h) (bP.del hq l)
 | _,_,.lst h l=>.lst (RB hq h) (bP.del hq l)
theorem bP.del (hq:G q=some (.mR ob (.dK kvs))):∀{vs:List V}{ds:List D},bP K G vs ds->bP K (Dl.del G q) vs ds
 | _,_,.nil=>.nil
 | _,_,.cons h t=>.cons (Den.del hq h) (bP.del hq t)
end
theorem fW.del {vs:List (Key×V)}{ds:List (Key×D)} (hq:G q=some (.mR ob (.dK kvs))) (h:fW K G vs ds):fW K (Dl.del G q) vs ds:=by
 induction h with
 | nil=>exact .nil
 | cons a _ ih=>exact .cons (a.del hq) ih
theorem wy {β:Type}{f:Str}{s:β}:∀{fs:List (Str×β)},fs.lookup f=some s->∃g,(g,s)∈fs
 | [],h=>by cases h
 | (g,x)::r,h=>by
  rw [List.lookup_cons] at h
  split at h
  ·cases h;exact ⟨g,aj⟩
  ·obtain ⟨g',h'⟩:=wy h;exact ⟨g',aw _ h'⟩
def IG.A5 {o':HO} (hq:G q=some (.mR ob (.dK kvs))) (no:ow q=none) (nf:WN s=true) (h:IG K G H ow i f v s):IG K (del G q) (upd H q o') (my ow q o2) i f v s:=by
 have nq:∀r k,ow r=some k->r≠q:=fun r k w z=>by subst z;rw [no] at w;cases w
 cases s with
 | sh d=>exact Den.del hq h
 | ow l=>obtain ⟨r,vs,h1,h2,h3,h4⟩:=h;exact ⟨r,vs,h1,by rw [aF (nq _ _ h3)];exact h2,by rw [cu (nq _ _ h3)];exact h3,h4.del hq⟩
 | dc l=>obtain ⟨r,vs,h1,h2,h3,h4⟩:=h;exact ⟨r,vs,h1,by rw [aF (nq _ _ h3)];exact h2,by rw [cu (nq _ _ h3)];exact h3,h4.del hq⟩
 | fz r l=>cases nf
theorem uA.A5 {o':HO} (hq:G q=some (.mR ob (.dK kvs))) (no:ow q=none) (nf:(fs.all fun p=>WN p.2)=true) (h:uA K G H ow i bU fs):uA K (del G q) (upd H q o') (my ow q o2) i bU fs :=
 ⟨h.keys,fun f s e=>let ⟨v,h1,h2⟩:=h.at_ f s e;⟨v,h1,h2.A5 hq no (by obtain ⟨g,hg⟩:=wy e;exact (List.all_eq_true.mp nf) _ hg)⟩⟩
theorem FX.A5 {n':En}{o':HO}{s:Sl}{x:Option (Option V)} (hn:∀p,p≠q->n'.H p=none->n.H p=none) (hq:G q=some (.mR ob (.dK kvs))) (no:ow q=none) (nf:Ta s=true) (h:FX K n' G H ow i x s):FX K n (del G q) (upd H q o') (my ow q o2) i x s:=by
 have nq:∀r k,ow r=some k->r≠q:=fun r k w z=>by subst z;rw [no] at w;cases w
 cases s with
 | no=>trivial
 | sh d=>obtain ⟨v,h1,h2⟩:=h;exact ⟨v,h1,h2.del hq⟩
 | ow l=>have ⟨p,vs,h1,h2,h3,h4,h5⟩:=h;exact ⟨p,vs,h1,by rw [aF (nq _ _ h4)];exact h2,hn _ (nq _ _ h4) h3,by rw [cu (nq _ _ h4)];exact h4,h5.del hq⟩
 | mu a l=>have ⟨vs,h1,h2,h4,h5⟩:=h;exact ⟨vs,h1,by rw [aF (nq _ _ h4)];exact h2,by rw [cu (nq _ _ h4)];exact h4,h5.del hq⟩
 | ob r C fs =>
  have ⟨a,dx,bU,h1,h2,h3,h4,h5,h6,h7⟩:=h;exact ⟨a,dx,bU,h1,h2,by rw [aF (nq _ _ h5)];exact h3,by rw [aF (nq _ _ h6)];exact h4,by rw [cu (nq _ _ h5)];exact h5,by rw [cu (nq _ _ h6)];exact h6,h7.A5 hq no nf⟩
 | pt a=>exact h
 | rc r fs =>
  have ⟨a,bU,h1,h2,h3,h5,h7⟩:=h;exact ⟨a,bU,h1,h2,by rw [aF (nq _ _ h5)];exact h3,by rw [cu (nq _ _ h5)];exact h5,h7.A5 hq no nf⟩
 | hd a z kvs =>
  have nf:(!z)=true:=nf;cases z with
  | true=>cases nf
  | false =>
   have ⟨h1,h2⟩:=h;obtain ⟨q',vs,e1,e2,e3,e4⟩:=id h2;cases e1;exact ⟨hn _ (nq _ _ e3) h1,h2.A5 hq no rfl⟩
 | hb a C fs =>
  have ⟨dx,bU,h3,h4,h5,h6,h7⟩:=h;exact ⟨dx,bU,by rw [aF (nq _ _ h5)];exact h3,by rw [aF (nq _ _ h6)];exact h4,by rw [cu (nq _ _ h5)];exact h5,by rw [cu (nq _ _ h6)];exact h6,h7.A5 hq no nf⟩
theorem Rel.mR (R:Rel K n Z U G H) {h0:Option Nat}{C:Nat}{l:List (Key×D)} (e:Z[i]?=some (.ob h0 C fs)) (hl:fs.lookup f=some (.dc l)):∃(q:Addr) (vs:List (Key×V)),H q=some (.dK vs)/\G q=none/\∀ob:Obj,
  Rel K (Rz n q (.mR ob (.dK vs))) (Z.set i (.ob h0 C (fN f (.fz q l) fs))) U (upd G q (.mR ob (.dK vs))) (upd H q (.mR ob (.dK vs))) /\
  ∀(Z':Ev) (U':L2.St) (G' H':Hp) (h1:Option Nat) (fs':List (Str×Fl)) (l':List (Key×D)),Rel K (Rz n q (.mR ob (.dK vs))) Z' U' G' H'->Z'[i]?=some (.ob h1 C fs')->fs'.lookup f=some (.fz q l')->Oo (Z'.set i (.ob h1 C (fN f (.dc l') fs')))=true ->
   H' q=some (.mR ob (.dK vs))/\G' q=some (.mR ob (.dK vs))/\Rel K n (Z'.set i (.ob h1 C (fN f (.dc l') fs'))) U' (del G' q) (upd H' q (.dK vs)):=by
 obtain ⟨ow,ok,gh⟩:=R.gh;obtain ⟨a,dx,bU,g1,g2,g3,g4,g5,g6,g7⟩:=gh i _ e;obtain ⟨w,k1,q,vs,rfl,k2,k3,k4⟩:=g7.at_ f _ hl;obtain ⟨c1,c2,c3⟩:=ok.is _ _ k3;refine ⟨q,vs,k2,c1,fun ob=>⟨?_,?_⟩⟩
 ·have s1:aX G (upd G q (.mR ob (.dK vs))):=bE c1 _
  have nq:∀(r:Addr) (j:Nat) (g:Str),ow r=some (j,g)->(j=i->g≠f)->r≠q:=fun r j g w no z=>by subst z;rw [k3] at w;cases w;exact no rfl rfl
  refine ⟨fun b u eb=>?_,fun b u eb=>?_,fun b u eb m=>?_,fun b eb=>?_,fun b u eb e0=>?_,⟨my ow q none,⟨fun b k hk=>?_⟩,fun j s hj=>?_⟩,by rw [List.length_set];exact R.len⟩
  ·by_cases hb:b=q
   ·subst hb;rw [aO] at eb ⊢;exact eb
   ·rw [aF hb] at eb ⊢;exact R.sub b u eb
  ·have eb:upd n.G q _ b=some u:=eb
   by_cases hb:b=q
   ·subst hb;rw [aO] at eb ⊢;exact eb
   ·rw [aF hb] at eb ⊢;exact R.eg b u eb
  ·have eb:upd n.H q _ b=some u:=eb
   by_cases hb:b=q
   ·subst hb;rw [aO] at eb ⊢;exact eb
   ·rw [aF hb] at eb ⊢;exact R.eh b u eb fun z=>m ⟨z,hb⟩
  ·by_cases hb:b=q
   ·subst hb;rw [aO] at eb;cases eb
   ·rw [aF hb] at eb;show upd n.H q _ b=none;rw [aF hb];exact R.al b eb
  ·by_cases hb:b=q
   ·subst hb;rw [show (Rz n b _).G b=_ from aO] at e0;cases e0
   ·rw [aF hb] at eb
    have e0':n.G b=none:=by have:upd n.G q _ b=none:=e0;rw [aF hb] at this;exact this
    show upd n.H q _ b=none;rw [aF hb];exact R.fr b u eb e0'
  ·by_cases hb:b=q
   ·subst hb;rw [gX] at hk;cases hk
   ·rw [cu hb] at hk
    obtain ⟨o1,o2,o3⟩:=ok.is b k hk;refine ⟨by rw [aF hb];exact o1,by rw [aF hb];exact o2,?_⟩;rcases o3 with o3 | o3
    ·exact .inl (by show upd n.H q _ b=none;rw [aF hb];exact o3)
    ·exact .inr ⟨o3,hb⟩
  ·rcases kR hj with ⟨ej,rfl,hlj⟩ | ⟨ej,hj⟩
   ·subst ej
    have na:a≠q:=fun z=>by subst z;rw [g3] at k2;cases k2
    have nd:dx≠q:=fun z=>by subst z;rw [g4] at k2;cases k2
    refine ⟨a,dx,bU,g1,g2,by rw [aF na];exact g3,by rw [aF nd];exact g4,by rw [cu na];exact g5,by rw [cu nd];exact g6,⟨?_,fun g s' eg=>?_⟩⟩
    ·rw [kE,Dl.sk,g7.keys]
     obtain ⟨g',hg'⟩:=wy hl;cases hm:fs.find? (fun p=>f==p.1) with
     | none =>
      have:=List.find?_eq_none.mp hm;have:fs.lookup f=none:=aU.mpr fun p hp=>by simpa using this p hp
      rw [hl] at this;cases this
     | some p =>
      have h1:=List.mem_of_find?_eq_some hm;have h2:=List.find?_some hm;exact ak.mpr ⟨p,h1,(cJ.mp h2).symm⟩
    ·rw [iw] at eg
     by_cases z:g=f
     ·rw [if_pos z] at eg
      cases eg;subst z;exact ⟨.ref q,k1,ob,vs,rfl,aO,k4.up s1⟩
     ·rw [if_neg z] at eg
      obtain ⟨v,h1,h2⟩:=g7.at_ g s' eg;refine ⟨v,h1,?_⟩;cases s' with
      | sh d=>exact Den.up s1 h2
      | ow m =>
       obtain ⟨r,ws,y1,y2,y3,y4⟩:=h2;have:=nq r _ _ y3 fun _=>z
       exact ⟨r,ws,y1,by rw [aF this];exact y2,by rw [cu this];exact y3,y4.up s1⟩
      | dc m =>
       obtain ⟨r,ws,y1,y2,y3,y4⟩:=h2;have:=nq r _ _ y3 fun _=>z
       exact ⟨r,ws,y1,by rw [aF this];exact y2,by rw [cu this];exact y3,y4.up s1⟩
      | fz q' m=>have ⟨ob',ws,y1,y2,y3⟩:=h2;exact ⟨ob',ws,y1,s1 _ _ y2,y3.up s1⟩
   ·have hk:=(gh j s hj).keep (ow':=my ow q none) (H':=upd H q (.mR ob (.dK vs))) (i':=j) s1 (fun b g z=>by rw [cu (nq b j g z fun w=>absurd w.symm ej)];exact z) fun b g u z w=>by rw [aF (nq b j g z fun w=>absurd w.symm ej)];exact w
    have g0:=gh j s hj;cases s with
    | ow m =>
     have ⟨p,ws,y1,y2,y3,y4,y5⟩:=hk;have hp:p≠q:=fun z=>by subst z;rw [gX] at y4;cases y4
     exact ⟨p,ws,y1,y2,by show upd n.H q _ p=none;rw [aF hp];exact y3,y4,y5⟩
    | hd b z m =>
     have hb:b≠q:=fun w=>by
      subst w;cases z with
      | false=>have ⟨_,q',ws,y1,y2,y3,y4⟩:=g0;cases y1;rw [k3] at y3;cases y3;exact ej rfl
      | true=>have ⟨_,ob',ws,y1,y2,y3⟩:=g0;rw [c1] at y2;cases y2
     exact ⟨by show upd n.H q _ b=none;rw [aF hb];exact hk.1,hk.2⟩
    | _=>exact hk
 ·intro Z' U' G' H' h1 fs' l' R' e' hl' nf
  have UX:G' q=some (.mR ob (.dK vs)):=R'.eg _ _ (show upd n.G q _ q=_ from aO);have hHq:H' q=some (.mR ob (.dK vs)):=R'.sub _ _ UX;obtain ⟨ow',ok',gh'⟩:=R'.gh;have no:ow' q=none:=by
   cases z:ow' q with
   | none=>rfl
   | some k=>have:=(ok'.is _ _ z).1;rw [UX] at this;cases this
  have hn:∀p,p≠q->(Rz n q (.mR ob (.dK vs))).H p=none->n.H p=none:=fun p hp z=>by
   have z':upd n.H q _ p=none:=z;rw [aF hp] at z';exact z'
  refine ⟨hHq,UX,⟨fun b u eb=>?_,fun b u eb=>?_,fun b u eb m=>?_,fun b eb=>?_,fun b u eb e0=>?_,⟨my ow' q (some (i,f)),⟨fun b k hk=>?_⟩,fun j s hj=>?_⟩,by rw [List.length_set];exact R'.len⟩⟩
  ·have hb:b≠q:=fun z=>by subst z;rw [eY] at eb;cases eb
   rw [eJ hb] at eb;rw [aF hb];exact R'.sub b u eb
  ·have hb:b≠q:=fun z=>by subst z;rw [R.eg b u eb] at c1;cases c1
   rw [eJ hb];exact R'.eg b u (by show upd n.G q _ b=_;rw [aF hb];exact eb)
  ·have hb:b≠q:=fun z=>by
    subst z;rcases c3 with c3 | c3
    ·rw [c3] at eb;cases eb
    ·exact m c3
   rw [aF hb];exact R'.eh b u (by show upd n.H q _ b=_;rw [aF hb];exact eb) fun z=>m z.1
  ·by_cases hb:b=q
   ·subst hb;rw [aO] at eb;cases eb
   ·rw [aF hb] at eb;exact hn b hb (R'.al b eb)
  ·have hb:b≠q:=fun z=>by subst z;rw [eY] at eb;cases eb
   rw [eJ hb] at eb;exact hn b hb (R'.fr b u eb (by show upd n.G q _ b=none;rw [aF hb];exact e0))
  ·by_cases hb:b=q
   ·subst hb
    exact ⟨eY,(by rw [aO];exact fun z=>(by cases z)),c3⟩
   ·rw [cu hb] at hk
    obtain ⟨o1,o2,o3⟩:=ok'.is b k hk;refine ⟨by rw [eJ hb];exact o1,by rw [aF hb];exact o2,?_⟩;rcases o3 with o3 | o3
    ·exact .inl (hn b hb o3)
    ·exact .inr o3.1
  ·have nfs:Ta s=true:=(List.all_eq_true.mp nf) s (bf hj)
   rcases kR hj with ⟨ej,rfl,hlj⟩ | ⟨ej,hj⟩
   ·subst ej
    obtain ⟨a,dx,bU,y1,y2,y3,y4,y5,y6,y7⟩:=gh' i _ e';have nq:∀r k,ow' r=some k->r≠q:=fun r k w z=>by subst z;rw [no] at w;cases w
    refine ⟨a,dx,bU,y1,y2,by rw [aF (nq _ _ y5)];exact y3,by rw [aF (nq _ _ y6)];exact y4,by rw [cu (nq _ _ y5)];exact y5,by rw [cu (nq _ _ y6)];exact y6,⟨?_,fun g s' eg=>?_⟩⟩
    ·rw [kE,Dl.sk,y7.keys]
     cases hm:fs'.find? (fun p=>f==p.1) with
     | none =>
      have:=List.find?_eq_none.mp hm;have:fs'.lookup f=none:=aU.mpr fun p hp=>by simpa using this p hp
      rw [hl'] at this;cases this
     | some p =>
      have h1:=List.mem_of_find?_eq_some hm;have h2:=List.find?_some hm;exact ak.mpr ⟨p,h1,(cJ.mp h2).symm⟩
    ·have nfg:WN s'=true:=by
      obtain ⟨g',hg'⟩:=wy eg;exact (List.all_eq_true.mp nfs) _ hg'
     rw [iw] at eg
     by_cases z:g=f
     ·rw [if_pos z] at eg
      cases eg;subst z;obtain ⟨w,z1,ob',ws,rfl,z2,z3⟩:=y7.at_ g _ hl';rw [UX] at z2;cases z2;exact ⟨.ref q,z1,q,vs,rfl,aO,gX,z3.del UX⟩
     ·rw [if_neg z] at eg
      obtain ⟨v,h1,h2⟩:=y7.at_ g s' eg;exact ⟨v,h1,h2.A5 UX no nfg⟩
   ·exact (gh' j s hj).A5 hn UX no nfs
end
noncomputable def Oq (C i:Nat) (f:Str) (Z:Ev):Option (Nat×List (Key×D)):=match Z[i]? with
 | some (.ob _ C' fs)=>if C'=C then (match fs.lookup f with
  | some (.fz q l)=>some (q,l)
  | _=>none) else none
 | _=>none
def GP {C i q:Nat}{f:Str}{Z:Ev}{l:List (Key×D)} (h:Oq C i f Z=some (q,l)):∃h0 fs,Z[i]?=some (.ob h0 C fs)/\fs.lookup f=some (.fz q l):=by
 unfold Oq at h
 split at h
 ·rename_i h0 C' fs e
  split at h
  ·rename_i ec
   subst ec
   split at h
   ·rename_i q' d' e2;cases h;exact ⟨h0,fs,e,e2⟩
   ·cases h
  ·cases h
 ·cases h
def WO (C i:Nat) (f:Str) (t:dA):dA:=fun E Z=>match A4 C i f Z with
 | some l=>∀q:Nat,t { nx:=fun Z'=>Oq C i f Z'=some (q,l)/\Oo (putAt i f (.dc l) Z')=true/\E.nx (putAt i f (.dc l) Z'),rt:=fun _ _=>False } (putAt i f (.fz q l) Z)
 | none=>False
def Ot {X:Cx}{st:Stmt}{t:dA}{C:Nat}{f:Str} (i:Nat) (h:DS X st t):DS X st (WO C i f t) :=
 eR (UW h) fun F U H hx=>hx.el fun n Z G E R h k=>by
  unfold WO at h
  split at h
  ·rename_i l el
   obtain ⟨h0,fs,e1,e2⟩:=ui el;obtain ⟨q,vs,g1,g2,g3⟩:=R.mR e1 e2;refine ⟨q,vs,g1,fun ob=>?_⟩;obtain ⟨R1,back⟩:=g3 ob;have h1:=h q;rw [oW e1] at h1;refine ⟨_,_,_,_,R1,h1,⟨fun Z' U' G' H' R' ⟨z1,z2,z3⟩=>?_,fun _ _ _ _ _ _ _ _ z=>z,fun _ _ _ _ _ z=>z,fun _ _ _ _ _ z=>z⟩⟩;obtain ⟨h1',fs',y1,y2⟩:=GP z1;rw [oW y1] at z2 z3;obtain ⟨b1,b2,b3⟩:=back Z' U' G' H' h1' fs' l R' y1 y2 z2;exact ⟨b1,k.nx _ U' _ _ b3 z3⟩
  ·exact h.elim
theorem vq {α β:Type}{R:α->β->Prop}:∀{xs:List α}{ys:List β}{i:Nat}{x:α},Paired R xs ys->xs[i]?=some x->∃y,ys[i]?=some y/\R x y
 | _,_,_,_,.nil,e=>by simp at e
 | _,_,0,_,.cons h _,e=>by simp at e;subst e;exact ⟨_,rfl,h⟩
 | _,_,i+1,_,.cons _ t,e=>by
  obtain ⟨y,h1,h2⟩:=vq (i:=i) t (by simpa using e);exact ⟨y,by simpa using h1,h2⟩
def GQ {P:Program}{w:World}{k:Key}{u:Value} (h:(dG P w).is k u=true):RelV (kV k) u:=by
 have h:Ah k u=true:=h;rcases fu h with ⟨i,t,rfl,rfl⟩ | ⟨x,t,rfl,rfl⟩
 ·exact ⟨t,rfl⟩
 ·exact ⟨t,rfl⟩
noncomputable def Itd (q:Addr) (ob:Obj) (kvs:List (Key×V)):It :=
 ⟨fun i H=>H q=some (.mR ob (.dK kvs))/\i<kvs.length,
  fun i H v H'=>∃p kv,v=.ref p/\H p=none/\H'=upd H p (.tup [kV kv.1,kv.2])/\kvs[i]?=some kv,
  fun i H=>H q=some (.mR ob (.dK kvs))/\kvs.length<=i⟩
def Jn {P:Program}{w:World}{K:Frag}{elts:List Expr}{kk:Nat}{tp:Pos}{it q:Addr}{ob:Obj}{kvs:List (Key×V)}{vs:List (Key×Value)}{ep:Nat} (rel:KV kvs vs) (da:∀h:Heap,h.get? q=some ob->h.DictAt (dG P w) q vs ep) :
  Turn P w K (.Tuple elts kk tp) (Itd q ob kvs) [it] it (fun i h=>∃ok ov,IsItemIter h it q i vs.length ep ok ov) where
 mem:=by simp
 obj:=fun i h ⟨ok,ov,h1⟩ c hc=>by
  have e:c=it:=by simpa using hc
  subst e;exact ⟨_,h1,fun v z=>nomatch z⟩
 keep:=fun i h h' ⟨ok,ov,h1⟩ k=>⟨ok,ov,k it (by simp) _ h1⟩
 item:=by
  intro X hP hw hK hc i pins s U H E I hf ⟨ok,ov,h1⟩ ⟨hq,hi⟩;subst hP hw hK;obtain ⟨kv,X5⟩ : ∃kv,kvs[i]?=some kv:=⟨_,aI hi⟩;obtain ⟨⟨k',u⟩,hu,ek,ru⟩:=vq rel X5;have ek:kv.1=k':=ek;subst ek;refine wpAny_pyNext_items_item h1 (da _ (I.dD q _ hq).1) hu fun key g hk z1 z2 z3 kp=>?_
  refine ⟨_,rfl,wpAny_letOwnedTupleGo_items z1 fun g' z1' sb=>?_⟩;have lte:it≠s.heap.objs.size:=aP (az h1);obtain ⟨I1,fr1⟩:=Inv.yields (fp:=[it]) (tk:=s.toks) (g:=g') (vs:=[kV kv.1,kv.2]) (us:=[key,u]) I hf
   (fun c hc'=>by
    have e:c=it:=by simpa using hc'
    subst e;exact ⟨_,h1⟩)
   (fun c o hc' e=>by
    have hc':c≠it:=by simpa using hc'
    exact sb.extBut _ _ hc' (kp c o hc' e))
   ⟨_,sb.extBut _ _ (Ne.symm lte) z2,rfl,_,rfl⟩ (.cons (GQ hk) (.cons ru .nil)) (by show 2<=sizeLine;decide)
  exact ⟨.ref s.heap.objs.size,_,I1,rfl,⟨_,kv,rfl,I.dD.fresh (ao _),rfl,X5⟩,⟨_,_,z1'⟩,fr1⟩
 done:=by
  intro X hP hw hK hc i pins s U H E I hf ⟨ok,ov,h1⟩ ⟨hq,hl⟩;subst hP hw hK;have hx:vs[i]?=none:=by rw [List.getElem?_eq_none_iff,<-rel.length];exact hl
  refine wpAny_pyNext_items_end (I.ok.hd hc) h1 (da _ (I.dD q _ hq).1) hx fun g kp=>⟨rfl,?_⟩
  exact Inv.turns (fp:=[it]) (tk:=s.toks) I hf fun c o hc' e=>kp c o (fun z=>hc' (by simp [z])) e
 self:=fun A i s Q E ⟨ok,ov,h1⟩ h=>PySem.W.kcp_self h1 h
section
variable {X:Cx}{elts:List Expr}{kk:Nat}{tp p pos:Pos}{o:Expr}{td:TE}{ap cp:Pos}
def UY (td:TE):TI:=fun U H R=>td U H fun x H1=>∃q ob kvs,x=.ref q/\H1 q=some (.mR ob (.dK kvs))/\R (Itd q ob kvs) H1
def Ou (ho:PE X o td) (kX:attributeBase o "items" X.env (eval o X.env)=eval o X.env)
  (xw:((backTo cp (starEach [] X.env)).all (fun x=>!x.1)&&(backToKw cp (keywordEach [] X.env)).all (fun x=>x.1.isSome)
   && decide (([]:List Expr).length+([]:List Keyword).length+(if ([]:List Keyword).isEmpty then 0 else 1)<30))=true)
  (oR:(ap.endLine==cp.line)=true):PI X (.Tuple elts kk tp) (.Call (.Attribute o "items" ap) [] [] cp) (UY td):=by
 intro pins s U H R I h;refine wpAny_Call_method kX xw oR PySem.F.plainAttrs_dict PySem.F.slot_dict_items PySem.F.type_dict_items (gy (ho pins s U H _ I h) fun u s1 ⟨x,H1,I1,rx,q,ob,kvs,ex,e,r⟩=>?_);subst ex;obtain rfl : u=Value.ref q:=rx;obtain ⟨t1,t2,hd⟩:=Jm I1 (.inl ⟨kvs,.inr ⟨ob,e⟩⟩);refine ⟨t1,t2,?_⟩;obtain ⟨eh,z,y,vs,rel,ob',es,ep,eh',c⟩:=I1.dD q _ e;have eo:ob'=ob:=by rw [eh] at eh';exact (bt eh').symm
 subst eo;have da:∀h:Heap,h.get? q=some ob'->h.DictAt (dG X.prog X.w) q vs ep:=fun h w=>⟨ob',es,w,c⟩
 refine Calls.callWith_builtin rfl (PySem.evalArgs_none ?_);refine call_meetsIn PySem.F.slot_dict_items t1 PySem.F.entry_dict_items (PySem.F.args_dict_items_1 _) (meets_dict_items (dG X.prog X.w) q hd) ⟨⟨vs,(da _ eh).dictOf⟩,?_⟩;have up1:∀b o,s1.heap.get? b=some o->(s1.heap.push { cls:=.type "dict_items",data:=.fields #[.ref q] }).get? b=some o:=fun b o w=>ai _ w
 refine wpAny_pyIter_items (knd:=dG X.prog X.w) (d:=q) (kvs:=vs) (ep:=ep) ⟨_,aB _ rfl,rfl,rfl⟩ (da _ (up1 _ _ eh)) ?_;have ls:s1.heap.objs.size<=(s1.heap.push { cls:=.type "dict_items",data:=.fields #[.ref q] }).objs.size:=by rw [Heap.size_push];exact cf _
 have h0:H1 (s1.heap.push { cls:=.type "dict_items",data:=.fields #[.ref q] }).objs.size=none:=I1.dD.fresh ls;refine ⟨_,[_],_,_,H1,rfl,I1.kept (t':=s1.toks) fun b o w=>ai _ (up1 b o w),Jn rel da,⟨_,_,aB _ rfl⟩,fun b hb=>?_,r⟩;have e:b=(s1.heap.push { cls:=.type "dict_items",data:=.fields #[.ref q] }).objs.size:=by simpa using hb
 subst e;exact I1.Nh ls h0
end
noncomputable def jV (l:List (Key×D)):List D:=l.map fun kv=>.tup [dK kv.1,kv.2]
def uj (C i:Nat) (f:Str):Er:=fun Z Q=>match Oq C i f Z with
 | some (_,l)=>Q (jV l) Z
 | none=>False
def L8 {K:Frag}{G:Hp}{q:Addr}{ob:Obj}{vs:List (Key×V)}{l:List (Key×D)} (h:G q=some (.mR ob (.dK vs))) (hl:fW K G vs l):Qp K G (Itd q ob vs) (jV l):=by
 have len:=hl.length;have el:(jV l).length=l.length:=by simp [jV]
 refine ⟨fun i G1 H1 s1 s2 hi=>⟨s2 _ _ (s1 _ _ h),by omega⟩,fun i G1 H1 x H2 s1 s2 hi y=>?_,fun i G1 H1 s1 s2 hi=>⟨s2 _ _ (s1 _ _ h),by omega⟩⟩;obtain ⟨p,kv,rfl,hp,rfl,hx⟩:=y;obtain ⟨d,hd,dv⟩:=hl.get hx;have sg:aX G1 (upd G1 p (.tup [kV kv.1,kv.2])):=bE (s2.free hp) _;exact ⟨_,.tup [dK kv.1,d],Ext.laid s2 hp _,by simp [jV,hd],.tup (rE.of aO) (.cons UU (.cons (dv.up (s1.trans sg)) .nil))⟩
def A6 {X:Cx}{C:Addr}{f:Str}{elts:List Expr}{kk:Nat}{tp ap cp fp:Pos} (i:Nat) {x:Str}{np:Pos} (c:Au X.K C) (na:gM X.K C f) (hN:X.N[i]?=some x:=by rfl) (hv:rX X.env.scope x:=by first | exact Or.inl rfl | exact Or.inr (Or.inl rfl) | exact Or.inr (Or.inr rfl))
  (hd:(x==("__debug__":Str))=false:=by decide) (gL:(x==("__classdict__":Str))=false:=by decide) (hb:attributeBase (.Name x np) f X.env (eval (.Name x np) X.env)=eval (.Name x np) X.env:=by rfl)
  (kX:attributeBase (.Attribute (.Name x np) f fp) "items" X.env (eval (.Attribute (.Name x np) f fp) X.env)=eval (.Attribute (.Name x np) f fp) X.env:=by rfl)
  (xw:((backTo cp (starEach [] X.env)).all (fun x=>!x.1)&&(backToKw cp (keywordEach [] X.env)).all (fun x=>x.1.isSome)
   && decide (([]:List Expr).length+([]:List Keyword).length+(if ([]:List Keyword).isEmpty then 0 else 1)<30))=true:=by rfl)
  (oR:(ap.endLine==cp.line)=true:=by rfl):DI X (.Tuple elts kk tp) (.Call (.Attribute (.Attribute (.Name x np) f fp) "items" ap) [] [] cp) (uj C i f) :=
 AE (Ou (vm (fe hN hv hd gL) hb) kX xw oR) fun U H R2 hx=>hx.el fun n Z G Q R h k=>by
  unfold uj at h
  split at h
  ·rename_i q l el
   obtain ⟨h0,fs,e1,e2⟩:=GP el;obtain ⟨ow,ok,gh⟩:=R.gh;obtain ⟨a,dx,bU,g1,g2,g3,g4,g5,g6,g7⟩:=gh i _ e1;obtain ⟨w,k1,ob,vs,rfl,k2,k3⟩:=g7.at_ f _ e2;exact ⟨.ref a,g1,a,C,dx,bU,.ref q,rfl,g3,c,na,k1,q,ob,vs,rfl,R.sub _ _ k2,k _ G H _ Z R (aX.refl _) (L8 k2 k3) h⟩
  ·exact h.elim
noncomputable def oX:Key->Key->Bool
 | .inl i,.inl j=>decide (i<j)
 | .inr x,.inr y=>decide (x.cps.toList<y.cps.toList)
 | _,_=>false
noncomputable def klt:List Key->List Key->Bool
 | a::r,b::s=>if a=b then klt r s else oX a b
 | _,_=>false
noncomputable def kk1:Key->Bool
 | .inl _=>false
 | .inr _=>true
noncomputable def A7 (l:List Key):List Bool:=l.map kk1
noncomputable def tD (ks:List Key):D:=.tup (ks.map dK)
def sq:RC:=fun ds Q=>match ds with
 | [.lst l]=>∃ks sh,l=ks.map tD/\(∀k∈ks,A7 k=sh)/\sh≠[]/\ks.length<64/\∀ms:List (List Key),ms.Perm ks->ms.Pairwise (fun a b=>klt b a=false)->Q (.lst (ms.map tD))
 | _=>False
def Ov (a:Key):oX a a=false:=by
 cases a with
 | inl i=>simp [oX]
 | inr x=>simp only [oX,decide_eq_false_iff_not];exact List.lt_irrefl _
def GR {a b:Key} (h:oX a b=true):oX b a=false:=by
 cases a <;> cases b <;> simp [oX] at h ⊢
 ·omega
 ·exact List.le_of_lt h
def EV {a b:Key} (hk:kk1 a=kk1 b) (h1:oX a b=false) (h2:oX b a=false):a=b:=by
 cases a with
 | inl i=>cases b with
  | inl j=>simp [oX] at h1 h2;exact congrArg _ (by omega)
  | inr y=>cases hk
 | inr x=>cases b with
  | inl j=>cases hk
  | inr y =>
   simp only [oX,decide_eq_false_iff_not] at h1 h2;have e:x.cps.toList=y.cps.toList:=List.le_antisymm h2 h1;have:x=y:=by cases x;cases y;simp at e;simp [e]
   rw [this]
def RF {a b c:Key} (h1:oX a b=true) (h2:oX b c=true):oX a c=true:=by
 cases a <;> cases b <;> cases c <;> simp [oX] at h1 h2 ⊢
 ·omega
 ·exact List.lt_trans h1 h2
theorem zR:∀l,klt l l=false
 | []=>rfl
 | a::r=>by simp [klt,zR r]
theorem EW:∀a b,klt a b=true->klt b a=false
 | [],_,h=>by cases h
 | _::_,[],h=>by cases h
 | x::r,y::s,h=>by
  unfold klt at h ⊢
  by_cases e:x=y
  ·subst e;simp only [if_true] at h ⊢;exact EW r s h
  ·rw [if_neg e] at h;rw [if_neg (Ne.symm e)];exact GR h
theorem Jo:∀a b c,A7 a=A7 b->A7 b=A7 c->klt b a=false->klt c b=false->klt c a=false
 | [],[],[],_,_,_,_=>rfl
 | [],_::_,_,h,_,_,_=>by cases h
 | _::_,[],_,h,_,_,_=>by cases h
 | _,[],_::_,_,h,_,_=>by cases h
 | _,_::_,[],_,h,_,_=>by cases h
 | x::r,y::s,z::t,h1,h2,h3,h4=>by
  simp only [A7,List.map_cons,List.cons.injEq] at h1 h2;unfold klt at h3 h4 ⊢
  by_cases e1:y=x
  ·subst e1
   rw [if_pos rfl] at h3
   by_cases e2:z=y
   ·subst e2
    rw [if_pos rfl] at h4 ⊢;exact Jo r s t h1.2 h2.2 h3 h4
   ·rw [if_neg e2] at h4 ⊢;exact h4
  ·rw [if_neg e1] at h3
   by_cases e2:z=y
   ·subst e2
    rw [if_neg e1];exact h3
   ·rw [if_neg e2] at h4
    have g3:oX x y=true:=by
     cases q:oX x y with
     | true=>rfl
     | false=>exact absurd (EV h1.1.symm h3 q) e1
    have g4:oX y z=true:=by
     cases q:oX y z with
     | true=>rfl
     | false=>exact absurd (EV h2.1.symm h4 q) e2
    have g5:=RF g3 g4;have ne:z≠x:=fun w=>by subst w;rw [Ov] at g5;cases g5
    rw [if_neg ne];exact GR g5
theorem Ox:∀a b,A7 a=A7 b->klt a b=false->klt b a=false->a=b
 | [],[],_,_,_=>rfl
 | [],_::_,h,_,_=>by cases h
 | _::_,[],h,_,_=>by cases h
 | x::r,y::s,h,h1,h2=>by
  simp only [A7,List.map_cons,List.cons.injEq] at h;unfold klt at h1 h2
  by_cases e:x=y
  ·subst e
   rw [if_pos rfl] at h1 h2;rw [Ox r s h.2 h1 h2]
  ·rw [if_neg e] at h1;rw [if_neg (Ne.symm e)] at h2
   exact absurd (EV h.1 h1 h2) e
end Dl
namespace Dl
open PySem PySem.W PyProof.Rows
noncomputable def gz (lt:Nat->Nat->Bool) {α:Type}:KasT α->α
 | .ret a=>a
 | .ask i j k=>gz lt (k (lt i j))
theorem oY (lt:Nat->Nat->Bool) {α β:Type} (f:α->KasT β):∀t:KasT α,gz lt (t.bind f)=gz lt (f (gz lt t))
 | .ret _=>rfl
 | .ask i j k=>by
  show gz lt ((k (lt i j)).bind f)=_;rw [oY lt f (k (lt i j))];rfl
structure xK (lt:Nat->Nat->Bool):Prop where
 Tb:∀a,lt a a=false
 X6:∀a b,lt a b=true->lt b a=false
 tr:∀a b c,lt b a=false->lt c b=false->lt c a=false
section
variable {lt:Nat->Nat->Bool}
abbrev le' (lt:Nat->Nat->Bool) (a b:Nat):Prop:=lt b a=false
def Oy (lt:Nat->Nat->Bool) (p:Array Nat) (k:Nat):Prop:=∀i j,i<=j->j<k->le' lt (p.getD i 0) (p.getD j 0)
def L9 (lt:Nat->Nat->Bool) (p:Array Nat) (k:Nat):Prop:=∀i j,i<=j->j<k->le' lt (p.getD j 0) (p.getD i 0)
def GS {p q:Array Nat}{i j:Nat} (h:p[i]?=q[j]?):p.getD i 0=q.getD j 0:=by
 rw [Array.getD_eq_getD_getElem?,Array.getD_eq_getD_getElem?,h]
def su {p:Array Nat}{i j:Nat} (hj:j<=p.size) (k:Nat):(kas_rev p i j).getD k 0=if i<=k/\k<j then p.getD (i+j-1-k) 0 else p.getD k 0:=by
 have:=getElem?_mirror_all (i:=i) hj k;unfold kas_rev
 split
 ·rename_i h;rw [if_pos h] at this;exact GS this
 ·rename_i h;rw [if_neg h] at this;exact GS this
def Oz {p:Array Nat}{s d:Nat} (hs:s<p.size) (hd:d<=s) (k:Nat):(bubble p s d).getD k 0=if k=s-d then p.getD s 0 else if s-d<k/\k<=s then p.getD (k-1) 0 else p.getD k 0:=by
 have:=getElem?_bubble hs d hd k
 by_cases h:k=s-d
 ·rw [if_pos h] at this;rw [if_pos h];exact GS this
 ·rw [if_neg h] at this;rw [if_neg h]
  by_cases h2:s-d<k/\k<=s
  ·rw [if_pos h2] at this;rw [if_pos h2];exact GS this
  ·rw [if_neg h2] at this;rw [if_neg h2];exact GS this
def EX (p:Array Nat) (i j:Nat):(kas_rev p i j).size=p.size:=mirror_size _ _ _ _
def Oy.more (W:xK lt) {p:Array Nat}{n:Nat} (h1:1<=n) (h:Oy lt p n) (hn:lt (p.getD n 0) (p.getD (n-1) 0)=false):Oy lt p (n+1):=fun i j Jp hj=>by
 by_cases e:j=n
 ·subst e
  by_cases e2:i=j
  ·subst e2;exact W.Tb _
  ·exact W.tr _ _ _ (h i (j-1) (by omega) (by omega)) hn
 ·exact h i j Jp (by omega)
def L9.more (W:xK lt) {p:Array Nat}{n:Nat} (h1:1<=n) (h:L9 lt p n) (hn:lt (p.getD (n-1) 0) (p.getD n 0)=false):L9 lt p (n+1):=fun i j Jp hj=>by
 by_cases e:j=n
 ·subst e
  by_cases e2:i=j
  ·subst e2;exact W.Tb _
  ·exact W.tr _ _ _ hn (h i (j-1) (by omega) (by omega))
 ·exact h i j Jp (by omega)
def L9.turn (W:xK lt) {p:Array Nat}{i n:Nat} (hn:n<=p.size) (h:L9 lt p n) (he:∀k l,i<=k->k<n->i<=l->l<n->le' lt (p.getD k 0) (p.getD l 0)):L9 lt (kas_rev p i n) n:=fun a b hab hb=>by
 rw [su hn,su hn]
 split
 ·rename_i h1
  split
  ·rename_i h2;exact he _ _ (by omega) (by omega) (by omega) (by omega)
  ·rename_i h2;exact h a _ (by omega) (by omega)
 ·rename_i h1
  split
  ·rename_i h2;omega
  ·exact h a b hab hb
theorem Jq (W:xK lt) {p:Array Nat}:∀(f n:Nat),1<=n->Oy lt p n ->
  n<=gz lt (kas_asc p f n)/\gz lt (kas_asc p f n)<=n+f/\Oy lt p (gz lt (kas_asc p f n)) /\
  (gz lt (kas_asc p f n)<n+f->lt (p.getD (gz lt (kas_asc p f n)) 0) (p.getD (gz lt (kas_asc p f n)-1) 0)=true)
 | 0,n,h1,h=>⟨ao _,ao _,h,fun z=>absurd z (bQ _)⟩
 | f+1,n,h1,h=>by
  cases c:lt (p.getD n 0) (p.getD (n-1) 0) with
  | true =>
   have e:gz lt (kas_asc p (f+1) n)=n:=by
    show gz lt (if lt (p.getD n 0) (p.getD (n-1) 0)=true then KasT.ret n else kas_asc p f (n+1))=n;rw [c,if_pos rfl];rfl
   rw [e];exact ⟨ao _,by omega,h,fun _=>c⟩
  | false =>
   have e:gz lt (kas_asc p (f+1) n)=gz lt (kas_asc p f (n+1)):=by
    show gz lt (if lt (p.getD n 0) (p.getD (n-1) 0)=true then KasT.ret n else kas_asc p f (n+1))=_;rw [c,if_neg (by simp)]
   rw [e];obtain ⟨a,b,d,g⟩:=Jq W f (n+1) (by omega) (h.more W h1 c);exact ⟨by omega,by omega,d,fun z=>g (by omega)⟩
structure Dn (lt:Nat->Nat->Bool) (P:Array Nat) (p:Array Nat) (n q:Nat):Prop where
 sz:p.size=P.size
 pm:p.Perm P
 no:L9 lt p n
 hq:q+1<=n
 al:∀k l,n-(q+1)<=k->k<n->n-(q+1)<=l->l<n->le' lt (p.getD k 0) (p.getD l 0)
theorem KN (W:xK lt) {P:Array Nat}:∀(f:Nat) (p:Array Nat) (n q:Nat),1<=n->n+f<=P.size->Dn lt P p n q ->
  Dn lt P (gz lt (kas_desc f p n q)).1 (gz lt (kas_desc f p n q)).2.1 (gz lt (kas_desc f p n q)).2.2/\n<=(gz lt (kas_desc f p n q)).2.1/\(gz lt (kas_desc f p n q)).2.1<=n+f
 | 0,p,n,q,h1,hf,h=>⟨h,ao _,ao _⟩
 | f+1,p,n,q,h1,hf,h=>by
  have one:∀p':Array Nat,p'.size=P.size->p'.Perm P->L9 lt p' (n+1)->Dn lt P p' (n+1) 0:=fun p' a b c =>
   ⟨a,b,c,by omega,fun k l h1 h2 h3 h4=>by rw [show k=n by omega,show l=n by omega];exact W.Tb _⟩
  have go:∀p' q',gz lt (kas_desc (f+1) p n q)=gz lt (kas_desc f p' (n+1) q')->Dn lt P p' (n+1) q' ->
    Dn lt P (gz lt (kas_desc (f+1) p n q)).1 (gz lt (kas_desc (f+1) p n q)).2.1 (gz lt (kas_desc (f+1) p n q)).2.2/\n<=(gz lt (kas_desc (f+1) p n q)).2.1/\(gz lt (kas_desc (f+1) p n q)).2.1<=n+(f+1):=fun p' q' e d=>by
   rw [e];obtain ⟨a,b,c⟩:=KN W f p' (n+1) q' (by omega) (by omega) d;exact ⟨a,by omega,by omega⟩
  cases c:lt (p.getD n 0) (p.getD (n-1) 0) with
  | true =>
   by_cases hq:q>0
   ·refine go (kas_rev p (n-(q+1)) n) 0 ?_ (one _ ((EX _ _ _).trans h.sz) ((mirror_perm _ _ _ _).trans h.pm) ?_)
    ·show gz lt (if lt (p.getD n 0) (p.getD (n-1) 0)=true then _ else _)=_
     rw [c,if_pos rfl,if_pos hq]
    ·have hz:=h.sz
     refine (h.no.turn W (by omega) h.al).more W h1 ?_;rw [su (by omega),su (by omega),if_pos (by omega),if_neg (by omega)];exact W.tr _ _ _ (W.X6 _ _ c) (h.al _ _ (by omega) (by omega) (by omega) (by omega))
   ·refine go p 0 ?_ (one _ h.sz h.pm (h.no.more W h1 (W.X6 _ _ c)))
    show gz lt (if lt (p.getD n 0) (p.getD (n-1) 0)=true then _ else _)=_;rw [c,if_pos rfl,if_neg hq]
  | false =>
   cases d:lt (p.getD (n-1) 0) (p.getD n 0) with
   | true =>
    have e:gz lt (kas_desc (f+1) p n q)=(p,n,q):=by
     show gz lt (if lt (p.getD n 0) (p.getD (n-1) 0)=true then _ else KasT.ask _ _ _)=_;rw [c,if_neg (by simp)];show gz lt (if lt (p.getD (n-1) 0) (p.getD n 0)=true then _ else _)=_;rw [d,if_pos rfl];rfl
    rw [e];exact ⟨h,ao _,Nat.le_add_right _ _⟩
   | false =>
    refine go p (q+1) ?_ ⟨h.sz,h.pm,h.no.more W h1 d,by have:=h.hq;omega,fun k l a1 a2 a3 a4=>?_⟩
    ·show gz lt (if lt (p.getD n 0) (p.getD (n-1) 0)=true then _ else KasT.ask _ _ _)=_
     rw [c,if_neg (by simp)];show gz lt (if lt (p.getD (n-1) 0) (p.getD n 0)=true then _ else _)=_;rw [d,if_neg (by simp)]
    ·have hq:=h.hq
     by_cases ek:k=n
     ·subst ek
      by_cases el:l=k
      ·subst el;exact W.Tb _
      ·exact W.tr _ _ _ d (h.al _ _ (by omega) (by omega) (by omega) (by omega))
     ·by_cases el:l=n
      ·subst el;exact W.tr _ _ _ (h.al _ _ (by omega) (by omega) (by omega) (by omega)) c
      ·exact h.al _ _ (by omega) (by omega) (by omega) (by omega)
def OA (lt:Nat->Nat->Bool) (P:Array Nat) (vt:Nat) (r:Nat×Array Nat):Prop:=r.2.size=P.size/\r.2.Perm P/\1<=r.1/\r.1<=vt/\Oy lt r.2 r.1
def GU (W:xK lt) {P p:Array Nat}{n vt:Nat} (h1:1<=n) (hn:n<=vt) (hz:vt<=P.size) (sz:p.size=P.size) (pm:p.Perm P) (no:L9 lt p n):OA lt P vt (gz lt (kas_tail3 n vt p)):=by
 unfold kas_tail3;rw [oY];have so:Oy lt (kas_rev p 0 n) n:=fun i j Jp hj=>by
  rw [su (by omega),su (by omega),if_pos (by omega),if_pos (by omega)];exact no _ _ (by omega) (by omega)
 obtain ⟨a,b,c,_⟩:=Jq W (vt-n) n h1 so;exact ⟨(EX _ _ _).trans sz,(mirror_perm _ _ _ _).trans pm,by show 1<=gz lt (kas_asc _ _ _);omega,by show gz lt (kas_asc _ _ _)<=vt;omega,c⟩
def yA (W:xK lt) {P p:Array Nat}{n vt:Nat} (hn:n+1<=vt) (hz:vt<=P.size) (sz:p.size=P.size) (pm:p.Perm P) (no:L9 lt p (n+1)):OA lt P vt (gz lt (kas_descPart n vt p)):=by
 unfold kas_descPart;rw [oY];obtain ⟨d,a,b⟩:=KN W (vt-(n+1)) p (n+1) 0 (by omega) (by omega) ⟨sz,pm,no,by omega,fun k l h1 h2 h3 h4=>by
  obtain rfl : k=n:=by omega
  obtain rfl : l=k:=by omega
  exact W.Tb _⟩
 generalize gz lt (kas_desc (vt-(n+1)) p (n+1) 0)=r at *;have hs:=d.sz
 split
 ·exact GU W (by omega) (by omega) hz ((EX _ _ _).trans d.sz) ((mirror_perm _ _ _ _).trans d.pm) (d.no.turn W (by omega) d.al)
 ·exact GU W (by omega) (by omega) hz d.sz d.pm d.no
def GV (W:xK lt) {P:Array Nat} (h1:1<=P.size):OA lt P P.size (gz lt (kas_count P.size P)):=by
 unfold kas_count;rw [oY];obtain ⟨a,b,c,g⟩:=Jq W (p:=P) (P.size-1) 1 (ao _) (fun i j _ hj=>by
  obtain rfl : j=0:=by omega
  obtain rfl : i=0:=by omega
  exact W.Tb _)
 generalize gz lt (kas_asc P (P.size-1) 1)=n at *
 by_cases e:(n==P.size)=true
 ·rw [if_pos e]
  exact ⟨rfl,.refl _,a,by show n<=_;omega,c⟩
 ·rw [if_neg e]
  have ne:n≠P.size:=by simpa using e
  have g':=g (by omega)
  by_cases h2:n>1
  ·rw [if_pos h2]
   cases q:lt (P.getD 0 0) (P.getD (n-1) 0) with
   | true =>
    have:gz lt (KasT.ask (P.getD 0 0) (P.getD (n-1) 0) fun c=>if c=true then .ret (n,P) else kas_descPart n P.size (kas_rev P 0 n))=(n,P):=by
     show gz lt (if lt (P.getD 0 0) (P.getD (n-1) 0)=true then _ else _)=_;rw [q,if_pos rfl];rfl
    rw [this];exact ⟨rfl,.refl _,a,by show n<=_;omega,c⟩
   | false =>
    have:gz lt (KasT.ask (P.getD 0 0) (P.getD (n-1) 0) fun c=>if c=true then .ret (n,P) else kas_descPart n P.size (kas_rev P 0 n))=gz lt (kas_descPart n P.size (kas_rev P 0 n)):=by
     show gz lt (if lt (P.getD 0 0) (P.getD (n-1) 0)=true then _ else _)=_;rw [q,if_neg (by simp)]
    rw [this];have al:∀k l,0<=k->k<n->0<=l->l<n->le' lt (P.getD k 0) (P.getD l 0):=fun k l _ h2 _ h4 =>
     W.tr _ _ _ (c k (n-1) (by omega) (by omega)) (W.tr _ _ _ q (c 0 l (by omega) h4))
    refine yA W (by omega) (ao _) (EX _ _ _) (mirror_perm _ _ _ _) ?_;refine L9.more W a (L9.turn W (by omega) (fun i j Jp hj=>al _ _ (by omega) hj (by omega) (by omega)) al) ?_;rw [su (by omega),su (by omega),if_pos (by omega),if_neg (by omega)];exact W.tr _ _ _ (W.X6 _ _ g') (al _ _ (by omega) (by omega) (by omega) (by omega))
  ·rw [if_neg h2]
   obtain rfl : n=1:=by omega
   refine yA W (by omega) (ao _) rfl (.refl _) ?_;exact L9.more W (ao _) (fun i j Jp hj=>by
    obtain rfl : j=0:=by omega
    obtain rfl : i=0:=by omega
    exact W.Tb _) (W.X6 _ _ g')
theorem A8 (W:xK lt) {p:Array Nat}{k:Nat} (h:Oy lt p k):∀(f l r:Nat),l<=r->r<=k->r-l<=f->(∀i,i<l->le' lt (p.getD i 0) (p.getD k 0))->(∀i,r<=i->i<k->le' lt (p.getD k 0) (p.getD i 0)) ->
  gz lt (kas_place p k f l r)<=k/\(∀i,i<gz lt (kas_place p k f l r)->le' lt (p.getD i 0) (p.getD k 0))/\∀i,gz lt (kas_place p k f l r)<=i->i<k->le' lt (p.getD k 0) (p.getD i 0)
 | 0,l,r,hl,hr,hf,h1,h2=>by
  obtain rfl : l=r:=by omega
  exact ⟨hr,h1,h2⟩
 | f+1,l,r,hl,hr,hf,h1,h2=>by
  by_cases e:l>=r
  ·obtain rfl : l=r:=by omega
   have:gz lt (kas_place p k (f+1) l l)=l:=by
    show gz lt (if l>=l then _ else _)=_;rw [if_pos (Nat.le_refl _)];rfl
   rw [this];exact ⟨hr,h1,h2⟩
  ·cases c:lt (p.getD k 0) (p.getD ((l+r) / 2) 0) with
   | true =>
    have:gz lt (kas_place p k (f+1) l r)=gz lt (kas_place p k f l ((l+r) / 2)):=by
     show gz lt (if l>=r then _ else KasT.ask _ _ _)=_;rw [if_neg e];show gz lt (if lt (p.getD k 0) (p.getD ((l+r) / 2) 0)=true then _ else _)=_;rw [c,if_pos rfl]
    rw [this];exact A8 W h f l ((l+r) / 2) (by omega) (by omega) (by omega) h1 fun i a b=>W.tr _ _ _ (W.X6 _ _ c) (h _ _ a b)
   | false =>
    have:gz lt (kas_place p k (f+1) l r)=gz lt (kas_place p k f ((l+r) / 2+1) r):=by
     show gz lt (if l>=r then _ else KasT.ask _ _ _)=_;rw [if_neg e];show gz lt (if lt (p.getD k 0) (p.getD ((l+r) / 2) 0)=true then _ else _)=_;rw [c,if_neg (by simp)]
    rw [this];exact A8 W h f ((l+r) / 2+1) r (by omega) hr (by omega) (fun i a=>W.tr _ _ _ (h i ((l+r) / 2) (by omega) (by omega)) c) h2
theorem OB (W:xK lt) {P:Array Nat}:∀(f:Nat) (p:Array Nat) (k:Nat),k+f=P.size->p.size=P.size->p.Perm P->Oy lt p k ->
  (gz lt (kas_bin f p k)).Perm P/\Oy lt (gz lt (kas_bin f p k)) P.size
 | 0,p,k,hk,sz,pm,h=>⟨pm,by rw [show k=P.size by omega] at h;exact h⟩
 | f+1,p,k,hk,sz,pm,h=>by
  have e:gz lt (kas_bin (f+1) p k)=gz lt (kas_bin f (bubble p k (k-gz lt (kas_place p k k 0 k))) (k+1)):=by
   show gz lt (KasT.bind _ _)=_;rw [oY]
  rw [e];obtain ⟨a,b,c⟩:=A8 W h k 0 k (bw _) (ao _) (by omega) (fun i z=>absurd z (Nat.not_lt_zero _)) (fun i z1 z2=>by omega);generalize gz lt (kas_place p k k 0 k)=l at *;refine OB W f _ (k+1) (by omega) ((bubble_size _ _ _).trans sz) ((bubble_perm _ _ _).trans pm) fun i j Jp hj=>?_
  rw [Oz (by omega) (by omega),Oz (by omega) (by omega)];have ekl:k-(k-l)=l:=by omega
  rw [ekl]
  by_cases ei:i=l
  ·rw [if_pos ei]
   by_cases ej:j=l
   ·rw [if_pos ej];exact W.Tb _
   ·rw [if_neg ej,if_pos (by omega)];exact c _ (by omega) (by omega)
  ·rw [if_neg ei]
   by_cases il:l<i/\i<=k
   ·rw [if_pos il]
    rw [if_neg (show j≠l by omega),if_pos (by omega)];exact h _ _ (by omega) (by omega)
   ·rw [if_neg il]
    by_cases ej:j=l
    ·rw [if_pos ej];exact b i (by omega)
    ·rw [if_neg ej]
     by_cases jl:l<j/\j<=k
     ·rw [if_pos jl];exact h _ _ (by omega) (by omega)
     ·rw [if_neg jl];exact h _ _ Jp (by omega)
def RG (W:xK lt) {n:Nat} (h1:1<=n):(gz lt (kas_sort n)).Perm (List.toArray (List.range n))/\Oy lt (gz lt (kas_sort n)) n:=by
 unfold kas_sort;rw [oY];have hz:(List.toArray (List.range n)).size=n:=by simp
 have c:=GV W (P:=List.toArray (List.range n)) (by rw [hz];exact h1);rw [hz] at c;generalize gz lt (kas_count n (List.toArray (List.range n)))=r at *;have ⟨s1,s2,s3,s4,s5⟩:=c;rw [hz] at s1
 by_cases e:r.1<n
 ·rw [if_pos e]
  have em:max r.1 1=r.1:=by omega
  rw [em];have:=OB W (P:=List.toArray (List.range n)) (n-r.1) r.2 r.1 (by rw [hz];omega) (by rw [hz,s1]) s2 s5;rw [hz] at this;exact this
 ·rw [if_neg e]
  obtain e : r.1=n:=by omega
  rw [e] at s5;exact ⟨s2,s5⟩
def Ik (lt:Nat->Nat->Bool) (n:Nat) {α:Type}:KasT α->Prop
 | .ret _=>True
 | .ask i j k=>i<n/\j<n/\Ik lt n (k (lt i j))
theorem oZ {n:Nat}{α β:Type}{f:α->KasT β}:∀{t:KasT α},Ik lt n t->Ik lt n (f (gz lt t))->Ik lt n (t.bind f)
 | .ret _,_,h=>h
 | .ask i j k,⟨a,b,c⟩,h=>⟨a,b,oZ (t:=k (lt i j)) c h⟩
structure AL (n:Nat) (p:Array Nat):Prop where
 pos:0<n
 all:∀x∈p,x<n
def AL.at {n:Nat}{p:Array Nat} (h:AL n p) (i:Nat):p.getD i 0<n:=by
 rw [Array.getD_eq_getD_getElem?];cases e:p[i]? with
 | none=>exact h.pos
 | some x=>exact h.all x (Array.mem_of_getElem? e)
def AL.of {n:Nat}{p q:Array Nat} (h:AL n p) (e:q.Perm p):AL n q:=⟨h.pos,fun x hx=>h.all x (e.mem_iff.mp hx)⟩
def AL.rev {n:Nat}{p:Array Nat} (h:AL n p) (i j:Nat):AL n (kas_rev p i j):=h.of (mirror_perm _ _ _ _)
theorem EY {n:Nat}{p:Array Nat} (h:AL n p):∀f k,Ik lt n (kas_asc p f k)
 | 0,_=>trivial
 | f+1,k=>by
  refine ⟨h.at _,h.at _,?_⟩;dsimp only
  split
  ·trivial
  ·exact EY h f (k+1)
theorem wz {n:Nat}:∀(f:Nat) (p:Array Nat) (k q:Nat),AL n p->Ik lt n (kas_desc f p k q)/\AL n (gz lt (kas_desc f p k q)).1
 | 0,p,k,q,h=>⟨trivial,h⟩
 | f+1,p,k,q,h=>by
  have D:∀t:KasT (Array Nat×Nat×Nat),(if lt (p.getD k 0) (p.getD (k-1) 0)=true then (if q>0 then kas_desc f (kas_rev p (k-(q+1)) k) (k+1) 0 else kas_desc f p (k+1) 0)
    else .ask (p.getD (k-1) 0) (p.getD k 0) fun d=>if d=true then .ret (p,k,q) else kas_desc f p (k+1) (q+1))=t->Ik lt n t/\AL n (gz lt t).1->Ik lt n (kas_desc (f+1) p k q)/\AL n (gz lt (kas_desc (f+1) p k q)).1:=fun t e z=>by
   subst e;exact ⟨⟨h.at _,h.at _,z.1⟩,z.2⟩
  cases c:lt (p.getD k 0) (p.getD (k-1) 0) with
  | true =>
   by_cases hq:q>0
   ·exact D _ (by rw [c,if_pos rfl,if_pos hq]) (wz f (kas_rev p (k-(q+1)) k) (k+1) 0 (h.rev _ _))
   ·exact D _ (by rw [c,if_pos rfl,if_neg hq]) (wz f p (k+1) 0 h)
  | false =>
   refine D _ (by rw [c,if_neg (by simp)]) ?_;cases d:lt (p.getD (k-1) 0) (p.getD k 0) with
   | true =>
    refine ⟨⟨h.at _,h.at _,?_⟩,?_⟩
    ·dsimp only;rw [d,if_pos rfl];trivial
    ·show AL n (gz lt (if lt (p.getD (k-1) 0) (p.getD k 0)=true then KasT.ret (p,k,q) else kas_desc f p (k+1) (q+1))).1
     rw [d,if_pos rfl];exact h
   | false =>
    have r:=wz f p (k+1) (q+1) h;refine ⟨⟨h.at _,h.at _,?_⟩,?_⟩
    ·dsimp only;rw [d,if_neg (by simp)];exact r.1
    ·show AL n (gz lt (if lt (p.getD (k-1) 0) (p.getD k 0)=true then KasT.ret (p,k,q) else kas_desc f p (k+1) (q+1))).1
     rw [d,if_neg (by simp)];exact r.2
def Du {n k r:Nat}{p:Array Nat} (h:AL n p):Ik lt n (kas_tail3 k r p):=oZ (EY (h.rev _ _) _ _) trivial
def wA {n k r:Nat}{p:Array Nat} (h:AL n p):Ik lt n (kas_descPart k r p):=by
 obtain ⟨a,b⟩:=wz (lt:=lt) (r-(k+1)) p (k+1) 0 h;refine oZ a ?_
 split
 ·exact Du (b.rev _ _)
 ·exact Du b
def Ma {n r:Nat}{p:Array Nat} (h:AL n p):Ik lt n (kas_count r p):=by
 refine oZ (EY h _ _) ?_
 split
 ·trivial
 ·split
  ·refine ⟨h.at _,h.at _,?_⟩
   dsimp only
   split
   ·trivial
   ·exact wA (h.rev _ _)
  ·exact wA h
theorem xM {n k:Nat}{p:Array Nat} (h:AL n p):∀f l r,Ik lt n (kas_place p k f l r)
 | 0,_,_=>trivial
 | f+1,l,r=>by
  show Ik lt n (if l>=r then _ else _)
  split
  ·trivial
  ·refine ⟨h.at _,h.at _,?_⟩
   dsimp only
   split
   ·exact xM h f _ _
   ·exact xM h f _ _
theorem KO {n:Nat}:∀(f:Nat) (p:Array Nat) (k:Nat),AL n p->Ik lt n (kas_bin f p k)
 | 0,_,_,_=>trivial
 | f+1,p,k,h=>oZ (xM h _ _ _) (KO f _ _ (h.of (bubble_perm _ _ _)))
def OC (W:xK lt) {n:Nat} (h1:1<=n):Ik lt n (kas_sort n):=by
 have hz:(List.toArray (List.range n)).size=n:=by simp
 have al:AL n (List.toArray (List.range n)):=⟨h1,fun x hx=>by simpa using hx⟩;have c:=GV W (P:=List.toArray (List.range n)) (by rw [hz];exact h1);rw [hz] at c;refine oZ (Ma al) ?_
 split
 ·exact KO _ _ _ (al.of c.2.1)
 ·trivial
theorem GW {n:Nat}{α:Type}{cmp:Nat->Nat->(Bool->Shared->Prop)->Shared->Prop}{s:Shared} (hc:∀i j C,i<n->j<n->C (lt i j) s->cmp i j C s) {Q:α->Shared->Prop}:∀t:KasT α,Ik lt n t->Q (gz lt t) s->t.kasWp cmp Q s
 | .ret _,_,h=>h
 | .ask i j k,⟨a,b,c⟩,h=>hc i j _ a b (GW hc (k (lt i j)) c h)
end
end Dl
namespace Dl
open PySem PySem.Spec PyProof.Rows L2 PySem.W
def Mb {P:Program}{w:World}{H:Hp}{h:Heap}{a:Addr}{o:HO} (x:fL P w H h a o):∃ob,h.get? a=some ob:=by
 cases o with
 | lst xs=>have ⟨_,_,_,_,e⟩:=x;exact ⟨_,e⟩
 | tup xs=>have ⟨_,_,_,_,e,_⟩:=x;exact ⟨_,e⟩
 | dK kvs=>have ⟨_,_,_,_,_,_,_,e,_⟩:=x;exact ⟨_,e⟩
 | dT kvs=>have ⟨_,_,_,_,_,_,_,e,_⟩:=x;exact ⟨_,e⟩
 | set S n=>have ⟨_,_,_,_,e,_⟩:=x;exact ⟨_,e⟩
 | ins C dx fs=>have ⟨_,_,_,e,_⟩:=x;exact ⟨_,e⟩
 | own y=>exact x
 | xd fs=>have ⟨_,⟨_,_,_,e,_⟩,_⟩:=x;exact ⟨_,e⟩
 | W4 lo hi=>have ⟨_,_,_,e⟩:=x;exact ⟨_,e⟩
 | mR ob u=>exact ⟨_,x.1⟩
 | Qt ps=>exact ⟨_,x⟩
 | met f y=>exact ⟨_,x⟩
 | ext φ=>exact x.2.1
section
variable {prog:Program}{w:World}{A:Around}{E:Value->Shared->Prop}{s:Shared}
def OD {a:Addr}{v:Value}{n:Nat}{P:PySem.Fin->Shared->Prop} (ho:s.heap.get? a=some (seqObj "list" [v].toArray n))
  (h:P (.done (.ret .none)) { s with heap:=sortedHeap s.heap a [v] #[v] }):wpAny (model prog w) A (Builtin.«list.sort» ⟨[.ref a],[]⟩) P E s:=by
 rw [list_sort_plain];have ha:a<s.heap.objs.size:=az ho;refine aa (listItems_at ho rfl ?_);refine aa (listUpdate_at ho rfl ?_);obtain ⟨e1,ho1⟩ : ∃e1,(s.heap.update a (Obj.mapSeq fun _=>#[])).get? a=some (seqObj "list" #[] e1):=⟨_,get?_update_seq ho (fun _=>#[])⟩;refine aa (seqEpoch_at ho1 rfl ?_);refine aa (wpAny_newTuple ?_);refine aa (wpAny_newList ?_);refine bW ?_;have ho6:(((s.heap.update a (Obj.mapSeq fun _=>#[])).push (seqObj "tuple" [v].toArray 0)).push (seqObj "list" #[] 0)).get? a=some (seqObj "list" #[] e1):=by
  rw [Heap.get?_push_ne _ _ _ (by rw [size_push',Heap.size_update];exact aP (cU ha)),Heap.get?_push_ne _ _ _ (by rw [Heap.size_update];exact aP ha)];exact ho1
 show wpAny (model prog w) A _ P E { s with heap:=((s.heap.update a (Obj.mapSeq fun _=>#[])).push (seqObj "tuple" [v].toArray 0)).push (seqObj "list" #[] 0) };dsimp only;have h2:[v].toArray.size<2:=by simp
 have ez:Array.map (fun x=>x.snd) (arrOf (SortSt.mk' general' ([v].toArray.zip [v].toArray) #[] 7 none))=#[v]:=by
  show Array.map (fun x=>x.snd) ([v].toArray.zip [v].toArray)=#[v];simp
 rw [if_pos h2,if_pos h2];refine aa (ag ?_);rw [StateT.run_pure];refine aa (ag ?_);dsimp only;refine aa (seqEpoch_at ho6 rfl ?_);rw [ez];refine aa (listUpdate_at ho6 rfl ?_ (hsz2:=by show 1<=sizeLine+1;rw [sizeLine_eq];omega));simp only [bne_self_eq_false,Bool.false_eq_true,if_false];exact ag h
def Jr {l:Addr}{v:Value}{Q:Value->Shared->Prop} (hl:s.heap.IsList l [v].toArray) (h:Q (.ref (s.heap.objs.size+1)) { s with heap:=sortedAll s.heap [v] #[v] }):wpAny (model prog w) A (call (.builtin "sorted") [.ref l]) Q E s:=by
 refine Calls.call_function_entry kind_sorted plain_sorted entry_sorted (args_sorted1 _) ?_;unfold Builtin.«sorted»;refine aa (m:=checkCount "sorted" 1 1 _) (ag ?_);refine aa (PyProof.Rows.collect_list hl ?_ (by show 1<=sizeLine;decide));refine aa (wpAny_newList ?_);have hsz:((s.heap.push (seqObj "list" #[] 0)).update s.heap.objs.size (Obj.mapSeq (·++[v].toArray))).objs.size=s.heap.objs.size+1:=by
  rw [Heap.size_update,size_push']
 have MZ:(((s.heap.push (seqObj "list" #[] 0)).update s.heap.objs.size (Obj.mapSeq (·++[v].toArray))).push (seqObj "list" [v].toArray 0)).get? (s.heap.objs.size+1)=some (seqObj "list" [v].toArray 0):=by
  rw [<-hsz];exact aB _ rfl
 show wpAny _ _ _ _ _ { s with heap:=((s.heap.push (seqObj "list" #[] 0)).update s.heap.objs.size (Obj.mapSeq (·++[v].toArray))).push (seqObj "list" [v].toArray 0) };rw [hsz];refine aa (bW (bI slot_list_sort ⟨_,MZ,rfl⟩ entry_list_sort (OD MZ ⟨_,rfl,?_⟩) (args_list_sort _)));exact ag ⟨_,rfl,h⟩
theorem A9 {b:Bool}{Q:Bool->Shared->Prop}:∀(ps qs:List Key) (xs ys:List Value) (i:Nat),Vals (ps.map kV) xs->Vals (qs.map kV) ys->A7 ps=A7 qs->Q (klt ps qs) s->KatLex prog w A b false Q (xs.zip ys) i s
 | [],[],_,_,_,.nil,.nil,_,h=>kat_nil h
 | [],_::_,_,_,_,_,_,e,_=>by cases e
 | _::_,[],_,_,_,_,_,e,_=>by cases e
 | p::r,q::t,x::xs,y::ys,i,.cons rx vx,.cons ry vy,e,h=>by
  simp only [A7,List.map_cons,List.cons.injEq] at e;cases p with
  | inl m=>cases q with
   | inl n =>
    obtain ⟨t1,rfl⟩:=(show ∃t,x=Value.int m t from rx);obtain ⟨t2,rfl⟩:=(show ∃t,y=Value.int n t from ry);refine kat_cons (wpAny_eqBool_int (kat_go (fun ee=>kat_yes ?_) (fun ee=>kat_no ?_)))
    ·have ee:m=n:=eq_of_beq ee
     subst ee;refine A9 r t xs ys (i+1) vx vy e.2 ?_;unfold klt at h;rw [if_pos rfl] at h;exact h
    ·have ne:m≠n:=fun z=>by subst z;simp at ee
     have z:klt (.inl m::r) (.inl n::t)=decide (m<n):=by unfold klt;rw [if_neg (fun z=>ne (by injection z))];rfl
     rw [z] at h;cases (b&&i==0) with
     | true=>exact oneLt_int h
     | false=>exact kat_one _ _ (PyProof.Rows.lt_int h)
   | inr y=>cases e.1
  | inr m=>cases q with
   | inl n=>cases e.1
   | inr n =>
    obtain ⟨t1,rfl⟩:=(show ∃t,x=Value.str m t from rx);obtain ⟨t2,rfl⟩:=(show ∃t,y=Value.str n t from ry);refine kat_cons (wpAny_eqBool_str (kat_go (fun ee=>kat_yes ?_) (fun ee=>kat_no ?_)))
    ·have ee:m=n:=of_decide_eq_true ee
     subst ee;refine A9 r t xs ys (i+1) vx vy e.2 ?_;unfold klt at h;rw [if_pos rfl] at h;exact h
    ·have ne:m≠n:=of_decide_eq_false ee
     have z:klt (.inr m::r) (.inr n::t)=decide (m.cps.toList<n.cps.toList):=by unfold klt;rw [if_neg (fun z=>ne (by injection z))];rfl
     rw [z] at h;cases (b&&i==0) with
     | true=>exact oneLt_str h
     | false=>exact kat_one _ _ (PyProof.Rows.lt_str h)
end
section
variable {X:Cx}{e:Expr}{es:List Expr}{t:qN}{p pos:Pos}
def Js (K:Frag):List V->Hp->VK->Prop:=fun xs H Q=>∃(p:Addr) (vs:List V) (ks:List (List Key)) (sh:List Bool),xs=[.ref p]/\kC K H p vs/\vs.length=ks.length/\(∀k∈ks,A7 k=sh)/\sh≠[] /\
 (∀i v,vs[i]?=some v->∃a,v=.ref a/\rE K H a ((ks.getD i []).map kV))/\2<=vs.length/\vs.length<64 /\
 ∀ps:List Nat,ps.Perm (List.range vs.length)->(∀i j,i<=j->j<vs.length->klt (ks.getD (ps.getD j 0) []) (ks.getD (ps.getD i 0) [])=false) ->
  ∀l,H l=none->Q (.ref l) (upd H l (.lst (ps.map fun i=>vs.getD i .bX)))
theorem yB {h:Heap}{T:Bool}:∀{its:List Value},(∀v∈its,∃a o xs n f,v=.ref a/\h.get? a=some o/\o.cls=.type "tuple"/\o.data=.seq xs n/\xs[0]?=some f/\(if T then ∃i t,f=.str i t else ∃i t,f=.int i t)) ->
  ∃fs:List Value,KatTups h its fs/\fs.length=its.length/\∀v∈fs,if T then ∃i t,v=.str i t else ∃i t,v=.int i t
 | [],_=>⟨[],trivial,rfl,fun _ z=>nomatch z⟩
 | v::r,hh=>by
  obtain ⟨fs,a,b,c⟩:=yB (T:=T) (its:=r) fun v hv=>hh v (aw _ hv)
  obtain ⟨x,o,xs,n,f,e1,e2,e3,e4,e5,e6⟩:=hh v (aj ..);refine ⟨f::fs,⟨⟨x,o,xs,n,e1,e2,e3,e4,e5⟩,a⟩,by simp [b],fun v hv=>?_⟩;rcases aE.mp hv with rfl | hv
  ·exact e6
  ·exact c v hv
def Ba:fU X (.builtin "sorted") (Js X.K):=by
 rintro pins s U H xs us Q I r ⟨p,vs,ks,sh,rfl,hq,lk,QQ,nsh,ht,h2,yy,q⟩;obtain ⟨u,rfl,ru⟩:=r.one;cases ru;obtain ⟨its,rv,pl,hz⟩:=I.list hq;have el:=rv.length;obtain ⟨m,F⟩:=I.fr;have Jt:∀i,i<its.length->A7 (ks.getD i [])=sh:=fun i hi=>by
  rw [List.getD_eq_getElem?_getD,List.getElem?_eq_getElem (by omega)];exact QQ _ (List.getElem_mem _)
 have tup:∀i,i<its.length->∃a o n xs,its.getD i .none=.ref a/\a≠X.env.locals/\s.heap.get? a=some o/\o.cls=.type "tuple"/\o.data=.seq (List.toArray xs) n/\Vals ((ks.getD i []).map kV) xs:=fun i hi=>by
  obtain ⟨a,ea,hs⟩:=ht i (vs[i]'(by omega)) (aI _);obtain ⟨u,hu,ru⟩:=rv.get (aI (show i<vs.length by omega));rw [ea] at ru;have ru:u=.ref a:=ru;subst ru;have hL:a≠X.env.locals:=fun z=>by
   rcases hs with (h | ⟨o,h⟩) | ⟨o,_,_,hk,_⟩
   ·rw [z,I.free] at h;cases h
   ·rw [z,I.free] at h;cases h
   ·have h0:=I.ok.mod.MX a o hk
    have h5:=az h0;rw [z] at h5;exact absurd (aM h5 (ay I.ok.FW I.ok.above)) (bQ _)
  obtain ⟨ts,rt,⟨o,ho,hc,n,hd⟩,_⟩:=I.tuple hs;exact ⟨a,o,n,ts,by rw [List.getD_eq_getElem?_getD,hu];rfl,hL,ho,hc,hd,rt⟩
 refine kat_sorted (h₀:=X.base) F M8 pl.isList (by omega) (by omega) fun D e1 h' F' N' low=>?_
 have Tc:∀(g:Heap) (nw:List (Addr×Obj)),Fr X.base X.env.locals g m->News X.base X.env.locals g nw->(∀q∈zL X.base s.heap X.env.locals,q∈nw)->∀b o,b≠X.env.locals->s.heap.get? b=some o->g.get? b=some o:=fun g nw Fg Ng sub b o hb eb=>by
  cases z:X.base.get? b with
  | some u =>
   have:=I.bk b u z;rw [eb] at this;cases this;exact Fg.keep b _ z
  | none=>exact (Ng (b,o) (sub _ (yp hb z eb))).1
 have keep:=Tc h' _ F' N' (fun q hq=>aw _ hq);have nD:=N' (D,seqObj "list" #[] e1) (aj ..);have sD:s.heap.get? D=none:=by
  cases z:s.heap.get? D with
  | none=>rfl
  | some o=>exact absurd (low (D,o) (yp nD.2.1 nD.2.2 z)) (bQ _)
 cases sh with
 | nil=>exact absurd rfl nsh
 | cons T sr =>
 obtain ⟨fs,kt,lf,hi⟩:=yB (T:=T) (h:=h') (its:=its) fun v hv=>by
  obtain ⟨i,hi,ei⟩:=List.getElem_of_mem hv;obtain ⟨a,o,n,xs,b1,b2,b3,b4,b5,b6⟩:=tup i hi;have hk:=Jt i hi;generalize ks.getD i []=kl at hk b6;cases kl with
  | nil=>cases hk
  | cons k0 kr =>
   simp only [A7,List.map_cons,List.cons.injEq] at hk;cases b6 with
   | @cons _ y _ yr ry vy =>
    refine ⟨a,o,_,n,y,?_,keep a o b2 b3,b4,b5,rfl,?_⟩
    ·rw [<-b1,List.getD_eq_getElem?_getD,List.getElem?_eq_getElem hi,ei];rfl
    ·rw [<-hk.1]
     cases k0 with
     | inl m=>obtain ⟨t1,rfl⟩:=(show ∃t,y=Value.int m t from ry);exact ⟨m,t1,rfl⟩
     | inr m=>obtain ⟨t1,rfl⟩:=(show ∃t,y=Value.str m t from ry);exact ⟨m,t1,rfl⟩
 refine kat_kind (T:=if T then .type "str" else .type "int") kt (by omega) (fun v hv=>?_) (by cases T <;> decide) ?_
 ·have z:=hi v hv
  cases T with
  | true=>obtain ⟨i,t,rfl⟩:=z;exact .of_pure rfl
  | false=>obtain ⟨i,t,rfl⟩:=z;exact .of_pure rfl
 have lts:∀i j,i<its.length->j<its.length->True:=fun _ _ _ _=>trivial
 have W:xK fun i j=>klt (if i<its.length then ks.getD i [] else ks.getD 0 []) (if j<its.length then ks.getD j [] else ks.getD 0 []):=by
  have sh':∀i,A7 (if i<its.length then ks.getD i [] else ks.getD 0 [])=T::sr:=fun i=>by
   split
   ·exact Jt i (by assumption)
   ·exact Jt 0 (by omega)
  exact ⟨fun a=>zR _,fun a b h=>EW _ _ h,fun a b c h1 h2=>Jo _ _ _ ((sh' a).trans (sh' b).symm) ((sh' b).trans (sh' c).symm) h1 h2⟩
 refine GW (lt:=fun i j=>klt (if i<its.length then ks.getD i [] else ks.getD 0 []) (if j<its.length then ks.getD j [] else ks.getD 0 [])) (n:=its.length) (fun i j C hi hj hC=>?_) _ (OC W (by omega)) ?_
 ·obtain ⟨a,o,n,xs,b1,b2,b3,b4,b5,b6⟩:=tup i hi
  obtain ⟨a',o',n',xs',c1,c2,c3,c4,c5,c6⟩:=tup j hj;rw [if_pos hi,if_pos hj] at hC;show wpAny _ _ (keyLt' _ (its.getD i .none) (its.getD j .none)) _ _ _;rw [b1,c1];refine kat_lt (keep a o b2 b3) b5 (keep a' o' c2 c3) c5 ?_;have e1:=b6.length;have e2:=c6.length;have e3:(ks.getD i []).length=(ks.getD j []).length:=by
   have:=congrArg List.length ((Jt i hi).trans (Jt j hj).symm)
   simpa [A7] using this
  have ef:decide ((List.toArray xs).size<(List.toArray xs').size)=false:=by
   rw [List.length_map] at e1 e2;simp only [List.size_toArray,decide_eq_false_iff_not];omega
  rw [ef];exact A9 _ _ _ _ 0 b6 c6 ((Jt i hi).trans (Jt j hj).symm) hC
 ·obtain ⟨pm,so⟩:=RG W (n:=its.length) (by omega)
  generalize gz (fun i j=>klt (if i<its.length then ks.getD i [] else ks.getD 0 []) (if j<its.length then ks.getD j [] else ks.getD 0 [])) (kas_sort its.length)=pa at *;have pm':pa.toList.Perm (List.range its.length):=by simpa using pm.toList
  have pl':pa.toList.length=its.length:=by rw [pm'.length_eq];simp
  refine KasFin.intro F' N' (UpdF.head fun q hq=>aP (low q hq)) fun h'' c F'' N''=>?_
  have KP:=Tc h'' _ F'' N'' (fun q hq=>aw _ hq);have neD:∀b o,s.heap.get? b=some o->b≠D:=fun b o z w=>by rw [w,sD] at z;cases z
  have hD:H D=none:=by
   cases z:H D with
   | none=>rfl
   | some u =>
    obtain ⟨ob,eo⟩:=Mb (I.dD D u z);rw [sD] at eo;cases eo
  refine ⟨.ref D,upd H D (.lst (pa.toList.map fun i=>vs.getD i .bX)),?_,rfl,q pa.toList (by rw [el];exact pm') (fun i j Jp hj=>?_) D hD⟩
  ·have mem:∀b u,H b=some u->b≠X.env.locals:=fun b u z w=>by rw [w,I.free] at z;cases z
   refine L2.Inv.step (s:=s) (h':=h'') (H':=upd H D (.lst (pa.toList.map fun i=>vs.getD i .bX))) I (g':=s.gens) (d':=s.drawn) (t':=s.toks) (ch:=[]) (fun _ z=>nomatch z) (fun b o hb _ _ eb _=>KP b o hb eb) (fun b o hb _ _ eb _=>⟨o.slots,KP b o hb eb⟩) (fun b o _ eb hn=>by rw [aF (neD b o eb)];exact hn)
    (fun b o _ eb=>?_) (fun b xs eb=>by rw [aF (cq eb hD)];exact eb) (fun b o u eb=>by rw [aF (cq eb hD)];exact eb) (fun b ps eb=>⟨#[],by rw [aF (cq eb hD),eb];simp⟩) (fun m' hm=>?_) (fun b u eb=>?_) I.bare
   ·by_cases hb:b=X.env.locals
    ·subst hb
     obtain ⟨o',_,_,ho',_⟩:=F''.ns;exact ⟨o',ho'⟩
    ·exact ⟨o,KP b o hb eb⟩
   ·have:m'=m:=funext fun x=>hm.agree F.ns x
    rw [this];exact F''.ns
   ·by_cases hb:b=D
    ·subst hb
     rw [aO] at eb;cases eb;refine ⟨by rw [List.length_map,pl',<-el];exact hz,pa.toList.map fun i=>its.getD i .none,c,?_,?_⟩
     ·have go:∀l:List Nat,(∀i∈l,i<its.length)->Vals (l.map fun i=>vs.getD i .bX) (l.map fun i=>its.getD i .none):=by
       intro l
       induction l with
       | nil=>intro _;exact .nil
       | cons x r ih =>
        intro hl;have hx:=hl x (aj ..);obtain ⟨u,hu,ru⟩:=rv.get (aI (show x<vs.length by omega));refine .cons ?_ (ih fun i hi=>hl i (aw _ hi));have e1:vs.getD x .bX=vs[x]'(by omega):=by rw [List.getD_eq_getElem?_getD,List.getElem?_eq_getElem (by omega)];rfl
        have e2:its.getD x .none=u:=by rw [List.getD_eq_getElem?_getD,hu];rfl
        show RelV (vs.getD x .bX) (its.getD x .none);rw [e1,e2];exact ru
      exact go _ fun i hi=>by have:=pm'.mem_iff.mp hi;simpa using this
     ·exact (N'' _ (aj ..)).1
    ·rw [aF hb] at eb
     refine (I.dD b u eb).rY (fun c v hc q=>KP c v ?_ q) (fun c q=>by rw [aF (cq q hD)];exact q) fun c xs q=>by rw [aF (cq q hD)];exact q
     rcases hc with z | z
     ·rw [z];exact mem b u eb
     ·exact mem c _ z
  ·have z:=so i j Jp (by omega)
   have g:∀k,pa.getD k 0=pa.toList.getD k 0:=fun k=>by rw [Array.getD_eq_getD_getElem?,List.getD_eq_getElem?_getD,Array.getElem?_toList]
   have lt:∀k,k<its.length->pa.toList.getD k 0<its.length:=fun k hk=>by
    rw [List.getD_eq_getElem?_getD,List.getElem?_eq_getElem (by omega)];have:=pm'.mem_iff.mp (List.getElem_mem (l:=pa.toList) (n:=k) (by omega))
    simpa using this
   have z':klt (if pa.getD j 0<its.length then ks.getD (pa.getD j 0) [] else ks.getD 0 []) (if pa.getD i 0<its.length then ks.getD (pa.getD i 0) [] else ks.getD 0 [])=false:=z;rw [g,g,if_pos (lt j (by omega)),if_pos (lt i (by omega))] at z';exact z'
def Ju (K:Frag):List V->Hp->VK->Prop:=fun xs H Q=>∃(p:Addr) (v:V),xs=[.ref p]/\kC K H p [v]/\∀l,H l=none->Q (.ref l) (upd H l (.lst [v]))
def Bb:fU X (.builtin "sorted") (Ju X.K):=by
 rintro pins s U H xs us Q I r ⟨p,v,rfl,hq,q⟩;obtain ⟨u,rfl,ru⟩:=r.one;cases ru;obtain ⟨its,rv,pl,hz⟩:=I.list hq;obtain ⟨u,rfl,ru⟩:=rv.one;refine Jr pl.isList ?_;obtain ⟨n,he⟩:=sortedAll_at s.heap [u] #[u];exact ⟨.ref _,_,I.laid (a:=s.heap.objs.size+1) (o:=.lst [v]) (t':=s.toks) (fun _ _=>sortedAll_old) (cf _) ⟨by show 1<=sizeLine;decide,[u],n,.cons ru .nil,he⟩,rfl,q _ (I.dD.fresh (cf _))⟩
theorem xN {K:Frag}{G:Hp}:∀{ws:List V}{ks:List Key},bP K G ws (ks.map dK)->ws=ks.map kV
 | [],[],.nil=>rfl
 | w::r,k::s,.cons h t=>by
  rw [List.map_cons,<-xN t];cases k with
  | inl i=>rw [show w=.int i from h.int_inv];rfl
  | inr x=>rw [show w=.str x from h.str_inv];rfl
def GX {K:Frag} (G H:Hp) (xs:List V) (ds:List D) (Q:D->Prop) (Q2:VK) (s:aX G H) (hd:bP K G xs ds) (h:sq ds Q)
  (k:∀(r:Addr) (vs:List V) (l:List D),H r=none->bP K G vs l->Q (.lst l)->Q2 (.ref r) (upd H r (.lst vs))):(Js K xs H Q2\/Ju K xs H Q2)\/Jg K xs H Q2:=by
 unfold sq at h
 split at h
 ·obtain ⟨ks,sh,rfl,QQ,nsh,yy,q⟩:=h
  obtain ⟨v,rfl,d1⟩:=wo hd;obtain ⟨a,vs,rfl,ha,la⟩:=d1.lst_inv;have ll:=la.length;rw [List.length_map] at ll
  match ks,la,ll,QQ,yy,q with
  | [],la,ll,QQ,yy,q =>
   cases la;refine .inr ⟨a,[],rfl,s.seq ha,by decide,fun ms p1 _ r hr=>?_⟩;rw [p1.eq_nil];exact k r [] [] hr .nil (q [] (.refl _) .nil)
  | [k0],la,ll,QQ,yy,q =>
   cases la with | cons x1 la =>
    cases la;refine .inl (.inr ⟨a,_,rfl,s.seq ha,fun r hr=>?_⟩);exact k r _ _ hr (.cons x1 .nil) (q [k0] (.refl _) (List.pairwise_singleton _ _))
  | k0::k1::kr,la,ll,QQ,yy,q =>
   refine .inl (.inl ⟨a,vs,k0::k1::kr,sh,rfl,s.seq ha,ll,QQ,nsh,fun i v hv=>?_,by rw [ll];simp,by omega,fun ps p1 p2 r hr=>?_⟩)
   ·obtain ⟨d,hd,hx⟩:=la.Cj hv
    rw [List.getElem?_map] at hd;cases w:(k0::k1::kr)[i]? with
    | none=>rw [w] at hd;cases hd
    | some kk =>
     rw [w] at hd;cases hd;obtain ⟨b,ws,rfl,hb,lb⟩:=Den.kQ hx;refine ⟨b,rfl,?_⟩;rw [List.getD_eq_getElem?_getD,w];rw [xN lb] at hb;exact aX.tupS s hb
   ·generalize hks:k0::k1::kr=ks at *
    have pm:(ps.map fun i=>ks.getD i []).Perm ks:=by
     have:=p1.map fun i=>ks.getD i []
     refine this.trans ?_;rw [ll];have e:(List.range ks.length).map (fun i=>ks.getD i [])=ks:=by
      apply List.ext_getElem?;intro i;rw [List.getElem?_map]
      by_cases z:i<ks.length
      ·rw [List.getElem?_range z,List.getElem?_eq_getElem z]
       simp only [Option.map_some,List.getD_eq_getElem?_getD,List.getElem?_eq_getElem z,Option.getD_some]
      ·rw [List.getElem?_eq_none (by simpa using z),List.getElem?_eq_none (by omega)];rfl
     rw [e]
    have so:(ps.map fun i=>ks.getD i []).Pairwise (fun a b=>klt b a=false):=by
     rw [List.pairwise_map,List.pairwise_iff_getElem];intro i j hi hj Jp;have pl:=p1.length_eq;rw [List.length_range] at pl;have:=p2 i j (by omega) (by omega);rw [List.getD_eq_getElem?_getD (l:=ps),List.getElem?_eq_getElem hj,List.getD_eq_getElem?_getD (l:=ps),List.getElem?_eq_getElem hi] at this;exact this
    have dl:∀l:List Nat,(∀i∈l,i<vs.length)->bP K G (l.map fun i=>vs.getD i .bX) ((l.map fun i=>ks.getD i []).map tD):=by
     intro l
     induction l with
     | nil=>intro _;exact .nil
     | cons x r ih =>
      intro hl;have hx:=hl x (aj ..);refine .cons ?_ (ih fun i hi=>hl i (aw _ hi));obtain ⟨d,hd,hy⟩:=la.Cj (aI hx);show Den K G (vs.getD x .bX) (tD (ks.getD x []));rw [List.getElem?_map,List.getElem?_eq_getElem (show x<ks.length by omega)] at hd;cases hd;have e1:vs.getD x .bX=vs[x]:=by rw [List.getD_eq_getElem?_getD,List.getElem?_eq_getElem hx];rfl
      have e2:ks.getD x []=ks[x]'(by omega):=by rw [List.getD_eq_getElem?_getD,List.getElem?_eq_getElem (by omega)];rfl
      rw [e1,e2];exact hy
    exact k r _ _ hr (dl ps fun i hi=>by have:=p1.mem_iff.mp hi;simpa using this) (q _ pm so)
 ·exact h.elim
def OF {K:Frag}:oS K (fun xs H Q=>(Js K xs H Q\/Ju K xs H Q)\/Jg K xs H Q) sq:=fun G H xs ds Q Q2 s hd h k =>
 GX G H xs ds Q Q2 s hd h fun r vs l hr dl q=>k _ _ _ _ (Ext.laid s hr _) (.lst (kC.of aO) (dl.up (bE (s.free hr) _))) q
def vv (hm:X.mg "sorted"=none) (ha:DA X (e::es) t) (hg:Gl X "sorted":=by rfl) (he:starEach (e::es) X.env=(false,eval e X.env)::starEach es X.env:=by rfl) (lL:(backTo pos (starEach es X.env)).any (·.1)=false:=by rfl):DE X (.Call (.Name "sorted" p) (e::es) [] pos) (bg sq t) :=
 mZ (fU.or (fU.or Ba Bb) AQ) OF hm (by rfl) ha hg (by decide) (by decide) he lL
end
end Dl
namespace Dl
open PySem PySem.Spec PyProof.Rows L2
noncomputable def WQ:Sl->Bool
 | .ob _ _ _=>true
 | .rc _ _=>true
 | .hb _ _ _=>true
 | _=>false
noncomputable def RH (a:Nat):Sl->Sl
 | .sh d=>.sh d
 | .ob _ C fs=>.ob (some a) C fs
 | .rc _ fs=>.rc (some a) fs
 | .hb b C fs=>.hb b C fs
 | _=>.no
noncomputable def nH (as:Nat->Nat):Nat->Ev->Ev
 | _,[]=>[]
 | i,s::r=>RH (as i) s::nH as (i+1) r
theorem Bc (as:Nat->Nat):∀(Z:Ev) (i k:Nat),(nH as i Z)[k]?=(Z[k]?).map (RH (as (i+k)))
 | [],i,k=>by simp [nH]
 | a::r,i,0=>by simp [nH]
 | a::r,i,k+1=>by simp only [nH,List.getElem?_cons_succ];rw [Bc as r (i+1) k];congr 2;congr 1;omega
theorem wB (as:Nat->Nat):∀(Z:Ev) (i:Nat),(nH as i Z).length=Z.length
 | [],i=>rfl
 | a::r,i=>by simp [nH,wB as r]
section
variable {K:Frag}{n:En}{Z:Ev}{U:L2.St}{G H:Hp}{D₀:Addr}{o:HO}
def Rel.UZ (R:Rel K n Z U G (del H D₀)) (hD:H D₀=some o) (k:Nat):∃(as:Nat->Nat) (M:Addr->Prop),Rel K ⟨G,H,M⟩ (nH as 0 Z++List.replicate k .no) (U++List.replicate k none) G H /\
  ∀(Z':Ev) (U':L2.St) (G' H':Hp),Rel K ⟨G,H,M⟩ Z' U' G' H'->Z'.take Z.length=nH as 0 Z->H' D₀=some o/\G' D₀=none/\aX G G'/\Rel K n Z U G' (del H' D₀):=by
 obtain ⟨ow,ok,gh⟩:=R.gh;have gD:G D₀=none:=R.sub.free eY;have WR:∀p k,ow p=some k->p≠D₀/\H p≠none:=fun p k hk=>by
  have h2:=(ok.is p k hk).2.1;have ne:p≠D₀:=fun z=>by subst z;exact h2 eY
  rw [eJ ne] at h2;exact ⟨ne,h2⟩
 let io:Nat->Bool:=fun i=>match Z[i]? with
  | some s=>WQ s
  | none=>false
 let as:Nat->Nat:=fun i=>match U[i]? with
  | some (some (.ref a))=>a
  | _=>0
 let M:Addr->Prop:=fun p=>∃i f,ow p=some (i,f)/\io i=true
 have nMD:¬M D₀:=fun ⟨i,f,h,_⟩=>(WR _ _ h).1 rfl
 refine ⟨as,M,⟨fun b u e=>?_,aX.refl _,fun b u e _=>e,fun b e=>e,fun b u e (e0:G b=none)=>(by rw [e0] at e;cases e),⟨fun p=>match ow p with
  | some (i,f)=>if io i=true then some (i,f) else none
  | none=>none,⟨fun p kk hk=>?_⟩,fun i s hs=>?_⟩,?_⟩,fun Z' U' G' H' R' hk=>?_⟩
 ·have z:=R.sub b u e
  have ne:b≠D₀:=fun w=>by subst w;rw [gD] at e;cases e
  rw [eJ ne] at z;exact z
 ·cases q:ow p with
  | none=>rw [q] at hk;cases hk
  | some jf =>
   have ⟨j,f⟩:=jf;rw [q] at hk;simp only at hk
   split at hk
   ·rename_i Cy
    exact ⟨(ok.is p _ q).1,(WR p _ q).2,.inr ⟨j,f,q,Cy⟩⟩
   ·cases hk
 ·by_cases hi:i<Z.length
  ·rw [List.getElem?_append_left (by rw [wB];exact hi),Bc,Nat.zero_add] at hs
   have hi':i<U.length:=by rw [<-R.len];exact hi
   rw [List.getElem?_append_left hi'];have qs:Z[i]?=some Z[i]:=aI hi;rw [qs] at hs;have h0:=gh i _ qs;generalize Z[i]=s0 at qs hs h0;have keep:io i=true->(∀p f,ow p=some (i,f)->(match ow p with | some (i,f)=>if io i=true then some (i,f) else none | none=>none)=some (i,f))/\∀p f o,ow p=some (i,f)->(del H D₀) p=some o->H p=some o:=fun Cy=>⟨fun p f z=>by simp only [z,Cy,if_true],fun p f o z e=>by rw [eJ (WR p _ z).1] at e;exact e⟩
   cases s0 with
   | sh d=>cases hs;exact h0
   | ob h C fs =>
    cases hs;have Cy:io i=true:=by show (match Z[i]? with | some s=>WQ s | none=>false)=true;rw [qs];rfl
    obtain ⟨k1,k2⟩:=keep Cy;have ⟨a,dx,bU,g1,g2,g3,g4,g5,g6,g7⟩:=h0;refine ⟨a,dx,bU,g1,fun a0 z=>?_,k2 _ _ _ g5 g3,k2 _ _ _ g6 g4,k1 _ _ g5,k1 _ _ g6,g7.keep (aX.refl _) k1 k2⟩;cases z;show a=(match U[i]? with | some (some (.ref a))=>a | _=>0);rw [g1]
   | rc h fs =>
    cases hs;have Cy:io i=true:=by show (match Z[i]? with | some s=>WQ s | none=>false)=true;rw [qs];rfl
    obtain ⟨k1,k2⟩:=keep Cy;have ⟨a,bU,g1,g2,g3,g5,g7⟩:=h0;refine ⟨a,bU,g1,fun a0 z=>?_,k2 _ _ _ g5 g3,k1 _ _ g5,g7.keep (aX.refl _) k1 k2⟩;cases z;show a=(match U[i]? with | some (some (.ref a))=>a | _=>0);rw [g1]
   | hb b C fs =>
    cases hs;have Cy:io i=true:=by show (match Z[i]? with | some s=>WQ s | none=>false)=true;rw [qs];rfl
    obtain ⟨k1,k2⟩:=keep Cy;have ⟨dx,bU,g3,g4,g5,g6,g7⟩:=h0;exact ⟨dx,bU,k2 _ _ _ g5 g3,k2 _ _ _ g6 g4,k1 _ _ g5,k1 _ _ g6,g7.keep (aX.refl _) k1 k2⟩
   | no=>cases hs;trivial
   | hd a z kvs=>cases hs;trivial
   | ow l=>cases hs;trivial
   | mu a l=>cases hs;trivial
   | pt a=>cases hs;trivial
  ·rw [List.getElem?_append_right (by rw [wB];omega),List.getElem?_replicate] at hs
   split at hs
   ·cases hs;trivial
   ·cases hs
 ·rw [List.length_append,List.length_append,List.length_replicate,List.length_replicate,wB,R.len]
 ·have hD':H' D₀=some o:=R'.eh D₀ o hD nMD
  have gD':G' D₀=none:=by
   cases q:G' D₀ with
   | none=>rfl
   | some u=>have z:=R'.fr D₀ u q gD;have z':H D₀=none:=z;rw [hD] at z';cases z'
  have sG:aX G G':=R'.eg;refine ⟨hD',gD',sG,?_⟩;obtain ⟨OG,X7,X8⟩:=R'.gh;have X9:∀p kk,OG p=some kk->p≠D₀:=fun p kk hp z=>by
   subst z;rcases (X7.is _ _ hp).2.2 with h | h
   ·have h':H p=none:=h;rw [hD] at h';cases h'
   ·exact nMD h
  have nal:∀p,H p=none->n.H p=none:=fun p hp=>R.al p (by
   by_cases z:p=D₀
   ·subst z;exact eY
   ·rw [eJ z];exact hp)
  have slot:∀i s,Z[i]?=some s->Z'[i]?=some (RH (as i) s):=fun i s hs=>by
   have hi:i<Z.length:=(aK.mp hs).1;have z:(Z'.take Z.length)[i]?=(nH as 0 Z)[i]?:=by rw [hk]
   rw [Bc,hs,Nat.zero_add,List.getElem?_take,if_pos hi] at z;exact z
  let WS:Ow:=fun p=>match OG p with
   | some (i,f)=>if io i=true then some (i,f) else none
   | none=>match ow p with
    | some (i,f)=>if io i=true then none else some (i,f)
    | none=>none
  have GY:∀i,io i=true->∀p f,OG p=some (i,f)->WS p=some (i,f):=fun i Cy p f z=>by
   show (match OG p with
   | some (i,f)=>if io i=true then some (i,f) else none
   | none=>match ow p with
    | some (i,f)=>if io i=true then none else some (i,f)
    | none=>none)=_
   simp only [z,Cy,if_true]
  have U0:∀i,io i=false->∀p f,ow p=some (i,f)->WS p=some (i,f)/\¬M p:=fun i Cy p f z=>by
   have nM:¬M p:=fun ⟨i',f',h,h'⟩=>by rw [z] at h;cases h;rw [Cy] at h';cases h'
   have q:OG p=none:=by
    cases q:OG p with
    | none=>rfl
    | some kf =>
     rcases (X7.is _ _ q).2.2 with h | h
     ·exact absurd h (WR p _ z).2
     ·exact absurd h nM
   refine ⟨?_,nM⟩;show (match OG p with
   | some (i,f)=>if io i=true then some (i,f) else none
   | none=>match ow p with
    | some (i,f)=>if io i=true then none else some (i,f)
    | none=>none)=_
   simp only [q,z,Cy,Bool.false_eq_true,if_false]
  have rY:∀p u,H p=some u->¬M p->H' p=some u:=fun p u e h=>R'.eh p u e h
  refine ⟨fun b u e=>?_,R.eg.trans sG,fun b u e m=>?_,fun b e=>?_,fun b u e e0=>?_,⟨WS,⟨fun p kk hp=>?_⟩,fun i s hs=>?_⟩,R.len⟩
  ·rw [eJ (cq e gD')];exact R'.sub b u e
  ·have z:=R.eh b u e m
   have ne:b≠D₀:=fun w=>by subst w;rw [eY] at z;cases z
   rw [eJ ne] at z ⊢;refine rY b u z fun ⟨i,f,h,_⟩=>?_
   rcases (ok.is b _ h).2.2 with w | w
   ·rw [w] at e;cases e
   ·exact m w
  ·by_cases z:b=D₀
   ·subst z;exact R.al _ eY
   ·rw [eJ z] at e;exact nal b (R'.al b e)
  ·cases q:G b with
   | none=>exact nal b (R'.fr b u e q)
   | some w=>exact R.fr b w q e0
  ·cases q:OG p with
   | some jf =>
    have ⟨j,f⟩:=jf;obtain ⟨h1,h2,h3⟩:=X7.is p _ q;refine ⟨h1,by rw [eJ (X9 p _ q)];exact h2,?_⟩;rcases h3 with h3 | ⟨i,f,h3,_⟩
    ·exact .inl (nal p h3)
    ·exact (ok.is p _ h3).2.2
   | none =>
    cases q2:ow p with
    | none =>
     have:WS p=none:=by
      show (match OG p with
      | some (i,f)=>if io i=true then some (i,f) else none
      | none=>match ow p with
       | some (i,f)=>if io i=true then none else some (i,f)
       | none=>none)=_
      simp only [q,q2]
     rw [this] at hp;cases hp
    | some jf =>
     have ⟨j,f⟩:=jf;cases Cy:io j with
     | true =>
      have:WS p=none:=by
       show (match OG p with
       | some (i,f)=>if io i=true then some (i,f) else none
       | none=>match ow p with
        | some (i,f)=>if io i=true then none else some (i,f)
        | none=>none)=_
       simp only [q,q2,Cy,if_true]
      rw [this] at hp;cases hp
     | false =>
      obtain ⟨_,nM⟩:=U0 j Cy p f q2;obtain ⟨h1,h2,h3⟩:=ok.is p _ q2;obtain ⟨n1,n2⟩:=WR p _ q2;refine ⟨?_,?_,h3⟩
      ·cases q3:G' p with
       | none=>rfl
       | some u=>exact absurd (R'.fr p u q3 h1) n2
      ·rw [eJ n1]
       cases q3:H p with
       | none=>exact absurd q3 n2
       | some u=>rw [rY p u q3 nM];exact fun z=>by cases z
  ·have h0:=gh i s hs
   have h1:=slot i s hs;have OH:io i=false->(∀p f,ow p=some (i,f)->WS p=some (i,f))/\∀p f u,ow p=some (i,f)->(del H D₀) p=some u->(del H' D₀) p=some u:=fun Cy=>⟨fun p f z=>(U0 i Cy p f z).1,fun p f u z e=>by
    rw [eJ (WR p _ z).1] at e ⊢;exact rY p u e (U0 i Cy p f z).2⟩
   have yC:io i=true->∀p f u,OG p=some (i,f)->H' p=some u->(del H' D₀) p=some u:=fun Cy p f u z e=>by rw [eJ (X9 p _ z)];exact e
   have io_of:io i=WQ s:=by show (match Z[i]? with | some s=>WQ s | none=>false)=_;rw [hs]
   cases s with
   | no=>trivial
   | sh d=>obtain ⟨v,g1,g2⟩:=h0;exact ⟨v,g1,g2.up sG⟩
   | pt a=>exact h0
   | ow l=>obtain ⟨a1,a2⟩:=OH io_of;exact FX.keep (s:=.ow l) sG a1 a2 h0
   | mu a l=>obtain ⟨a1,a2⟩:=OH io_of;exact FX.keep (s:=.mu a l) sG a1 a2 h0
   | hd a z kvs=>obtain ⟨a1,a2⟩:=OH io_of;exact FX.keep (s:=.hd a z kvs) sG a1 a2 h0
   | ob h C fs =>
    have ⟨a,dx,bU,g1,g2,_⟩:=h0;obtain ⟨a',dx',vfs',r1,r2,r3,r4,r5,r6,r7⟩:=X8 i _ h1;have ea:a'=a:=by
     rw [r2 _ rfl];show (match U[i]? with | some (some (.ref a))=>a | _=>0)=a;rw [g1]
    subst ea;exact ⟨a',dx',vfs',g1,g2,yC io_of _ _ _ r5 r3,yC io_of _ _ _ r6 r4,GY i io_of _ _ r5,GY i io_of _ _ r6,r7.keep (aX.refl _) (GY i io_of) (yC io_of)⟩
   | rc h fs =>
    have ⟨a,bU,g1,g2,_⟩:=h0;obtain ⟨a',vfs',r1,r2,r3,r5,r7⟩:=X8 i _ h1;have ea:a'=a:=by
     rw [r2 _ rfl];show (match U[i]? with | some (some (.ref a))=>a | _=>0)=a;rw [g1]
    subst ea;exact ⟨a',vfs',g1,g2,yC io_of _ _ _ r5 r3,GY i io_of _ _ r5,r7.keep (aX.refl _) (GY i io_of) (yC io_of)⟩
   | hb b C fs =>
    obtain ⟨dx',vfs',r3,r4,r5,r6,r7⟩:=X8 i _ h1;exact ⟨dx',vfs',yC io_of _ _ _ r5 r3,yC io_of _ _ _ r6 r4,GY i io_of _ _ r5,GY i io_of _ _ r6,r7.keep (aX.refl _) (GY i io_of) (yC io_of)⟩
end
def Bd (k:Nat) (ti:Er) (g:C9) (tt:qO) (te:fV):fV:=fun Z Q=>ti Z fun items Z1=>∃F:D->Option D,
 (∀d∈items,∀as:Nat->Nat,g d (nH as 0 Z1++List.replicate k .no) fun Z2=>tt Z2 fun b Z3=>if b=true then te Z3 fun y Z4=>Z4.take Z1.length=nH as 0 Z1/\F d=some y else Z3.take Z1.length=nH as 0 Z1/\F d=none) /\
  (items.filterMap F).length<=sizeLine/\Q (.lst (items.filterMap F)) Z1
structure RI (X:Cx) (N':List Str) (scope:Scope) (k:Nat):Prop where
 kd:scope.kind=.function
 KQ:∀y∈scope.names,y.2=.local->scope.names.lookup y.1=some .local
 nc:∀x,(x,NameKind.free)∈scope.names->(x,NameKind.cell)∉scope.names
 ln:N'.length=X.N.length+k
 XQ:∀(i:Nat) (x:Str),N'[i]?=some x->i<X.N.length->rX (relabel scope X.env) x->X.N[i]?=some x/\scope.names.lookup x=some .free/\X.env.scope.names.lookup x=some .cell
 fr:∀x∈scope.names,x.2=NameKind.free->X.env.scope.names.lookup x.1=some .cell
def KR {X:Cx}{N':List Str}{scope:Scope}{k:Nat} (ok:fg X.N X.env.scope N' scope k=true):RI X N' scope k:=by
 unfold fg at ok;simp only [Bool.and_eq_true,List.all_eq_true,Bool.or_eq_true,bne_iff_ne,ne_eq,beq_iff_eq] at ok;have ⟨⟨⟨⟨⟨h1,h2⟩,h30⟩,h4⟩,h5⟩,h6⟩:=ok;have h3:∀x,(x,NameKind.free)∈scope.names->(x,NameKind.cell)∉scope.names:=fun x hx hc=>by
  have z:=(h30 _ hx).resolve_left fun z=>z rfl
  have w:(scope.names.any fun z=>z.1==x&&z.2==.cell)=true:=List.any_eq_true.mpr ⟨_,hc,by simp⟩;rw [w] at z;cases z
 refine ⟨(by cases q:scope.kind <;> rw [q] at h1 <;> first | rfl | cases h1),(fun y hy hl=>(h2 y hy).resolve_left fun z=>z hl),h3,h4,(fun i x e hi hv=>?_),(fun x hx hf=>(h5 x hx).resolve_left fun z=>z hf)⟩;have h6':=h6 i (List.mem_range.mpr hi);rw [e] at h6';dsimp only at h6';have hv':∃kd,scope.names.lookup x=some kd/\(kd=.local\/kd=.cell\/kd=.free):=by
  have MX:(relabel scope X.env).names.lookup x=_:=jS;unfold rX at hv;rw [MX] at hv;cases q:scope.names.lookup x with
  | none=>rw [q] at hv;simp at hv
  | some kd =>
   refine ⟨kd,rfl,?_⟩;rw [q] at hv;cases kd <;> simp at hv ⊢
 have ⟨kd,hk,hkd⟩:=hv';rw [hk] at h6';rcases hkd with rfl | rfl | rfl
 ·simp at h6'
 ·simp at h6'
 ·have e1:X.N[i]?=some x:=by simpa using h6'
  exact ⟨e1,hk,(h5 _ (gY hk)).resolve_left fun z=>z rfl⟩
noncomputable abbrev Za:=List D->Ev->(D->Ev->Prop)->Prop
noncomputable def bT (k:Nat) (g:C9) (tt:qO) (te:fV) (o:Option D) (d:D) (Zi:Ev) (fit:Ev->Prop):Prop :=
 g d (Zi++List.replicate k .no) fun Z2=>tt Z2 fun b Z3=>if b=true then te Z3 fun y Z4=>fit Z4/\o=some y else fit Z3/\o=none
noncomputable def bG (k:Nat) (g:C9) (tt:qO) (te:fV):Za:=fun items Z1 Q=>∃F:D->Option D,
 (∀d∈items,bT k g tt te (F d) d (oj Z1) (fun _=>True)\/∀as:Nat->Nat,bT k g tt te (F d) d (nH as 0 Z1) fun Z4=>Z4.take Z1.length=nH as 0 Z1) /\
  (items.filterMap F).length<=sizeLine/\Q (.lst (items.filterMap F)) Z1
def Dv {X:Cx}{elt iter target:Expr}{ifs:List Expr}{scope:Scope}{pos:Pos}{N':List Str}{k:Nat}{ti:Er}{g:C9}{tt:qO}{te:fV}{B:Za} (hc:X.calm=true) (hi:DI X target iter ti)
  (hb:∀(cl:List (Str×Addr)) (C:Addr) (ex:List Addr) (s:Shared) (H:Hp),DG (cV X N' scope cl C ex s H) target g/\Q9 (cV X N' scope cl C ex s H) ifs tt/\DE (cV X N' scope cl C ex s H) elt te)
  (cp:RI X N' scope k) (hs:∀x,foldedSetIterable iter X.env x=pure x) (hB:∀l Z Q,B l Z Q->bG k g tt te l Z Q)
  {use:Option (Value->Sem Unit)}{Qf:Value->Shared->Prop}{pins:List (Addr×Obj)}{s:Shared}{U:L2.St}{H:Hp}{Q2:VK}{p:Pos} (I:Inv X pins U H s) (hq:lE X.K (fun Z Q=>ti Z fun l Z1=>B l Z1 Q) U H Q2)
  (fin:∀(D₀ C:Addr) (H':Hp) (s6:Shared),Inv X pins U H' s6->vZ X pins H' C->(∃m,s6.heap.Ns C m)->Q2 (.ref D₀) H'->compPost (model X.prog X.w) X.A X.xe use Qf (.ref D₀) C (.ok .next) s6) :
  wpAny (model X.prog X.w) X.A (comprehension (.ListComp elt [⟨target,iter,ifs,0⟩] scope pos) scope X.env p (newList []) false (eval iter X.env) use) Qf X.xe s:=by
 have ⟨n,Z,G,Q,R,h,kk⟩:=hq;obtain ⟨cl,Ya,IZ,Ja⟩:=Q7 (env:=X.env) (scope:=scope) (fun x hx hf=>I.ok.has x.1 (.inl (cp.fr x hx hf)));refine wpAny_comprehension_free (use:=use) rfl hs Ya cp.kd cp.KQ (aV (hi pins s U H _ I ⟨n,Z,G,_,R,h,fun J G' H' l Z' R' s' j' q'=>(show ∃G' l Z',Rel X.K n Z' U G' H'/\aX G G'/\Qp X.K G' J l/\bG k g tt te l Z' Q from ⟨G',l,Z',R',s',j',hB _ _ _ q'⟩)⟩)
  (fun xv s₁ h₁=>aV h₁ (fun SR s₂ h₂=>?_) fun _ _ z=>z) fun _ _ z=>z)
 obtain ⟨it,fp,tn,J,H2,rfl,I2,T,Ua,f2,G2,items,Z1,R2,sG2,j2,F,hF,hsz,hQ⟩:=h₂;refine aZ (Cs ?_);rw [AM];dsimp only;have hD:H2 s₂.heap.objs.size=none:=I2.fresh;have I3:Inv X pins U (upd H2 s₂.heap.objs.size (.lst [])) { s₂ with heap:=s₂.heap.push { cls:=.type "list",dict:=none,data:=.seq ([]:List Value).toArray } }:=I2.Xx (t':=s₂.toks) .nil (bw _);have R3:Rel X.K n Z1 U G2 (upd H2 s₂.heap.objs.size (.lst [])):=R2.other (R2.sub.free hD) (R2.al _ hD) (R2.II hD) _;have f3:∀b∈fp,vZ X pins (upd H2 s₂.heap.objs.size (.lst [])) b:=fun b hb=>by
  have lt : b<s₂.heap.objs.size:=by obtain ⟨o,ho,_⟩:=T.obj _ _ Ua b hb;exact az ho
  refine ⟨?_,(f2 b hb).2⟩;rw [aF (Nat.ne_of_lt lt)];exact (f2 b hb).1
 have fo3:∀b∈fp,b<(s₂.heap.push { cls:=.type "list",dict:=none,data:=.seq ([]:List Value).toArray }).objs.size:=fun b hb=>by
  obtain ⟨o,ho,_⟩:=T.obj _ _ Ua b hb;rw [Heap.size_push];exact cU (az ho)
 have up3:∀b o,s₂.heap.get? b=some o->(s₂.heap.push { cls:=.type "list",dict:=none,data:=.seq ([]:List Value).toArray }).get? b=some o:=fun b o e=>ai _ e
 generalize hH3:upd H2 s₂.heap.objs.size (.lst [])=H3 at I3 R3 f3;have hD3:H3 s₂.heap.objs.size=some (.lst []):=by rw [<-hH3];exact aO
 have gD3:G2 s₂.heap.objs.size=none:=R2.sub.free hD;have nD3:n.H s₂.heap.objs.size=none:=R2.al _ hD;have Yb:Rel X.K n Z1 U G2 (del H3 s₂.heap.objs.size):=by rw [<-hH3,Kn,NF hD];exact R2
 have kp3:aX H2 H3:=by rw [<-hH3];exact bE hD _
 generalize s₂.heap.objs.size=D₀ at hD hD3 gD3 nD3 Yb ⊢;have tn3:∀h',(∀b o,(s₂.heap.push { cls:=.type "list",dict:=none,data:=.seq ([]:List Value).toArray }).get? b=some o->h'.get? b=some o)->tn 0 h':=fun h' k'=>T.keep 0 _ _ Ua fun b _ o e=>k' b o (up3 b o e)
 have osz:({ s₂ with heap:=s₂.heap.push { cls:=.type "list",dict:=none,data:=.seq ([]:List Value).toArray } }:Shared).os=s₂.os:=rfl;generalize hs3:({ s₂ with heap:=s₂.heap.push { cls:=.type "list",dict:=none,data:=.seq ([]:List Value).toArray } }:Shared)=s₃ at I3;have eh3:s₃.heap=s₂.heap.push { cls:=.type "list",dict:=none,data:=.seq ([]:List Value).toArray }:=by rw [<-hs3]
 rw [<-eh3] at fo3 tn3 ⊢;have ow:=Q8 (h:=s₃.heap) cp.nc;have Yc:(pushCells (s₃.heap.push { cls:=.type "dict",data:=.dict #[] }) scope.names).Ns s₃.heap.objs.size fun _=>none:=(Heap.Ns.new s₃.heap (.type "dict")).keeps (pushCells_keeps _ _)
 have Zb:∀b o,s₃.heap.get? b=some o->(pushCells (s₃.heap.push { cls:=.type "dict",data:=.dict #[] }) scope.names).get? b=some o:=fun b o e=>pushCells_keeps _ _ b o (ai _ e)
 generalize cellsFrom (s₃.heap.objs.size+1) scope.names []=own at ow ⊢;generalize hh1:pushCells (s₃.heap.push { cls:=.type "dict",data:=.dict #[] }) scope.names=h₁ at ow Yc Zb ⊢;have es4:({ s₂ with heap:=h₁ }:Shared)={ s₃ with heap:=h₁,toks:=s₃.toks }:=by rw [<-hs3]
 have I4:Inv (cV X N' scope (own++cl) s₃.heap.objs.size fp s₃ H3) [] (U++List.replicate k none) H3 { s₃ with heap:=h₁,toks:=s₃.toks }:=N3 I3 cp.kd IZ Ja ow cp.ln cp.XQ f3 fo3 Yc Zb;have reset:∀{pins':List (Addr×Obj)}{U':L2.St}{H':Hp}{s':Shared},Inv (cV X N' scope (own++cl) s₃.heap.objs.size fp s₃ H3) pins' U' H' s'->Inv (cV X N' scope (own++cl) s₃.heap.objs.size fp s₃ H3) pins' (U++List.replicate k none) H' s' :=
  fun J'=>Jb I3 IZ Ja ow.free cp.ln cp.XQ J'
 generalize own++cl=cl at I4 reset ⊢;have Va:∀{H':Hp},(∀b∈fp,H' b=none)->∀b∈fp,vZ (cV X N' scope cl s₃.heap.objs.size fp s₃ H3) [] H' b:=fun hn b hb =>
  ⟨hn b hb,aP (fo3 b hb),I4.ok.Ak b hb,.inl hb,(I4.ok.Qi b hb).2,fun p hp=>absurd (show p∈([]:List (Addr×Obj)) from hp) (by simp)⟩
 obtain ⟨hG,hT,hE⟩:=hb cl s₃.heap.objs.size fp s₃ H3;have loop:∀s₄:Shared,s₄={ s₃ with heap:=h₁,toks:=s₃.toks } ->
   codeAny (model X.prog X.w) X.A (.compLoop (.ListComp elt [⟨target,iter,ifs,0⟩] scope pos) 0 (.ref it) (.ref D₀) (compEnvC scope cl s₃.heap.objs.size X.env)) (compPost (model X.prog X.w) X.A X.xe use Qf (.ref D₀) s₃.heap.objs.size) s₄:=by
  rintro s₄ rfl;refine ED (fun m s=>∃(i:Nat) (H:Hp) (G:Hp) (ws:List V),i<=items.length/\m=items.length-i/\Inv (cV X N' scope cl s₃.heap.objs.size fp s₃ H3) [] (U++List.replicate k none) H s/\tn i s.heap/\(∀b∈fp,H b=none) /\
   Rel X.K n Z1 U G (del H D₀)/\aX G2 G/\H D₀=some (.lst ws)/\G D₀=none/\bP X.K G ws ((items.take i).filterMap F)) ?_ items.length
   ⟨0,H3,G2,[],bw _,rfl,I4,tn3 _ Zb,fun b hb=>(f3 b hb).1,Yb,aX.refl _,hD3,gD3,.nil⟩
  rintro m s5 ⟨i,H5,G5,ws,hi,rfl,I5,WI,Y2,R5',WT,WU,Zc,Yd⟩;have R5:=R5'.XC WU
  by_cases Qq:i<items.length
  ·refine gy (T.item (cV X N' scope cl s₃.heap.objs.size fp s₃ H3) rfl rfl rfl hc i [] s5 _ H5 _ I5 (Va Y2) WI (j2.go i G5 H5 WT R5.sub Qq)) fun r s6 ⟨u,hr,h6⟩=>?_
   subst hr;refine gy h6 fun _ s7 ⟨x,H7,I7,rx,y7,st7,fr7⟩=>?_
   obtain ⟨G7,d,e7,hd,dx⟩:=j2.yl i G5 H5 x H7 WT R5.sub Qq y7;have gD7:G7 D₀=none:=by
    cases q:G7 D₀ with
    | none=>rfl
    | some o=>have z:=e7.fr D₀ o q Zc;rw [WU] at z;cases z
   obtain ⟨n',Zi,fit,Rin,back,hfd⟩ : ∃(n' : En) (Zi : Ev) (fit : Ev->Prop),Rel X.K n' (Zi++List.replicate k .no) (U++List.replicate k none) G7 H7/\(∀(Z' : Ev) (U' : L2.St) (G' H' : Hp),Rel X.K n' Z' U' G' H'->fit Z'->H' D₀=some (.lst ws)/\G' D₀=none/\aX G7 G'/\Rel X.K n Z1 U G' (del H' D₀))/\bT k g tt te (F d) d Zi fit:=by
    rcases hF d (bf hd) with h | h
    ·refine ⟨_,_,_,(R5.ext e7).inner k,fun Z' U' G' H' R' _=>?_,h⟩
     have e9:=R'.Kp;have gn:G' D₀=none:=by
      cases q:G' D₀ with
      | none=>rfl
      | some o=>have z:=(e7.trans e9).fr D₀ o q Zc;rw [WU] at z;cases z
     exact ⟨e9.hh _ _ (e7.hh _ _ WU),gn,e9.gg,R5'.ext ((e7.trans e9).del gn)⟩
    ·obtain ⟨as,M,r1,r2⟩:=(R5'.ext (e7.del gD7)).UZ (e7.hh _ _ WU) k
     exact ⟨_,_,_,r1,r2,h as⟩
   have I7':=I7.pinned (Va fr7) (T.obj _ _ st7);have keep:∀{U':L2.St}{H':Hp}{s':Shared},Inv (cV X N' scope cl s₃.heap.objs.size fp s₃ H3) ([]++Ap fp s7.heap) U' H' s'->tn (i+1) s'.heap/\(∀b∈fp,H' b=none)/\Inv (cV X N' scope cl s₃.heap.objs.size fp s₃ H3) [] (U++List.replicate k none) H' s':=fun {U' H' s'} J'=>by
    refine ⟨T.keep _ _ _ st7 fun b hb o e=>(J'.pin (b,o) (aN _ (aN _ (pJ hb e)))).1,fun b hb=>?_,reset J'.v5⟩;obtain ⟨o,e,_⟩:=T.obj _ _ st7 b hb;exact (J'.pin (b,o) (aN _ (aN _ (pJ hb e)))).2.1
   refine gy (hG _ s7 _ H7 x u (fun U8 H8=>H8=H7/\∃Z8,Rel X.K n' Z8 U8 G7 H7/\tt Z8 fun b Z3=>if b=true then te Z3 fun y Z4=>fit Z4/\F d=some y else fit Z3/\F d=none) I7' rx
    ⟨_,_,G7,d,_,Rin,dx,hfd,fun Z8 U8 R8 q8=>⟨rfl,Z8,R8,q8⟩⟩) fun _ s8 ⟨U8,H8,I8,e8,Z8,R8,q8⟩=>?_
   subst e8;refine gy (hT _ s8 U8 _ (fun b H9=>∃G9 Z9,Rel X.K n' Z9 U8 G9 H9/\if b=true then te Z9 fun y Z4=>fit Z4/\F d=some y else fit Z9/\F d=none) I8 ⟨_,Z8,G7,_,R8,q8,fun b G9 H9 Z9 R9 _ q9=>⟨G9,Z9,R9,q9⟩⟩) fun ok s9 ⟨H9,I9,G9,Z9,R9,q9⟩=>?_
   cases ok with
   | false =>
    rw [if_neg Bool.false_ne_true] at q9 ⊢;obtain ⟨k1,k2,k3⟩:=keep I9;obtain ⟨w1,w2,w3,w4⟩:=back Z9 U8 G9 H9 R9 q9.1;refine ⟨items.length-(i+1),by omega,i+1,H9,G9,ws,Qq,rfl,k3,k1,k2,w4,WT.trans (e7.gg.trans w3),w1,w2,?_⟩;rw [EE F items i d hd,q9.2]
    simpa using Yd.up (e7.gg.trans w3)
   | true =>
    rw [if_pos rfl] at q9 ⊢;refine gy (hE _ s9 U8 H9 (fun v WV=>∃Vb y,(∃WW,Rel X.K n' WW U8 Vb WV/\fit WW)/\Den X.K Vb v y/\F d=some y) I9 ⟨_,Z9,G9,_,R9,q9,fun v Vb WV y WW R10 _ d10 q10=>⟨Vb,y,⟨WW,R10,q10.1⟩,d10,q10.2⟩⟩) fun xv Cz ⟨v,WV,I10,rv,Vb,y,⟨WW,R10,hk10⟩,dv,hy⟩=>?_
    obtain ⟨hD10,w2,w3,w4⟩:=back WW U8 Vb WV R10 hk10;have lenw:ws.length<sizeLine:=by
     have l1:=XR F items (i+1);rw [EE F items i d hd,hy,List.length_append] at l1;have l2:=Yd.length;simp only [Option.toList_some,List.length_singleton] at l1;omega
    refine gy (C6 (X:=cV X N' scope cl s₃.heap.objs.size fp s₃ H3) _ Cz U8 WV (.ref D₀) [v] (.ref D₀) [xv] (fun _ H'=>H'=upd WV D₀ (.lst (ws++[v]))) I10 rfl (.cons rv .nil) ⟨D₀,ws,v,rfl,rfl,hD10,lenw,rfl⟩) fun _ uU ⟨_,H11,I11,_,e11⟩=>?_
    subst e11;obtain ⟨k1,k2,k3⟩:=keep I11;refine ⟨items.length-(i+1),by omega,i+1,_,Vb,ws++[v],Qq,rfl,k3,k1,k2,(by rw [Kn];exact w4),WT.trans (e7.gg.trans w3),aO,w2,?_⟩;rw [EE F items i d hd,hy];exact (Yd.up (e7.gg.trans w3)).append (.cons dv .nil)
  ·have ei:i=items.length:=by omega
   subst ei;refine gy (T.done (cV X N' scope cl s₃.heap.objs.size fp s₃ H3) rfl rfl rfl hc _ [] s5 _ H5 _ I5 (Va Y2) WI (j2.st _ G5 H5 WT R5.sub (ao _))) fun r s6 ⟨hr,I6⟩=>?_
   subst hr;obtain ⟨m,hm,_⟩:=I6.loc;have Iin:Inv X pins U H5 s6:=I3.call' (s':=s6) (ch:=fp) I6.os (show Un (oM X.stack) fp H3 H5 s₃.heap s6.heap from I6.base) I6.dD I6.bare fun b hb=>⟨(f3 b hb).2.2.2.1,(f3 b hb).2.1,(f3 b hb).2.2.2.2.1,(f3 b hb).2.2.2.2.2⟩
   rw [List.take_length] at Yd;exact fin D₀ s₃.heap.objs.size H5 s6 Iin (I3.Nh (ao _) I6.free) ⟨m,hm⟩ (kk _ _ _ _ Z1 (R5'.know WU) (sG2.trans (WT.trans (bE Zc _))) (.lst (kC.of aO) (Yd.up (bE Zc _))) hQ)
 rw [es4];exact codeAny_compStart_list (loop _ rfl) (T.self _ 0 _ _ _ (tn3 _ Zb) (loop _ rfl))
def GZ {X:Cx}{elt iter target:Expr}{ifs:List Expr}{scope:Scope}{pos:Pos}{N':List Str}{k:Nat}{ti:Er}{g:C9}{tt:qO}{te:fV}{B:Za} (hc:X.calm=true) (hi:DI X target iter ti)
  (hb:∀(cl:List (Str×Addr)) (C:Addr) (ex:List Addr) (s:Shared) (H:Hp),DG (cV X N' scope cl C ex s H) target g/\Q9 (cV X N' scope cl C ex s H) ifs tt/\DE (cV X N' scope cl C ex s H) elt te)
  (cp:RI X N' scope k) (hs:∀x,foldedSetIterable iter X.env x=pure x) (hB:∀l Z Q,B l Z Q->bG k g tt te l Z Q):DE X (.ListComp elt [⟨target,iter,ifs,0⟩] scope pos) (fun Z Q=>ti Z fun l Z1=>B l Z1 Q):=by
 rintro pins s U H Q2 I q;rw [eval_ListComp];exact Dv hc hi hb cp hs hB (use:=none) I q fun D₀ C H' s6 I6 f ⟨m,hm⟩ q6=>⟨m,hm,fun h' hs'=>⟨.ref D₀,H',GB I6 f hs',rfl,q6⟩⟩
def G0 {X:Cx}{elt iter target:Expr}{ifs:List Expr}{scope:Scope}{pos:Pos}{N':List Str}{k:Nat}{ti:Er}{g:C9}{tt:qO}{te:fV}{B:Za} (hc:X.calm=true) (hi:DI X target iter ti)
  (hb:∀(cl:List (Str×Addr)) (C:Addr) (ex:List Addr) (s:Shared) (H:Hp),DG (cV X N' scope cl C ex s H) target g/\Q9 (cV X N' scope cl C ex s H) ifs tt/\DE (cV X N' scope cl C ex s H) elt te)
  (cp:RI X N' scope k) (hs:∀x,foldedSetIterable iter X.env x=pure x) (hB:∀l Z Q,B l Z Q->bG k g tt te l Z Q) (i:Nat) {x:Str}{pos' Be:Pos} (WX:X.N.Nodup) (Ye:X.N[i]?=some x) (hx:Loc X.env.scope x)
  (Yf:swapsWith (.ListComp elt [⟨target,iter,ifs,0⟩] scope pos) (some (.Name x pos')) Be.line X.env=pure true) (hf:X.fn x=true\/X.env.scope.names.lookup x=some .local) :
  DS X (.Assign [.Name x pos'] (.ListComp elt [⟨target,iter,ifs,0⟩] scope pos) Be) (dH i (fun Z Q=>ti Z fun l Z1=>B l Z1 Q)):=by
 rintro pins s U H F I ⟨n,Z,G,E,R,h,kk⟩;rw [exec_Assign_Name_used _ _ _ _ Yf];refine aa (wpAny_standAt (aa ?_));show wpAny _ X.A (do let _ <-comprehension (.ListComp elt [⟨target,iter,ifs,0⟩] scope pos) scope X.env _ (newList []) false (eval iter X.env) (some (assign (.Name x pos') X.env))) _ _ s;refine aa (aV (Dv hc hi hb cp hs hB (use:=some (assign (.Name x pos') X.env)) (Qf:=fun _ s'=>SP X pins F .next s') (Q2:=fun v H'=>F.nx (U.set i (some v)) H') I
  ⟨n,Z,G,_,R,h,fun v G1 H1 d Z1 R1 s1 d1 h1=>kk.nx _ _ G1 H1 (R1.set i d1) h1⟩ fun D₀ C H' s6 I6 f hm q6=>?_) (fun _ s' hq=>ag (ag hq)) fun _ _ e=>e)
 obtain ⟨m,hm⟩:=hm;refine wpAny_assign_Name (CY (v:=.ref D₀) I6 WX Ye hx rfl (fun s7 I7 ⟨a,sb,ha⟩=>⟨m,hm.sameBut sb ?_,fun h' hs'=>⟨_,H',GB I7 f hs',q6⟩⟩) hf);rcases ha with rfl | ha
 ·exact f.2.1
 ·exact Ne.symm (f.2.2.2.2.1 x a ha)
def Yg {k:Nat}{g:C9}{tt:qO}{te:fV} (l:List D) (Z:Ev) (Q:D->Ev->Prop) (h:∃F:D->Option D,(∀d∈l,g d (oj Z++List.replicate k .no) fun Z2=>tt Z2 fun b Z3=>if b=true then te Z3 fun y _=>F d=some y else F d=none)/\(l.filterMap F).length<=sizeLine/\Q (.lst (l.filterMap F)) Z):bG k g tt te l Z Q:=by
 have ⟨F,a,b,c⟩:=h;exact ⟨F,fun d hd=>.inl (by unfold bT;simpa only [true_and] using a d hd),b,c⟩
def Yh {k:Nat}{g:C9}{tt:qO}{te:fV} (l:List D) (Z:Ev) (Q:D->Ev->Prop) (h:∃F:D->Option D,(∀d∈l,∀as:Nat->Nat,g d (nH as 0 Z++List.replicate k .no) fun Z2=>tt Z2 fun b Z3=>if b=true then te Z3 fun y Z4=>Z4.take Z.length=nH as 0 Z/\F d=some y else Z3.take Z.length=nH as 0 Z/\F d=none)/\(l.filterMap F).length<=sizeLine/\Q (.lst (l.filterMap F)) Z):bG k g tt te l Z Q:=by
 have ⟨F,a,b,c⟩:=h;exact ⟨F,fun d hd=>.inr (a d hd),b,c⟩
section
variable {X:Cx}{elt iter target:Expr}{ifs:List Expr}{scope:Scope}{pos:Pos} (N':List Str) (k:Nat) {ti:Er}{g:C9}{tt:qO}{te:fV}
def jW (hc:X.calm=true) (hi:DI X target iter ti)
  (hb:∀(cl:List (Str×Addr)) (C:Addr) (ex:List Addr) (s:Shared) (H:Hp),DG (cV X N' scope cl C ex s H) target g/\Q9 (cV X N' scope cl C ex s H) ifs tt/\DE (cV X N' scope cl C ex s H) elt te)
  (ok:fg X.N X.env.scope N' scope k=true) (hs:∀x,foldedSetIterable iter X.env x=pure x:=by intro _;rfl):DE X (.ListComp elt [⟨target,iter,ifs,0⟩] scope pos) (iF k ti g tt te):=GZ hc hi hb (KR ok) hs Yg
def m5 (i:Nat) (hc:X.calm=true) (hi:DI X target iter ti)
  (hb:∀(cl:List (Str×Addr)) (C:Addr) (ex:List Addr) (s:Shared) (H:Hp),DG (cV X N' scope cl C ex s H) target g/\Q9 (cV X N' scope cl C ex s H) ifs tt/\DE (cV X N' scope cl C ex s H) elt te)
  (ok:fg X.N X.env.scope N' scope k=true) (hs:∀x,foldedSetIterable iter X.env x=pure x:=by intro _;rfl) {x:Str}{pos' Be:Pos} (WX:X.N.Nodup) (Ye:X.N[i]?=some x:=by rfl) (hx:Loc X.env.scope x:=by first | exact Or.inl rfl | exact Or.inr rfl)
  (Yf:swapsWith (.ListComp elt [⟨target,iter,ifs,0⟩] scope pos) (some (.Name x pos')) Be.line X.env=pure true:=by rfl) (hf:X.fn x=true\/X.env.scope.names.lookup x=some .local:=by first | exact .inl rfl | exact .inr rfl | assumption) :
  DS X (.Assign [.Name x pos'] (.ListComp elt [⟨target,iter,ifs,0⟩] scope pos) Be) (dH i (iF k ti g tt te)):=G0 hc hi hb (KR ok) hs Yg i WX Ye hx Yf hf
def Mc (hc:X.calm=true) (hi:DI X target iter ti)
  (hb:∀(cl:List (Str×Addr)) (C:Addr) (ex:List Addr) (s:Shared) (H:Hp),DG (cV X N' scope cl C ex s H) target g/\Q9 (cV X N' scope cl C ex s H) ifs tt/\DE (cV X N' scope cl C ex s H) elt te)
  (ok:fg X.N X.env.scope N' scope k=true) (hs:∀x,foldedSetIterable iter X.env x=pure x:=by intro _;rfl):DE X (.ListComp elt [⟨target,iter,ifs,0⟩] scope pos) (Bd k ti g tt te):=GZ hc hi hb (KR ok) hs Yh
def Md (i:Nat) (hc:X.calm=true) (hi:DI X target iter ti)
  (hb:∀(cl:List (Str×Addr)) (C:Addr) (ex:List Addr) (s:Shared) (H:Hp),DG (cV X N' scope cl C ex s H) target g/\Q9 (cV X N' scope cl C ex s H) ifs tt/\DE (cV X N' scope cl C ex s H) elt te)
  (ok:fg X.N X.env.scope N' scope k=true) (hs:∀x,foldedSetIterable iter X.env x=pure x:=by intro _;rfl) {x:Str}{pos' Be:Pos} (WX:X.N.Nodup) (Ye:X.N[i]?=some x:=by rfl) (hx:Loc X.env.scope x:=by first | exact Or.inl rfl | exact Or.inr rfl)
  (Yf:swapsWith (.ListComp elt [⟨target,iter,ifs,0⟩] scope pos) (some (.Name x pos')) Be.line X.env=pure true:=by rfl) (hf:X.fn x=true\/X.env.scope.names.lookup x=some .local:=by first | exact .inl rfl | exact .inr rfl | assumption) :
  DS X (.Assign [.Name x pos'] (.ListComp elt [⟨target,iter,ifs,0⟩] scope pos) Be) (dH i (Bd k ti g tt te)):=G0 hc hi hb (KR ok) hs Yh i WX Ye hx Yf hf
end
section
variable {X:Cx}{e:Expr}{es:List Expr}{t:qN}{p pos:Pos}
def Td (K:Frag):List V->Hp->VK->Prop:=fun xs H Q=>∃(p:Addr) (ns:List Int),xs=[.ref p]/\kC K H p (ns.map V.int)/\ns≠[]/\∀m:Int,m∈ns->(∀x∈ns,m<=x)->Q (.int m) H
def Me (hc:X.calm=true):fU X (.builtin "min") (Td X.K):=by
 rintro pins s U H xs us Q I r ⟨p,ns,rfl,hq,FY,q⟩;obtain ⟨u,rfl,ru⟩:=r.one;cases ru;obtain ⟨its,rv,pl,hz⟩:=I.list hq;have hi:=intsAre_of rv;obtain ⟨ys,ey⟩:=hi.allInts.items;have e0:numsOf its.toArray.toList=ns:=hi.numsOf;have el:=rv.length;rw [List.length_map] at el;have l1:(intItems ys).size=ns.length:=by rw [<-ey,List.size_toArray,el]
 have l2:ys.size=ns.length:=by simpa [intItems] using l1
 have lp:0<ns.length:=List.length_pos_iff.mpr FY;rw [ey,nums_intItems] at e0;refine min_intList (I.ok.hd hc) (ey▸pl.isList) (by omega) fun v h' tk hv hk=>?_
 obtain ⟨t,rfl⟩:=intItems_at hv;obtain ⟨h1,h2⟩:=argBest_lt (numAt ys) (ys.size-1);refine ⟨.int _,H,I.kept (t':=tk) hk,⟨t,rfl⟩,q _ ?_ fun x hx=>?_⟩
 ·rw [<-e0,numAt_eq];exact getD_mem (by rw [List.length_map,Array.length_toList];omega)
 ·rw [<-e0] at hx
  obtain ⟨j,hj,rfl⟩:=mem_getD hx;rw [List.length_map,Array.length_toList] at hj;rw [<-numAt_eq];exact h2 j (by omega)
def RJ {K:Frag}:oS K (Td K) GC:=fun G H xs ds Q Q2 s hd h k=>by
 unfold GC at h
 split at h
 ·obtain ⟨l,e0,ns,e,FY,yy,q⟩:=h
  obtain ⟨v,rfl,d1⟩:=wo hd;unfold EI at e0
  split at e0
  ·cases e0
   obtain ⟨a,vs,rfl,ha,la⟩:=d1.lst_inv;rw [vp e] at la;have ev:vs=ns.map V.int:=bP.AO la;subst ev;exact ⟨a,ns,rfl,s.seq ha,FY,fun m p1 p2=>k _ G H _ (Ext.refl s) (.int _) (q m p1 p2)⟩
  ·cases e0
 ·exact h.elim
def RK (hc:X.calm=true) (hm:X.mg "min"=none) (ha:DA X (e::es) t) (hg:Gl X "min":=by rfl) (he:starEach (e::es) X.env=(false,eval e X.env)::starEach es X.env:=by rfl) (lL:(backTo pos (starEach es X.env)).any (·.1)=false:=by rfl):DE X (.Call (.Name "min" p) (e::es) [] pos) (bg GC t) :=
 mZ (Me hc) RJ hm (by rfl) ha hg (by decide) (by decide) he lL
end
end Dl
namespace Dl
open PySem L2
end Dl
namespace Dl
open PySem PySem.Spec PyProof.Rows L2
section
variable {X:Cx}{b:Expr}{tb:fV}{pos:Pos}
end
section
variable {X:Cx}{a b c:Expr}{pos:Pos}
end
section
variable {X:Cx}{a:Expr}{ta:fV}{p pos p2 cp:Pos}{j:Nat}
end
section
variable {prog:Program}{w:World}{A:Around}{E:Value->Shared->Prop}
end
section
variable {X:Cx}{pos:Pos}
end
section
variable {X:Cx}{e o:Expr}{es:List Expr}{t:qN}{ta tb:fV}{p pos:Pos}
end
def Il (ms:List Str):Prop:=ms.Pairwise fun a b=>¬b.cps.toList<a.cps.toList
theorem KU:∀(l:List Str) (p:Str),risingS p l=true->Il (p::l)
 | [],p,_=>List.pairwise_singleton _ _
 | x::r,p,h=>by
  have h:(!ltCps x.cps.toList p.cps.toList&&risingS x r)=true:=h;rw [Bool.and_eq_true,ltCps_eq] at h;have h1:¬x.cps.toList<p.cps.toList:=by simpa using h.1
  have ih:=KU r x h.2;refine aW.mpr ⟨fun y hy=>?_,ih⟩;rcases aE.mp hy with rfl | hy
  ·exact h1
  ·have h2:=(aW.mp ih).1 y hy
   exact List.le_trans (l₁:=p.cps.toList) (l₂:=x.cps.toList) h1 h2
theorem Te:∀{l:List Str},sortedS l=true->Il l
 | [],_=>.nil
 | x::r,h=>KU r x h
def wC:RC:=fun ds Q=>match ds with
 | [.lst l]=>∃ts:List Str,l=ts.map .str/\ts.length<64/\∀ms:List Str,ms.Perm ts->Il ms->Q (.lst (ms.map .str))
 | _=>False
theorem G4:∀{ss:List Str}{us:List Value},Vals (ss.map V.str) us->StrsAre us ss
 | [],_,.nil=>.nil
 | x::r,_,.cons h t=>by obtain ⟨k,rfl⟩:=h;exact .cons x k (G4 t)
theorem vw:∀{us:List Value}{ss:List Str},StrsAre us ss->Vals (ss.map V.str) us
 | _,_,.nil=>.nil
 | _,_,.cons n t h=>.cons ⟨t,rfl⟩ (vw h)
theorem bP.Tf {K:Frag}{G:Hp}:∀{vs:List V}{ss:List Str},bP K G vs (ss.map D.str)->vs=ss.map V.str
 | _,[],.nil=>rfl
 | _,x::r,.cons h t=>by cases h.str_inv;rw [bP.Tf t];rfl
theorem bP.KW {K:Frag}{G:Hp}:∀ss:List Str,bP K G (ss.map V.str) (ss.map D.str)
 | []=>.nil
 | x::r=>.cons (.str x) (bP.KW r)
section
variable {X:Cx}{e:Expr}{es:List Expr}{t:qN}{p pos:Pos}
def KY (K:Frag):List V->Hp->VK->Prop:=fun xs H Q=>∃(p:Addr) (ts:List Str),xs=[.ref p]/\kC K H p (ts.map V.str)/\ts.length<64 /\
 ∀ms:List Str,ms.Perm ts->Il ms->∀l,H l=none->Q (.ref l) (upd H l (.lst (ms.map V.str)))
def G6:fU X (.builtin "sorted") (KY X.K):=by
 rintro pins s U H xs us Q I r ⟨p,ts,rfl,hq,yy,q⟩;obtain ⟨u,rfl,ru⟩:=r.one;cases ru;obtain ⟨its,rv,pl,hz⟩:=I.list hq;have hi:=G4 rv;have el:=rv.length;rw [List.length_map] at el;refine sorted_strs pl.isList hi (by omega) fun out ms a1 a2 a3=>?_
 obtain ⟨n,he⟩:=sortedAll_at s.heap its out;have lm:=a2.length_eq;refine ⟨.ref _,_,I.laid (a:=s.heap.objs.size+1) (o:=.lst (ms.map V.str)) (t':=s.toks) (fun _ _=>sortedAll_old) (cf _) ⟨?_,out.toList,n,vw a1,?_⟩,rfl,q ms a2 (Te a3) _ (I.dD.fresh (cf _))⟩
 ·rw [List.length_map,lm]
  exact ay (show ts.length<=64 by omega) (by decide)
 ·rw [he]
def Mf {K:Frag}:oS K (KY K) wC:=fun G H xs ds Q Q2 s hd h k=>by
 unfold wC at h
 split at h
 ·obtain ⟨ts,rfl,yy,q⟩:=h
  obtain ⟨v,rfl,d1⟩:=wo hd;obtain ⟨a,vs,rfl,ha,la⟩:=d1.lst_inv;rw [bP.Tf la] at ha;exact ⟨a,ts,rfl,s.seq ha,yy,fun ms p1 p2 r hr=>k _ _ _ _ (Ext.laid s hr _) (.lst (kC.of aO) ((bP.KW ms).up (bE (s.free hr) _))) (q ms p1 p2)⟩
 ·exact h.elim
def G8 (hm:X.mg "sorted"=none) (ha:DA X (e::es) t) (hg:Gl X "sorted":=by rfl) (he:starEach (e::es) X.env=(false,eval e X.env)::starEach es X.env:=by rfl) (lL:(backTo pos (starEach es X.env)).any (·.1)=false:=by rfl):DE X (.Call (.Name "sorted" p) (e::es) [] pos) (bg wC t) :=
 mZ G6 Mf hm (by rfl) ha hg (by decide) (by decide) he lL
end
section
variable {X:Cx}{a b:Expr}{ta tb:fV}{ap cp:Pos}
end
section
variable {prog:Program}{w:World}{A:Around}{E:Value->Shared->Prop}{s:Shared}{KK:Type} [DecidableEq KK] {knd:PySem.KeyKind prog w KK}
def EZ {d:Addr}{kvs:List (KK×Value)}{ep:Nat}{Q:List Value->Shared->Prop} (hh:A.handled=none) (lo:(d==sysModules)=false) (hm:s.heap.DictAt knd d kvs ep) (hn:kvs.length<=sizeLine)
  (hQ:∀h' tk (vals:List Value),(∀b o,s.heap.get? b=some o->h'.get? b=some o)->vals.length=kvs.length->(∀(j:Nat) (v:Value),vals[j]?=some v->∃(k:KK) (x:Value),kvs[j]?=some (k,x)/\knd.is k v=true)->s.heap.objs.size<h'.objs.size->Q vals { s with heap:=h',toks:=tk }) :
  wpAny (model prog w) A (collect (.ref d)) Q E s:=by
 have lt:=hm.lt_size;unfold collect;refine aa (wpAny_runValue (bN PySem.F.entry_proto_collect ?_));rw [Around.under_plainId PySem.F.plain_proto_collect _];show wpAny _ A.in1 (newList [] >>= fun l'=>again (.builtin "list.__iadd__" ⟨[l',.ref d],[]⟩)) _ _ s;refine aa (aZ (ag ⟨de PySem.F.plain_list_iadd _,bN PySem.F.entry_list_iadd ?_⟩));rw [Around.under_plainId PySem.F.plain_list_iadd _];show wpAny _ A.in1 (Builtin.List.listExtendWith (.ref s.heap.objs.size) (.ref d) (.ref s.heap.objs.size)) _ _ _;have g0:(s.heap.push { cls:=.type "list",data:=.seq ([]:List Value).toArray }).get? s.heap.objs.size=some { cls:=.type "list",data:=.seq #[] 0 }:=aB _ rfl;have k0:∀b o,s.heap.get? b=some o->(s.heap.push { cls:=.type "list",data:=.seq ([]:List Value).toArray }).get? b=some o:=fun b o e=>ai _ e
 generalize s.heap.push { cls:=.type "list",data:=.seq ([]:List Value).toArray }=H0 at g0 k0 ⊢;refine aV (PySem.W.kdl_extend (A:=A) (s:={ s with heap:=H0 }) (R:=fun r s'=>match r with
   | .ok (.ret v)=>wpAny (model prog w) A (match v with
    | .ref a=>do
     let z <-load a
     match z.data with
     | .seq xs _=>pure xs.toList
     | _=>unsupported "internal:collect"
    | _=>unsupported "internal:collect") Q E s'
   | .ok _=>False
   | .error e=>E e s') (PySem.W.kdl_dict (knd:=knd) (kvs:=kvs) (ep:=ep) lo) hh (hm.at' fun o e=>k0 _ _ e) s.heap.objs.size (Nat.ne_of_gt lt) (Nat.ne_of_gt lt) (.ref s.heap.objs.size) 0 g0 (fun h' tk acc' c' hk hS RL=>?_) hn) (fun fin s' h=>?_) fun e s' h=>h
 ·refine aa (wpAny_load hS (ag (hQ h' tk acc'.toList (fun b o e=>hk b o (aP (az e)) (k0 b o e)) (by rw [Array.length_toList];exact RL.1) (fun j v e=>RL.2 j v (by rw [<-Array.getElem?_toList];exact e)) (az hS))))
 ·cases fin <;> exact h
end
section
variable {X:Cx}
def RM:List V->Hp->VK->Prop:=fun xs H Q=>∃(q:Addr) (kvs:List (Key×V)) (ts:List Str),xs=[.ref q]/\H q=some (.dK kvs)/\kvs.map (·.1)=ts.map Sum.inr/\ts.length<64 /\
 ∀ms:List Str,ms.Perm ts->Il ms->∀l,H l=none->Q (.ref l) (upd H l (.lst (ms.map V.str)))
theorem Dw {P:Program}{w:World}:∀{vals:List Value}{ts:List Str},vals.length=ts.length->(∀(j:Nat) (v:Value),vals[j]?=some v->∃x,ts[j]?=some x/\(dG P w).is (.inr x) v=true)->StrsAre vals ts
 | [],[],_,_=>.nil
 | [],_::_,h,_=>by simp at h
 | _::_,[],h,_=>by simp at h
 | v::r,x::ts,hl,h=>by
  obtain ⟨y,e,hy⟩:=h 0 v rfl;have e:x=y:=by simpa using e
  subst e;obtain ⟨t,rfl⟩:=(show ∃t,v=Value.str x t from GQ hy);exact .cons x t (Dw (by simpa using hl) fun j v hj=>by simpa using h (j+1) v (by simpa using hj))
def yD (hc:X.calm=true):fU X (.builtin "sorted") RM:=by
 rintro pins s U H xs us Q I r ⟨q,kvs,ts,rfl,hq,hk,yy,qq⟩;obtain ⟨u,rfl,ru⟩:=r.one;cases ru;obtain ⟨t1,t2,lo⟩:=Jm I (.inl ⟨kvs,.inl hq⟩);obtain ⟨z,y,vs,rel,ob,es,ep,eh,c⟩:=I.dD q _ hq;have da:s.heap.DictAt (dG X.prog X.w) q vs ep:=⟨ob,es,eh,c⟩;have lk:kvs.length=ts.length:=by have:=congrArg List.length hk;simpa using this
 have lv:vs.length=ts.length:=by rw [<-rel.length];exact lk
 have big:∀n,n<64->n<=sizeLine:=fun n hn=>ay (bj hn) (by decide)
 refine Calls.call_function_entry kind_sorted plain_sorted entry_sorted (args_sorted1 _) ?_;unfold Builtin.«sorted»;refine aa (m:=checkCount "sorted" 1 1 _) (ag (aa (EZ (by simp [I.ok.hd hc]) lo da (big _ (by omega)) fun h1 tk vals k1 l1 v1 z1=>?_)));have ik:StrsAre vals ts:=Dw (P:=X.prog) (w:=X.w) (by omega) fun j v hj=>by
  obtain ⟨k,x,e1,e2⟩:=v1 j v hj;obtain ⟨kv,X5⟩ : ∃kv,kvs[j]?=some kv:=⟨_,aI (by have:=(aK.mp e1).1;omega)⟩;obtain ⟨p',hp',ek,_⟩:=vq rel X5;rw [e1] at hp';cases hp';have ek:kv.1=k:=ek;have:=congrArg (·[j]?) hk;simp only [List.getElem?_map,X5,Option.map_some] at this;cases et:ts[j]? with
  | none=>rw [et] at this;cases this
  | some t0 =>
   rw [et] at this;have:kv.1=.inr t0:=by simpa using this
   exact ⟨t0,rfl,by rw [<-this,ek];exact e2⟩
 refine aa (wpAny_newList ?_ (big _ (by omega)));have MZ:(h1.push (seqObj "list" vals.toArray 0)).get? h1.objs.size=some (seqObj "list" vals.toArray 0):=aB _ rfl;show wpAny _ _ _ _ _ { s with heap:=h1.push (seqObj "list" vals.toArray 0),toks:=tk };refine aa (bW (bI slot_list_sort ⟨_,MZ,rfl⟩ entry_list_sort (list_sort_treeK strKind_oneLt MZ ik.keysOf (fun v₁ v₂ rest e=>keyKind_strs (by rw [<-e];exact ik)) (by omega) fun st' hp hs=>⟨_,rfl,?_⟩) (args_list_sort _)));obtain ⟨ms,a1,a2,a3⟩:=sorted_out_str ik hp hs;obtain ⟨n,he⟩:=sortedHeap_at (out:=(arrOf st').map (·.2)) MZ;have lm:=a2.length_eq;have sz:s.heap.objs.size<=h1.objs.size:=bj z1;have kp:∀b o,s.heap.get? b=some o->(sortedHeap (h1.push (seqObj "list" vals.toArray 0)) h1.objs.size vals ((arrOf st').map (·.2))).get? b=some o:=fun b o z=>by
  have lb:b<h1.objs.size:=az (k1 b o z);rw [sortedHeap_old (Nat.ne_of_lt lb) (by rw [Heap.size_push];exact cU lb)];exact ai _ (k1 b o z)
 refine ag ⟨_,rfl,.ref _,_,I.laid (a:=h1.objs.size) (o:=.lst (ms.map V.str)) (t':=tk) kp sz ⟨?_,_,n,vw a1,?_⟩,rfl,qq ms a2 (Te a3) _ (I.dD.fresh sz)⟩
 ·rw [List.length_map,lm];exact big _ yy
 ·rw [he]
def E1 (C i:Nat) (f:Str):fV:=fun Z Q=>match A4 C i f Z with
 | some l=>∃ts:List Str,l.map (·.1)=ts.map Sum.inr/\ts.length<64/\∀ms:List Str,ms.Perm ts->Il ms->Q (.lst (ms.map .str)) Z
 | none=>False
def Dx {K:Frag}{G:Hp}{vs:List (Key×V)}{l:List (Key×D)} (h:fW K G vs l):vs.map (·.1)=l.map (·.1):=by
 induction h with
 | nil=>rfl
 | cons _ _ ih=>rw [List.map_cons,List.map_cons,ih]
def OI {C:Addr}{f:Str}{p pos:Pos} (i:Nat) {x:Str}{np fp:Pos} (hc:X.calm=true) (hm:X.mg "sorted"=none) (c:Au X.K C) (na:gM X.K C f) (hN:X.N[i]?=some x:=by rfl) (hv:rX X.env.scope x:=by first | exact Or.inl rfl | exact Or.inr (Or.inl rfl) | exact Or.inr (Or.inr rfl))
  (hd:(x==("__debug__":Str))=false:=by decide) (gL:(x==("__classdict__":Str))=false:=by decide) (hb:attributeBase (.Name x np) f X.env (eval (.Name x np) X.env)=eval (.Name x np) X.env:=by rfl)
  (hg:Gl X "sorted":=by rfl) (he:starEach [Expr.Attribute (.Name x np) f fp] X.env=(false,eval (Expr.Attribute (.Name x np) f fp) X.env)::starEach [] X.env:=by rfl) (lL:(backTo pos (starEach [] X.env)).any (·.1)=false:=by rfl) :
  DE X (.Call (.Name "sorted" p) [.Attribute (.Name x np) f fp] [] pos) (E1 C i f) :=
 cN (oP (yD hc) hg hm (by rfl) (gm (vm (fe hN hv hd gL) hb) kD he) (by decide) (by decide) he lL) fun U H Q2 hx=>hx.el fun n Z G Q R h k=>by
  unfold E1 at h
  split at h
  ·rename_i l el
   have ⟨ts,hk,yy,hq⟩:=h;obtain ⟨h0,fs,e1,e2⟩:=ui el;obtain ⟨a,dx,bU,q,vs,g1,g2,g3,g4,g5,_⟩:=R.EU e1 e2;refine ⟨.ref a,g1,a,C,dx,bU,.ref q,rfl,g2,c,na,g3,q,vs,ts,rfl,g4,by rw [Dx g5,hk],yy,fun ms p1 p2 r hr=>?_⟩;exact k _ _ _ _ Z (R.laid hr _) (bE (R.sub.free hr) _) (.lst (kC.of aO) ((bP.KW ms).up (bE (R.sub.free hr) _))) (hq ms p1 p2)
  ·exact h.elim
end
end Dl
namespace Ha
open PySem
def Up (xs:Array Nat):Prop:=xs.toList.Pairwise (·<·)
def Up.lt {xs:Array Nat} (h:Up xs) {i j x y:Nat} (Jp:i<j) (hx:xs[i]?=some x) (hy:xs[j]?=some y):x<y:=by
 rw [<-Array.getElem?_toList] at hx hy;obtain ⟨hi,rfl⟩:=aK.mp hx;obtain ⟨hj,rfl⟩:=aK.mp hy;exact List.pairwise_iff_getElem.mp h i j hi hj Jp
structure Cut (xs:Array Nat) (j r:Nat):Prop where
 le:r<=xs.size
 lo:∀i x,i<r->xs[i]?=some x->x<j
 hi:∀i x,r<=i->xs[i]?=some x->j<=x
theorem Jv {xs:Array Nat}{j:Nat} (h:Up xs):∀(fuel lo hi:Nat),hi-lo<=fuel->lo<=hi->hi<=xs.size->(∀i x,i<lo->xs[i]?=some x->x<j)->(∀i x,hi<=i->xs[i]?=some x->j<=x)->Cut xs j (SetTable.below.go xs j fuel lo hi)
 | 0,lo,hi,h1,h2,h3,h4,h5=>by
  have:lo=hi:=by omega
  subst this;exact ⟨h3,h4,h5⟩
 | fuel+1,lo,hi,h1,h2,h3,h4,h5=>by
  unfold SetTable.below.go
  by_cases z:lo<hi
  ·rw [if_pos z]
   dsimp only;have hm:(lo+hi) / 2<xs.size:=by omega
   have eg:xs[(lo+hi) / 2]?=some (xs.getD ((lo+hi) / 2) j):=by simp [Array.getD,hm]
   generalize xs.getD ((lo+hi) / 2) j=v at eg
   split
   ·rename_i c
    refine Jv h fuel _ hi (by omega) (by omega) h3 (fun i x hi' hx=>?_) h5;rcases Nat.lt_or_eq_of_le (Nat.le_of_lt_succ hi') with q | q
    ·exact Nat.lt_trans (h.lt q hx eg) c
    ·rw [q,eg] at hx;cases hx;exact c
   ·rename_i c
    refine Jv h fuel lo _ (by omega) (by omega) (by omega) h4 fun i x hi' hx=>?_
    rcases Nat.lt_or_eq_of_le hi' with q | q
    ·have:=h.lt q eg hx;omega
    ·rw [<-q,eg] at hx;cases hx;omega
  ·rw [if_neg z]
   have:lo=hi:=by omega
   subst this;exact ⟨h3,h4,h5⟩
def xO {xs:Array Nat}{j:Nat} (h:Up xs):Cut xs j (SetTable.below xs j) :=
 Jv h xs.size 0 xs.size (by omega) (by omega) (ao _) (fun i x z=>absurd z (by omega)) fun i x z hx=>by
  rw [Array.getElem?_eq_none z] at hx;cases hx
def OJ {α:Type} (xs:Array α) (p:Nat) (x:α) (hp:p<=xs.size):(SetTable.insertAt xs p x).toList=xs.toList.take p++x::xs.toList.drop p:=by
 unfold SetTable.insertAt;rw [Array.toList_append,Array.toList_push,Array.toList_extract,Array.toList_extract];simp only [List.extract,List.drop_zero,Nat.sub_zero];rw [List.append_assoc,List.singleton_append]
 congr 2
 exact List.take_of_length_le (by rw [List.length_drop,Array.length_toList];omega)
def Vc {xs:Array Nat}{j:Nat} (h:Up xs) (hj:xs[SetTable.below xs j]?≠some j):Up (SetTable.insertAt xs (SetTable.below xs j) j):=by
 have c:=xO (j:=j) h;unfold Up;rw [OJ _ _ _ c.le];refine List.pairwise_append.mpr ⟨List.Pairwise.sublist (List.take_sublist ..) h,aW.mpr ⟨fun y hy=>?_,List.Pairwise.sublist (List.drop_sublist ..) h⟩,fun x hx y hy=>?_⟩
 ·obtain ⟨i,hi⟩:=List.mem_iff_getElem?.mp hy
  rw [List.getElem?_drop,Array.getElem?_toList] at hi;have h1:=c.hi _ _ (Nat.le_add_right ..) hi;rcases Nat.lt_or_eq_of_le h1 with q | q
  ·exact q
  ·exfalso
   subst q;cases i with
   | zero=>exact hj hi
   | succ i =>
    have hs:SetTable.below xs j<xs.size:=by
     have:=(Array.getElem?_eq_some_iff.mp hi).1;omega
    have e0:xs[SetTable.below xs j]?=some xs[SetTable.below xs j]:=bh hs;have:=c.hi _ _ (ao _) e0;have:=h.lt (show SetTable.below xs j<SetTable.below xs j+(i+1) by omega) e0 hi;omega
 ·have hx':x<j:=by
   obtain ⟨i,hi⟩:=List.mem_iff_getElem?.mp hx;rw [List.getElem?_take] at hi
   split at hi
   ·rename_i q;rw [Array.getElem?_toList] at hi;exact c.lo _ _ q hi
   ·cases hi
  rcases aE.mp hy with rfl | hy
  ·exact hx'
  ·obtain ⟨i,hi⟩:=List.mem_iff_getElem?.mp hy
   rw [List.getElem?_drop,Array.getElem?_toList] at hi;have h1:=c.hi _ _ (Nat.le_add_right ..) hi;omega
structure TI (t:SetTable) (b:Bool):Prop where
 led:t.led=b
 dum:t.dummies=#[]
 up:Up t.place
def OK (n:Nat):Up (Array.range n):=by
 unfold Up;rw [Array.toList_range];exact bO
def TI.fresh (a b:Nat) (l:Bool):TI (SetTable.fresh a b l) l:=⟨rfl,rfl,List.Pairwise.nil⟩
def TI.standIn {t:SetTable}{b:Bool} (h:TI t b) (n:Nat):TI (t.standIn n) b:=⟨h.led,rfl,OK n⟩
theorem TI.orStandIn {t:SetTable}{b:Bool} (h:TI t b) (n:Nat):TI (t.orStandIn n) b:=by
 unfold SetTable.orStandIn
 split
 ·exact h
 ·exact h.standIn n
def KZ (j:Nat):SetTable.has #[] j=false:=by
 unfold SetTable.has;simp
def TI.put {t:SetTable}{b:Bool} (h:TI t b) {j:Nat} (hj:t.place[SetTable.below t.place j]?≠some j):TI (t.put j).1 b:=by
 refine ⟨h.led,?_,Vc h.up hj⟩;show (if SetTable.has t.dummies j=true then _ else t.dummies)=#[];rw [h.dum,KZ,if_neg (by decide)]
theorem yE {t:SetTable}{b:Bool} (h:TI t b) {f:Nat->Int}{x:Int}:∀(fuel:Nat) (p:SetTable.Probe) (j:Nat) (d:Option Nat),p.dummy=none->SetTable.probe.go t f x fuel p=some (.empty j d)->d=none/\t.place[SetTable.below t.place j]?≠some j
 | 0,p,j,d,_,e=>by unfold SetTable.probe.go at e;cases e
 | fuel+1,p,j,d,hd,e=>by
  unfold SetTable.probe.go at e;have adv:(t.advance p).dummy=none:=by
   unfold SetTable.advance
   split
   ·exact hd
   ·exact hd
  cases q:t.slot p.j with
  | empty =>
   rw [q] at e;cases e;refine ⟨hd,fun z=>?_⟩;unfold SetTable.slot at q;dsimp only at q;rw [z] at q;simp at q
  | dummy =>
   unfold SetTable.slot at q;dsimp only at q;rw [h.dum,KZ] at q
   split at q
   ·cases q
   ·rw [if_neg (by decide)] at q;cases q
  | live i =>
   rw [q] at e;dsimp only at e
   split at e
   ·cases e
   ·exact yE h fuel _ j d adv e
theorem TI.layNew {t:SetTable}{b:Bool} (h:TI t b) (es:Array (Int×Value)) (x:Int) (v:Value):TI (layNew t es x v).2.1 b:=by
 unfold PySem.layNew;cases q:t.freeSlot x with
 | none=>exact h.standIn _
 | some sw =>
  have ⟨slot,wd⟩:=sw;dsimp only;refine TI.orStandIn (h.put ?_) _;unfold SetTable.freeSlot at q
  split at q
  ·rename_i j d e
   obtain ⟨rfl,z⟩:=yE h _ _ j d rfl e;cases q;exact z
  ·cases q
theorem TI.relayAll {t:SetTable}{b:Bool} (h:TI t b) (es:Array (Int×Value)) (n:Nat):TI (relayAll t es n).2.1 b:=by
 unfold PySem.relayAll
 split
 ·rename_i t' order e
  dsimp only
  split
  ·unfold SetTable.relaid SetTable.laid at e
   cases q:SetTable.layClean (SetTable.sizeAbove n-1) (es.map (·.1)) with
   | none=>rw [q] at e;cases e
   | some owner =>
    rw [q] at e;cases e;refine ⟨h.led,rfl,?_⟩;unfold Up;dsimp only;rw [List.pairwise_map,List.pairwise_filterMap];refine bO.imp fun {i j} Jp x hx y hy=>?_
    obtain ⟨_,_,rfl⟩:=Option.map_eq_some_iff.mp hx;obtain ⟨_,_,rfl⟩:=Option.map_eq_some_iff.mp hy;exact Jp
  ·exact h.standIn _
 ·exact h.standIn _
section
variable {prog:Program}{w:World}{A:Around}{E:Value->Shared->Prop}{s:Shared}{a:Addr}
def rH (prog:Program) (w:World) (h:Heap) (a:Addr) (S:Int->Bool) (n:Nat) (b:Bool):Prop :=
 ∃o es ep t,h.get? a=some o/\o.ExactSet/\o.data=.set es ep t/\ElemsOf (intKind prog w) es.toList/\(∀k,S k=true<->∃e∈es.toList,(intKind prog w).is k e.2=true)
  /\ es.size<scanBound/\t.fits es.size=true/\es.size=n/\TI t b
def K0 {h:Heap}{o:Obj}{es:Array (Int×Value)}{ep:Nat}{t:SetTable} (ho:h.get? a=some o) (hex:o.ExactSet) (hd:o.data=.set es ep t)
  {es':Array (Int×Value)}{t':SetTable}{S':Int->Bool}{b:Bool} (RN:ElemsOf (intKind prog w) es'.toList) (E2:∀k,S' k=true<->∃e∈es'.toList,(intKind prog w).is k e.2=true) (hb:es'.size<scanBound) (hf:t'.fits es'.size=true) (ti:TI t' b) :
  (h.update a (Obj.putSet es' t')).get? a=some { o with data:=.set es' (ep+1) t' }/\rH prog w (h.update a (Obj.putSet es' t')) a S' es'.size b:=by
 obtain ⟨h1,_⟩:=SetOf_store (knd:=intKind prog w) ho hex hd RN E2 hb hf;exact ⟨h1,_,es',ep+1,t',h1,hex,rfl,RN,E2,hb,hf,rfl,ti⟩
def Yi {S:Int->Bool}{n:Nat}{b:Bool}{k:Int}{x:Value}{Q:Bool->Shared->Prop} (Nm:(intKind prog w).is k x=true) (hsc:x.scannable=true) (hJ:rH prog w s.heap a S n b) (Yj:n+1<scanBound)
  (h:∀h',Heap.SameBut a s.heap h'->rH prog w h' a (fun k'=>S k' || decide (k'=k)) (if S k then n else n+1) b->Q (!S k) { s with heap:=h' }) :
  wpAny (model prog w) A (setAddHashed a x ((intKind prog w).hash k)) Q E s:=by
 obtain ⟨o,es,ep,t,ho,hex,hd,RN,E2,hb,hf,hn,ti⟩:=hJ;unfold setAddHashed setAddHashedIn;refine bW (aa (wpAny_setState_of ho hd hf ?_));dsimp only;rw [byScan_of hsc hb RN,if_pos rfl];unfold setAddByScan;refine aa (aa (wpAny_rule (aa (wpAny_setScan_of Nm ho hd hf RN ?_))));have gave:∀(c:Bool) {s₁:Shared}{Q':Unit->Shared->Prop},Q' () s₁->wpAny (model prog w) A (match c with | true=>rule "set.scan.the-table-gave-way" | false=>pure ()) Q' E s₁:=fun c s₁ Q' hq=>by
  cases c
  ·exact ag hq
  ·exact wpAny_rule hq
 cases hr:List.findIdx? (fun e=>(intKind prog w).is k e.2) es.toList with
 | some j =>
  obtain ⟨hj,hp,_⟩:=List.findIdx?_eq_some_iff_getElem.mp hr;have hk:S k=true:=(E2 k).mpr ⟨_,List.getElem_mem hj,hp⟩;have hq:=h s.heap (Heap.SameBut.refl a s.heap) ⟨o,es,ep,t,ho,hex,hd,RN,fun k'=>by
   rw [Bool.or_eq_true,decide_eq_true_eq,<-E2 k'];exact ⟨fun z=>z.elim id fun e=>e▸hk,.inl⟩,hb,hf,by rw [if_pos hk];exact hn,ti⟩
  rw [hk] at hq;exact ag (ag hq)
 | none =>
  have hk:S k=false:=by
   cases q:S k with
   | false=>rfl
   | true =>
    obtain ⟨e,he,hp⟩:=(E2 k).mp q;have z:=List.findIdx?_eq_none_iff.mp hr e he;rw [hp] at z;cases z
  dsimp only;have perm:=layNew_perm t es ((intKind prog w).hash k) x;have fits:=layNew_fits t es ((intKind prog w).hash k) x;have tl:=ti.layNew es ((intKind prog w).hash k) x;generalize layNew t es ((intKind prog w).hash k) x=L at perm fits tl ⊢;have ⟨Bf,t1,wd,gv⟩:=L;dsimp only at perm fits tl ⊢;rw [Array.toList_push] at perm;have sz:Bf.size=n+1:=by rw [<-Array.length_toList,perm.length_eq,List.length_append,Array.length_toList,hn];rfl
  have Yk:ElemsOf (intKind prog w) Bf.toList:=(RN.push Nm hsc).perm perm;have Tg:=mem_push_iff (S:=S) Nm E2 perm;have WY:Bf.size<scanBound:=by rw [sz];exact Yj
  have fin:∀h',Heap.SameBut a s.heap h'->rH prog w h' a (fun k'=>S k' || decide (k'=k)) Bf.size b->Q true { s with heap:=h' }:=fun h' hs hj=>by
   have:=h h' hs;rw [hk] at this;rw [sz] at hj;exact this hj
  refine aa (gave _ ?_);have tail:∀(g:Bool->Sem Unit),(∀(c:Bool) (s₁:Shared) (Q':Unit->Shared->Prop),Q' () s₁->wpAny (model prog w) A (g c) Q' E s₁)->∀(t2:SetTable),t2.fits Bf.size=true->TI t2 b->wpAny (model prog w) A (do
    storeSet a Bf t2
    if (!wd&&t2.tooFull)=true then do
      g (relayAll t2 Bf (SetTable.grown Bf.size)).2.2
      storeSet a (relayAll t2 Bf (SetTable.grown Bf.size)).1 (relayAll t2 Bf (SetTable.grown Bf.size)).2.1
      pure (some true)
     else pure (some true)) (fun r s'=>r=some true/\Q true s') E s:=fun g hg t2 f2 ti2=>by
   refine aa (wpAny_storeSet_of ho hd ?_ (fits_of_scanBound WY));obtain ⟨g1,j1⟩:=K0 (prog:=prog) (w:=w) ho hex hd Yk Tg WY f2 ti2;have sb:=bK s.heap a (Obj.putSet Bf t2)
   split
   ·have p2:=relayAll_perm t2 Bf (SetTable.grown Bf.size)
    have f3:=relayAll_fits t2 Bf (SetTable.grown Bf.size);have t3:=ti2.relayAll Bf (SetTable.grown Bf.size);generalize relayAll t2 Bf (SetTable.grown Bf.size)=R at p2 f3 t3 ⊢;have ⟨es2,tt,gv2⟩:=R;dsimp only at p2 f3 t3 ⊢;have XH:es2.size=Bf.size:=by rw [<-Array.length_toList,p2.length_eq,Array.length_toList]
    refine aa (hg _ _ _ ?_);refine aa (wpAny_storeSet_of g1 rfl ?_ (fits_of_scanBound (by rw [XH];exact WY)));obtain ⟨_,j2⟩:=K0 (prog:=prog) (w:=w) (S':=fun k'=>S k' || decide (k'=k)) g1 hex rfl (Yk.perm p2) (fun k'=>(Tg k').trans ⟨fun ⟨e,he,z⟩=>⟨e,p2.mem_iff.mpr he,z⟩,fun ⟨e,he,z⟩=>⟨e,p2.mem_iff.mp he,z⟩⟩) (by rw [XH];exact WY) f3 t3;rw [XH] at j2;exact ag ⟨rfl,fin _ (sb.trans (bK _ a _)) j2⟩
   ·exact ag ⟨rfl,fin _ sb j1⟩
  have tb:∀c:Bool,(if c=true then t1 else { t1 with plain:=false }).fits Bf.size=true/\TI (if c=true then t1 else { t1 with plain:=false }) b:=fun c=>by
   cases c
   ·exact ⟨SetTable.fits_plain_off fits,tl.led,tl.dum,tl.up⟩
   ·exact ⟨fits,tl⟩
  split
  ·refine aa ?_
   rw [hashByValue_scannable 8 hsc];refine ag ?_;refine aV (tail _ (fun c s₁ Q' hq=>by cases c <;> first | exact ag hq | exact wpAny_rule hq) _ (tb _).1 (tb _).2) (fun r s' ⟨e,q⟩=>?_) fun _ _ e=>e
   subst e;exact ag q
  ·refine aa (ag ?_)
   refine aV (tail _ (fun c s₁ Q' hq=>by cases c <;> first | exact ag hq | exact wpAny_rule hq) _ (tb true).1 (tb true).2) (fun r s' ⟨e,q⟩=>?_) fun _ _ e=>e
   subst e;exact ag q
end
end Ha
namespace Ha
open PySem PyProof.Rows
noncomputable def zS (w:World):Bool:=w.params.followText "set-order"
section
variable {prog:Program}{w:World}{A:Around}{E:Value->Shared->Prop}{s:Shared}
def rH.congr {h:Heap}{a:Addr}{S S':Int->Bool}{n n':Nat}{b:Bool} (hS:rH prog w h a S n b) (e:∀k,S k=S' k) (en:n=n'):rH prog w h a S' n' b:=by
 have:S=S':=funext e;subst this;subst en;exact hS
def rH.at {h h':Heap}{a:Addr}{S:Int->Bool}{n:Nat}{b:Bool} (hS:rH prog w h a S n b) (k:∀o,h.get? a=some o->h'.get? a=some o):rH prog w h' a S n b:=by
 obtain ⟨o,es,ep,t,ho,rest⟩:=hS;exact ⟨o,es,ep,t,k o ho,rest⟩
noncomputable def seen (val:Nat->Int) (i:Nat):Int->Bool:=fun k=>(firstMet val i).any (·==k)
def Vd {R:Result->Shared->Prop}{I:Addr}{fp wr:List Addr}{G:Array GenState->Array GenState->Prop}{n:Nat}{P:Nat->Value->Prop}{St:Nat->Shared->Prop}{b:Bool}
  (W:WalksS prog w A.in1 I fp wr G n P St) (S:Addr) (hS:S∉fp) (val:Nat->Int) (Ve:∀i v,P i v->∃t,v=.int (val i) t) (hb:n+1<scanBound) :
  ∀(k i:Nat) (s:Shared),i+k=n->St i s->rH prog w s.heap S (seen val i) (firstMet val i).length b ->
   (∀s',Moved (S::wr) G s s'->rH prog w s'.heap S (seen val n) (firstMet val n).length b->R (.ok (.ret .none)) s') ->
   codeAny (model prog w) A (.builtin "set.update.loop" ⟨[.ref S,.ref I],[]⟩) R s:=by
 have nw:S∉wr:=fun z=>hS (W.sub _ z)
 have up:∀c∈wr,c∈S::wr:=fun c hc=>aw _ hc
 intro k
 induction k with
 | zero =>
  intro i s e st j hR;cases (show i=n from e);refine bN PyProof.Rows.F.entry_set_update_loop ?_;rw [Around.under_plainId PyProof.Rows.F.plain_set_update_loop _];show wpAny _ A.in1 (pyNext (.ref I) >>= _) _ _ s;exact aa (W.done s _ _ st fun s' m=>ag (hR s' (m.mono up) (j.at fun o e=>m.heap S _ nw e)))
 | succ k ih =>
  intro i s e st j hR;refine bN PyProof.Rows.F.entry_set_update_loop ?_;rw [Around.under_plainId PyProof.Rows.F.plain_set_update_loop _];show wpAny _ A.in1 (pyNext (.ref I) >>= _) _ _ s;refine aa (W.item i s _ _ (by omega) st fun v s' hP st' m=>?_);obtain ⟨t,rfl⟩:=Ve i v hP;show wpAny _ A.in1 (holding [Value.int (val i) t] (setAdd S (.int (val i) t)) >>= _) _ _ s';refine aa (bW ?_);unfold setAdd;refine bW (aa ((intKind prog w).pyHash (k:=val i) (intKind_is _ _ _ _) ?_));have room:(firstMet val i).length+1<scanBound:=by have:=firstMet_length_le val i;omega
  refine Yi (s:={ s' with toks:=s'.toks+1 }) (intKind_is _ _ _ _) rfl (j.at fun o e=>m.heap S _ nw e) room fun h' sb j2=>?_
  have j3:rH prog w h' S (seen val (i+1)) (firstMet val (i+1)).length b:=j2.congr (fun k'=>by unfold seen;rw [firstMet_succ,step_any]) (by rw [firstMet_succ,step_length];rfl);have keep:∀c≠S,∀o,s'.heap.get? c=some o->h'.get? c=some o:=fun c hc o e=>(sb.2 c hc).trans e
  refine ag ⟨de PyProof.Rows.F.plain_set_update_loop _,ih (i+1) _ (by omega) (W.frame _ s' _ _ st' (cf _) fun c hc o e=>keep c (fun z=>hS (z▸hc)) o e) j3 fun s'' m2 j4=>?_⟩;exact hR s'' (Moved.trans W.gtrans ((m.mono up).then_heap (cf _) fun c o hc e=>keep c (fun z=>hc (z▸aj)) o e) m2) j4
def Yl (a:Value) {Q1:Value->Shared->Prop} (h:Q1 (.ref s.heap.objs.size) { s with heap:=s.heap.push { cls:=.type "set",dict:=none,data:=.set #[] 0 (.fresh 0 0 (!zS w)) } }) :
  codeAny (model prog w) A (.call (.builtin "set.__new__") ⟨[.type "set",a],[]⟩) (wants Q1 E) s:=by
 refine codeAny_of_tree ?_;show wpAny _ A.in1 (do checkBuiltinCall "set.__new__" ⟨[.type "set",a],[]⟩;again (.builtin "set.__new__" ⟨[.type "set",a],[]⟩)) _ _ s;refine aa (wpAny_of_eq (PySem.F.newCall_set_1 a) (ag ⟨de F.plain_set_new _,bN F.entry_set_new ?_⟩));rw [Around.under_plainId F.plain_set_new _];unfold Builtin.«set.__new__» Builtin.Frozenset.newClass;have hsub:=sub_set_self;obtain ⟨hp,g,d,tk,os⟩:=s;dsimp only
 wp_walk
 refine wpAny_askSetting (ag ?_);dsimp only;simp only [newObj];exact aa (wpAny_alloc (ag (ag h)))
end
section
variable {prog:Program}{w:World}{A:Around}{E:Value->Shared->Prop}{s:Shared}
def Mg {l:Addr}{items:Array Value}{ns:List Int}{Q:Value->Shared->Prop} (hh:A.handled=none) (hl:s.heap.IsList l items) (hi:IntsAre items.toList ns) (hb:items.size+1<scanBound)
  (h:∀(h':Heap) (tk:Nat),rH prog w h' s.heap.objs.size (seen (fun i=>ns.getD i 0) items.size) (firstMet (fun i=>ns.getD i 0) items.size).length (!zS w) ->
   (∀b o,s.heap.get? b=some o->h'.get? b=some o)->Q (.ref s.heap.objs.size) { s with heap:=h',toks:=tk }) :
  wpAny (model prog w) A (call (.type "set") [.ref l]) Q E s:=by
 obtain ⟨c,tl,Mh⟩:=F.called_set.mro;have hmade:=F.called_set.made;have hsub:=F.called_set.sub;refine wpAny_call (codeAny_of_tree ?_);show wpAny _ _ (callAny (.type "set") _) _ _ _;refine ag ⟨Code.quiet_builtin _ (by decide +kernel),bN F.entry_type_call ?_⟩;rw [Around.under_plain (weight_type_call_type "set" [.ref l] []) rfl];have h1:=F.called_set.notType;have h2:=F.called_set.canCreate;have hct:=PySem.F.typeCall_set_1 (.ref l)
 repeat (any_goals (first | assumption | wp_step))
 refine codeAny_mono (Yl (.ref l) (E:=E) (Q1:=fun obj s₁=>obj=.ref s.heap.objs.size/\s₁={ s with heap:=s.heap.push { cls:=.type "set",dict:=none,data:=.set #[] 0 (.fresh 0 0 (!zS w)) } }) ⟨rfl,rfl⟩) fun r s₁ hr=>?_
 cases r with
 | error e=>exact hr
 | ok fl =>
  cases fl with
  | ret obj =>
   obtain ⟨rfl,rfl⟩:=hr;have g0:(s.heap.push { cls:=.type "set",dict:=none,data:=.set #[] 0 (.fresh 0 0 (!zS w)) }).get? s.heap.objs.size=some { cls:=.type "set",dict:=none,data:=.set #[] 0 (.fresh 0 0 (!zS w)) }:=aB _ rfl;generalize hH:s.heap.push { cls:=.type "set",dict:=none,data:=.set #[] 0 (.fresh 0 0 (!zS w)) }=H1 at g0;have up1:∀b o,s.heap.get? b=some o->H1.get? b=some o:=fun b o e=>by rw [<-hH];exact ai _ e
   have XG:H1.objs.size=s.heap.objs.size+1:=by rw [<-hH,Heap.size_push]
   have hT:Shared.TypeIs { s with heap:=H1 } (.ref s.heap.objs.size) "set":=⟨_,g0,rfl⟩;have hli:=F.called_set.init.lookup;have hbi:=F.called_set.init.bind (.ref s.heap.objs.size)
   repeat (any_goals (first | assumption | wp_step))
   refine codeAny_mono (codeAny_call_builtin (R:=wants (fun r s₂=>r=.none/\∃h' tk,s₂={ s with heap:=h',toks:=tk } /\
     rH prog w h' s.heap.objs.size (seen (fun i=>ns.getD i 0) items.size) (firstMet (fun i=>ns.getD i 0) items.size).length (!zS w) /\
     (∀b o,s.heap.get? b=some o->h'.get? b=some o)) E) F.called_set.init.plain F.entry_set_init (check_set_init_1 hT ?_)) fun r₂ s₂ hr₂=>?_
   ·have ⟨⟨ocls,odict,odata,oslots⟩,hol,Zd,nl,hdl⟩:=hl
    simp only at Zd hdl;subst Zd hdl;have hol':=up1 _ _ hol;have hsls:=PySem.F.sub_list_set;have hslf:=PySem.F.sub_list_frozenset;have FY:(Value.type "list"==Value.type "dict")=false:=by decide
    have hl1:H1.IsList l items:=⟨_,hol',rfl,nl,rfl⟩;unfold Builtin.«set.__init__» noKeywords Builtin.Frozenset.updateFrom;generalize hPI:pyIter=PI
    wp_walk
    subst hPI;refine wpAny_pyIter_list hl1 (aa (wpAny_runValue ?_));have hlS:l<s.heap.objs.size:=az hol;have hneI:l≠H1.objs.size:=by rw [XG];exact aP (cU hlS)
    have Ve:∀(i:Nat) (v:Value),items[i]?=some v->∃t,v=.int ((fun i=>ns.getD i 0) i) t:=fun i v hv=>IntsAre.int_at hi i v (by rw [Array.getElem?_toList];exact hv)
    refine Vd (b:=!zS w) ((Walks.list (by simp [hh]) _ l hneI items).toS) s.heap.objs.size (by simp only [List.mem_cons,List.not_mem_nil,or_false,not_or];exact ⟨by rw [XG];exact aP (Nat.lt_succ_self _),Nat.ne_of_gt hlS⟩) (fun i=>ns.getD i 0) Ve hb items.size 0 _ (by omega)
     ⟨⟨_,aB _ rfl,rfl,rfl⟩,(hl1.push _)⟩ ?_ fun s' hm hS'=>?_
    ·refine ⟨_,#[],0,.fresh 0 0 (!zS w),ai _ g0,⟨rfl,rfl,rfl⟩,rfl,fun e he=>absurd he (by simp),fun k=>?_,by unfold scanBound;decide,rfl,rfl,TI.fresh _ _ _⟩
     simp [seen,firstMet]
    ·have ⟨h',g',d',tk',os'⟩:=s'
     have eg:g'=s.gens:=hm.gens;have ed:d'=s.drawn:=hm.drawn;have eo:os'=s.os:=hm.os;subst eg ed eo;refine ag (ag ⟨rfl,h',tk',rfl,hS',fun b o e=>?_⟩);have lt:=az e;exact hm.heap b o (by simp only [List.mem_cons,List.not_mem_nil,or_false,not_or];exact ⟨aP lt,by rw [XG];exact aP (cU lt)⟩) (ai _ (up1 b o e))
   ·cases r₂ with
    | error e=>exact hr₂
    | ok fl2 =>
     cases fl2 with
     | ret r =>
      obtain ⟨rfl,h',tk,rfl,hS',hk'⟩:=hr₂
      repeat (any_goals (first | assumption | wp_step))
      exact h _ _ hS' hk'
     | _=>exact hr₂.elim
  | _=>exact hr.elim
end
def Bg {xs:Array Nat}{j r q:Nat} (h:Cut xs j r) (k:Cut xs j q):r=q:=by
 rcases Nat.lt_trichotomy r q with z | z | z
 ·have e:=bh (xs:=xs) (i:=r) (aM z k.le)
  have:=h.hi _ _ (ao _) e;have:=k.lo _ _ z e;omega
 ·exact z
 ·have e:=bh (xs:=xs) (i:=q) (aM z h.le)
  have:=k.hi _ _ (ao _) e;have:=h.lo _ _ z e;omega
def RO {xs:Array Nat} (h:Up xs):SetTable.below xs 0=0 :=
 Bg (xO h) ⟨bw _,fun i x z=>absurd z (by omega),fun i x _ _=>bw _⟩
def Jw {xs:Array Nat} (h:Up xs) {i j:Nat} (e:xs[i]?=some j):SetTable.below xs (j+1)=i+1:=by
 have lt:=(Array.getElem?_eq_some_iff.mp e).1;refine Bg (xO h) ⟨lt,fun a x ha hx=>?_,fun a x ha hx=>?_⟩
 ·rcases Nat.lt_or_eq_of_le (Nat.le_of_lt_succ ha) with q | q
  ·have:=h.lt q hx e;omega
  ·rw [q,e] at hx;cases hx;omega
 ·have:=h.lt (show i<a by omega) e hx;omega
def Bh {α:Type}{l:List α}{i:Nat}{x:α} (h:l[i]?=some x):(x::l.eraseIdx i).Perm l:=by
 obtain ⟨hi,rfl⟩:=aK.mp h;rw [List.eraseIdx_eq_take_drop_succ];refine List.perm_middle.symm.trans ?_;rw [<-List.drop_eq_getElem_cons hi,List.take_append_drop]
theorem K1 {α:Type} (next:Nat->Nat):∀(fuel k:Nat) (left:List α) (out:Array α),left.length=fuel->(pickOrder.go next fuel k left out).toList.Perm (out.toList++left)
 | 0,k,left,out,h=>by
  rw [List.length_eq_zero_iff.mp h,List.append_nil];exact List.Perm.refl _
 | fuel+1,k,left,out,h=>by
  unfold pickOrder.go;have lt:next k % left.length<left.length:=Nat.mod_lt _ (by omega);have e:=aI lt;rw [e];refine (K1 next fuel (k+1) _ _ (by rw [List.length_eraseIdx_of_lt lt];omega)).trans ?_;rw [Array.toList_push,List.append_assoc];exact (List.perm_append_left_iff _).mpr (by rw [List.singleton_append];exact Bh e)
def xP {α:Type} (next:Nat->Nat) (xs:Array α):(pickOrder next xs).toList.Perm xs.toList:=by
 unfold pickOrder;have:=K1 next xs.size 0 xs.toList #[] (Array.length_toList)
 simpa using this
section
variable {prog:Program}{w:World}{A:Around}{E:Value->Shared->Prop}
def Jx {src:Source}{n:Nat}{Q:Nat->Shared->Prop}{s:Shared} (hn:n≠0) (h:∀i,i<n->∀d,Q i { s with drawn:=d }):wpAny (model prog w) A (choose src n) Q E s :=
 fun _ _ _=>⟨hn,h _ (Nat.mod_lt _ (Nat.pos_of_ne_zero hn)) _⟩
theorem Dy {α:Type}:∀(n:Nat) (xs:List α) (s:Shared) (Q:List α->Shared->Prop),xs.length=n->(∀ys d,ys.Perm xs->Q ys { s with drawn:=d })->wpAny (model prog w) A (drawOrder n xs) Q E s
 | 0,xs,s,Q,h,q=>by
  have e:=List.length_eq_zero_iff.mp h;subst e;unfold drawOrder;exact ag (q [] s.drawn (List.Perm.refl _))
 | n+1,[],s,Q,h,q=>by cases h
 | n+1,x::xs,s,Q,h,q=>by
  unfold drawOrder;refine aa (Jx (by simp) fun i hi d=>?_);have e:=aI hi;rw [e];refine aa (Dy n _ _ _ (by rw [List.length_eraseIdx_of_lt hi];simpa using h) fun ys d' p=>ag (q _ d' ?_));exact (List.Perm.cons _ p).trans (Bh e)
end
def jX:Slot "set_iterator" "__next__" "set_iterator.__next__" :=
 .of (owner:="set_iterator") (n:="__next__") (by rw [typeLookup_type,builtinLookup_eq_fast];kernel_rfl) (by decide +kernel) (by decide +kernel) (by decide +kernel) (by first | exact .inl (by decide +kernel) | exact .inr (by decide +kernel)) (by rw [isSubtype_type];kernel_rfl)
def wD:entryFor table "set_iterator.__next__"=some Builtin.«set_iterator.__next__»:=entryFor_of_tree (by kernel_rfl)
def Hb:Manifest.owners.lookup (String.ofList ['r','o','t','a','r','e','t','i','_','t','e','s'].reverse)=some Manifest.sig_set_iterator:=by kernel_rfl
def zT (a:Value):argsOk "set_iterator.__next__" ⟨[a],[]⟩:=by
 unfold argsOk;rw [signature?_of (id:="set_iterator.__next__") (n:=['_','_','t','x','e','n','_','_']) (o:=['r','o','t','a','r','e','t','i','_','t','e','s']) (by kernel_rfl) Hb];kernel_rfl
def Jy:entryFor table "set.__iter__"=some Builtin.«frozenset.__iter__»:=entryFor_alias (id':="frozenset.__iter__") (by kernel_rfl) rfl (by decide +kernel) (by kernel_rfl)
def nI (h:Heap) (it a:Addr) (f0:Value) (i n ep:Nat):Prop:=∃ob,h.get? it=some ob/\ob.cls=.type "set_iterator"/\ob.data=.fields #[f0,.int i 0,.ref a,.int n 0,.int ep 0]
def nI.typeIs {s:Shared}{it a:Addr}{f0:Value}{i n ep:Nat} (x:nI s.heap it a f0 i n ep):s.TypeIs (.ref it) "set_iterator":=let ⟨o,ho,hc,_⟩:=x;⟨o,ho,hc⟩
section
variable {prog:Program}{w:World}{A:Around}{E:Value->Shared->Prop}{s:Shared}{it a:Addr}{o:Obj}{es:Array (Int×Value)}{ep:Nat}{t:SetTable}
def nI.step {h:Heap}{f0 f1:Value}{i n:Nat} (x:nI h it a f0 i n ep) :
  nI ((h.update it (Obj.mapFields (·.setIfInBounds 0 f1))).update it (Obj.mapFields (·.setIfInBounds 1 (rawInt ((i:Int)+1))))) it a f1 (i+1) n ep:=by
 have ⟨ob,ho,hc,hd⟩:=x;have h1:(h.update it (Obj.mapFields (·.setIfInBounds 0 f1))).get? it=some (Obj.mapFields (·.setIfInBounds 0 f1) ob):=b7 _ ho (Obj.isFreed_of_fields (b9 hd _));have d1:=b9 hd (·.setIfInBounds 0 f1);refine ⟨_,b7 _ h1 (Obj.isFreed_of_fields (b9 d1 _)),(Obj.cls_mapFields ..).trans ((Obj.cls_mapFields ..).trans hc),?_⟩;rw [Obj.data_mapFields d1];simp [rawInt]
def Dz {i slot nx:Nat}{x:Value}{Q:Option Value->Shared->Prop} (hit:nI s.heap it a (.int slot 0) i es.size ep) (ho:s.heap.get? a=some o) (hd:o.data=.set es ep t) (hf:t.fits es.size=true)
  (hn:∀(A':Around) (E':Value->Shared->Prop) (Q':Option (Value×Nat)->Shared->Prop),Q' (some (x,nx)) s->wpAny (model prog w) A' (setNext a slot i ep) Q' E' s)
  (hQ:∀h',nI h' it a (.int nx 0) (i+1) es.size ep->Heap.SameBut it s.heap h'->Q (some x) { s with heap:=h' }):wpAny (model prog w) A (pyNext (.ref it)) Q E s:=by
 obtain ⟨ob,Mi,hc,Jz⟩:=id hit;unfold pyNext;refine aa (wpAny_attempt (cj (name:=Str.ofString "__next__") hit.typeIs jX (bI jX hit.typeIs wD ?_ (zT _))));unfold Builtin.«set_iterator.__next__»;refine aa (ag (aa (wpAny_fieldsOf Mi Jz ?_)));dsimp only;refine aa (wpAny_setEntries_of ho hd hf ?_);rw [if_neg (by simp)];refine aa (hn _ _ _ ?_);dsimp only;refine aa (wpAny_setField Mi Jz (by simp) ?_);have h1:(s.heap.update it (Obj.mapFields (·.setIfInBounds 0 (rawInt (nx:Int))))).get? it=some (Obj.mapFields (·.setIfInBounds 0 (rawInt (nx:Int))) ob):=b7 _ Mi (Obj.isFreed_of_fields (b9 Jz _));refine aa (wpAny_setField (s:={ s with heap:=s.heap.update it (Obj.mapFields (·.setIfInBounds 0 (rawInt (nx:Int)))) }) h1 (b9 Jz _) (by simp) ?_);exact ag ⟨_,rfl,ag (hQ _ hit.step ((bK ..).trans (bK ..)))⟩
def DB {i slot:Nat}{Q:Option Value->Shared->Prop} (hh:A.handled=none) (hit:nI s.heap it a (.int slot 0) i es.size ep) (ho:s.heap.get? a=some o) (hd:o.data=.set es ep t) (hf:t.fits es.size=true)
  (hn:∀(A':Around) (E':Value->Shared->Prop) (Q':Option (Value×Nat)->Shared->Prop),Q' none s->wpAny (model prog w) A' (setNext a slot i ep) Q' E' s)
  (hQ:∀h',Heap.ExtBut it s.heap h'->Q none { s with heap:=h' }):wpAny (model prog w) A (pyNext (.ref it)) Q E s:=by
 obtain ⟨ob,Mi,hc,Jz⟩:=id hit;unfold pyNext;refine aa (wpAny_attempt (cj (name:=Str.ofString "__next__") hit.typeIs jX (bI jX hit.typeIs wD ?_ (zT _))));unfold Builtin.«set_iterator.__next__»;refine aa (ag (aa (wpAny_fieldsOf Mi Jz ?_)));dsimp only;refine aa (wpAny_setEntries_of ho hd hf ?_);rw [if_neg (by simp)];refine aa (hn _ _ _ ?_);dsimp only;refine aa (wpAny_setField Mi Jz (by simp) (aa ?_));simp only [newExc,newTuple];refine aa (aZ ?_ (by size_fits));refine aa (m:=firstArgMember _ _) (wpAny_of_eq (a:=Value.none) (by first | rfl | (simp only [firstArgMember];rfl)) (aZ ?_ (by size_fits)));simp only [raiseNew];refine aa (wpAny_handled ?_);rw [show A.in1.handled=none from hh];refine aa (ag (wpAny_throw ?_));refine aa (wpAny_isInstance (T:="StopIteration") (b:=true) (by exact ⟨_,aB _ rfl,rfl⟩) isSubtype_stop ?_);exact ag (hQ _ (((bK ..).extBut.push _).push _))
def Hc {i slot:Nat}{r:Option (Int×Value)}{Q:Option (Value×Nat)->Shared->Prop} (ho:s.heap.get? a=some o) (hd:o.data=.set es ep t) (hf:t.fits es.size=true) (hb:zS w=true) (hx:(pickOrder (w.params.setOrder a ep) es)[i]?=r)
  (h:Q (r.map fun e=>(e.2,slot)) s):wpAny (model prog w) A (setNext a slot i ep) Q E s:=by
 unfold setNext;refine aa (wpAny_setState_of ho hd hf ?_);dsimp only;refine aa (aa (wpAny_askSetting (ag ?_)));show wpAny _ A (if zS w=true then _ else _) Q E s;rw [if_pos hb,if_neg (by simp)];refine aa ?_;unfold setWalk;refine aa (wpAny_setState_of ho hd hf ?_);dsimp only;refine aa (aa (wpAny_askSetting (ag ?_)));show wpAny _ A (if zS w=true then _ else _) _ E s;rw [if_pos hb];refine aa (wpAny_askSetting (ag (ag ?_)));rw [<-hx] at h;exact h
def DC {i slot:Nat}{Q:Option (Value×Nat)->Shared->Prop} (ho:s.heap.get? a=some o) (hd:o.data=.set es ep t) (hf:t.fits es.size=true) (hb:zS w=false) (WZ:(!t.plain&&decide (es.size>1))=false) (hl:t.led=true) (hi:SetTable.below t.place slot=i)
  (h:Q (match es[i]?,t.place[i]? with | some (_,x),some j=>some (x,j+1) | _,_=>none) s):wpAny (model prog w) A (setNext a slot i ep) Q E s:=by
 unfold setNext;refine aa (wpAny_setState_of ho hd hf ?_);dsimp only;refine aa (aa (wpAny_askSetting (ag ?_)));show wpAny _ A (if zS w=true then _ else (if (!t.plain&&decide (es.size>1))=true then _ else _)) Q E s;rw [if_neg (by rw [hb];decide),if_neg (by rw [WZ];decide)];refine aa (m:=if (!t.led&&!es.isEmpty)=true then unsupported "set:maker-not-led" else pure ()) ?_;rw [if_neg (by rw [hl];simp)];refine ag (ag ?_);subst hi;exact h
end
section
variable {prog:Program}{w:World}{A:Around}{E:Value->Shared->Prop}{s:Shared}{it a tp:Addr}{o ot:Obj}{es:Array (Int×Value)}{ep:Nat}{t:SetTable}{ps:Array Value}{m:Nat}
def nI.Ym {h:Heap}{f0:Value}{i n:Nat} (x:nI h it a f0 i n ep):nI (h.update it (Obj.mapFields (·.setIfInBounds 1 (rawInt ((i:Int)+1))))) it a f0 (i+1) n ep:=by
 have ⟨ob,ho,hc,hd⟩:=x;refine ⟨_,b7 _ ho (Obj.isFreed_of_fields (b9 hd _)),(Obj.cls_mapFields ..).trans hc,?_⟩;rw [Obj.data_mapFields hd];simp [rawInt]
def JA {i place:Nat}{e:Int×Value}{Q:Option Value->Shared->Prop} (hit:nI s.heap it a (.ref tp) i es.size ep) (ho:s.heap.get? a=some o) (hd:o.data=.set es ep t) (hf:t.fits es.size=true)
  (ht:s.heap.get? tp=some ot) (W0:ot.data=.seq ps m) (hp:ps[i]?=some (.int place 0)) (he:es[place]?=some e)
  (hQ:∀h',nI h' it a (.ref tp) (i+1) es.size ep->Heap.SameBut it s.heap h'->Q (some e.2) { s with heap:=h' }):wpAny (model prog w) A (pyNext (.ref it)) Q E s:=by
 obtain ⟨ob,Mi,hc,Jz⟩:=id hit;unfold pyNext;refine aa (wpAny_attempt (cj (name:=Str.ofString "__next__") hit.typeIs jX (bI jX hit.typeIs wD ?_ (zT _))));unfold Builtin.«set_iterator.__next__»;refine aa (ag (aa (wpAny_fieldsOf Mi Jz ?_)));dsimp only;refine aa (wpAny_setEntries_of ho hd hf ?_);rw [if_neg (by simp)];refine aa ?_;unfold seqItems?;refine aa (wpAny_load ht ?_);rw [W0];refine ag ?_;dsimp only;rw [Int.toNat_natCast,hp];dsimp only;refine aa ?_;unfold setNextDrawn;refine aa (wpAny_setState_of ho hd hf ?_);dsimp only;rw [if_neg (by simp),Int.toNat_natCast,he];refine ag ?_;refine aa (wpAny_setField Mi Jz (by simp) ?_);exact ag ⟨_,rfl,ag (hQ _ hit.Ym (bK ..))⟩
def Mj {i:Nat}{Q:Option Value->Shared->Prop} (hh:A.handled=none) (hit:nI s.heap it a (.ref tp) i es.size ep) (ho:s.heap.get? a=some o) (hd:o.data=.set es ep t) (hf:t.fits es.size=true)
  (ht:s.heap.get? tp=some ot) (W0:ot.data=.seq ps m) (hp:ps[i]?=none)
  (hQ:∀h',Heap.ExtBut it s.heap h'->Q none { s with heap:=h' }):wpAny (model prog w) A (pyNext (.ref it)) Q E s:=by
 obtain ⟨ob,Mi,hc,Jz⟩:=id hit;unfold pyNext;refine aa (wpAny_attempt (cj (name:=Str.ofString "__next__") hit.typeIs jX (bI jX hit.typeIs wD ?_ (zT _))));unfold Builtin.«set_iterator.__next__»;refine aa (ag (aa (wpAny_fieldsOf Mi Jz ?_)));dsimp only;refine aa (wpAny_setEntries_of ho hd hf ?_);rw [if_neg (by simp)];refine aa ?_;unfold seqItems?;refine aa (wpAny_load ht ?_);rw [W0];refine ag ?_;dsimp only;rw [Int.toNat_natCast,hp];dsimp only;refine aa (wpAny_setField Mi Jz (by simp) ?_);have h1:(s.heap.update it (Obj.mapFields (·.setIfInBounds 0 (rawInt 0)))).get? it=some (Obj.mapFields (·.setIfInBounds 0 (rawInt 0)) ob):=b7 _ Mi (Obj.isFreed_of_fields (b9 Jz _));refine aa (wpAny_setField (s:={ s with heap:=s.heap.update it (Obj.mapFields (·.setIfInBounds 0 (rawInt 0))) }) h1 (b9 Jz _) (by simp) (aa ?_));simp only [newExc,newTuple];refine aa (aZ ?_ (by size_fits));refine aa (m:=firstArgMember _ _) (wpAny_of_eq (a:=Value.none) (by first | rfl | (simp only [firstArgMember];rfl)) (aZ ?_ (by size_fits)));simp only [raiseNew];refine aa (wpAny_handled ?_);rw [show A.in1.handled=none from hh];refine aa (ag (wpAny_throw ?_));refine aa (wpAny_isInstance (T:="StopIteration") (b:=true) (by exact ⟨_,aB _ rfl,rfl⟩) isSubtype_stop ?_);exact ag (hQ _ ((((bK ..).trans (bK ..)).extBut.push _).push _))
end
def Hd:Slot "set_iterator" "__iter__" "set_iterator.__iter__" :=
 .of (owner:="set_iterator") (n:="__iter__") (by rw [typeLookup_type,builtinLookup_eq_fast];kernel_rfl) (by decide +kernel) (by decide +kernel) (by decide +kernel) (by first | exact .inl (by decide +kernel) | exact .inr (by decide +kernel)) (by rw [isSubtype_type];kernel_rfl)
def Ml:entryFor table "set_iterator.__iter__"=some Builtin.«dict_keyiterator.__iter__»:=entryFor_alias (id':="dict_keyiterator.__iter__") (by kernel_rfl) rfl (by decide +kernel) (by kernel_rfl)
def OL (a:Value):argsOk "set_iterator.__iter__" ⟨[a],[]⟩:=by
 unfold argsOk;rw [signature?_of (id:="set_iterator.__iter__") (n:=['_','_','r','e','t','i','_','_']) (o:=['r','o','t','a','r','e','t','i','_','t','e','s']) (by kernel_rfl) Hb];kernel_rfl
theorem E3 {α β:Type}{f:α->Option β}{d:β}:∀{l:List α},(∀x∈l,f x≠none)->l.filterMap f=l.map fun x=>(f x).getD d
 | [],_=>rfl
 | x::l,h=>by
  have ih:=E3 (d:=d) fun y hy=>h y (aw _ hy)
  cases q:f x with
  | none=>exact absurd q (h x aj)
  | some y=>rw [List.filterMap_cons_some q,List.map_cons,ih,q];rfl
def nI.at {h h':Heap}{it a:Addr}{f0:Value}{i n ep:Nat} (x:nI h it a f0 i n ep) (e:∀o,h.get? it=some o->h'.get? it=some o):nI h' it a f0 i n ep:=let ⟨o,ho,r⟩:=x;⟨o,e _ ho,r⟩
section
variable {prog:Program}{w:World}{A:Around}{E:Value->Shared->Prop}{s:Shared}{it a tp:Addr}{o ot:Obj}{es:Array (Int×Value)}{ep:Nat}{t:SetTable}{ps:Array Value}{m:Nat}
def E4 {f0:Value}{i n:Nat}{Q:Value->Shared->Prop} (hit:nI s.heap it a f0 i n ep) (h:Q (.ref it) s):wpAny (model prog w) A (pyIter (.ref it)) Q E s:=by
 refine wpAny_pyIter_slot hit.typeIs Hd (bI Hd hit.typeIs Ml ?_ (OL _));show wpAny _ _ (ret (.ref it)) _ _ s;exact ag ⟨_,rfl,"set_iterator",_,hit.typeIs,jX.lookup,h⟩
def vz {s:Shared}{h':Heap} (k:Heap.SameBut it s.heap h'):Moved [it] Eq s { s with heap:=h' }:=⟨fun b o hb e=>(k.2 b fun z=>hb (by rw [z];exact bB.mpr rfl)).trans e,rfl,rfl,rfl,ao _⟩
def xQ {s:Shared}{h':Heap} (k:Heap.ExtBut it s.heap h'):Moved [it] Eq s { s with heap:=h' }:=⟨fun b o hb e=>k b o (fun z=>hb (by rw [z];exact bB.mpr rfl)) e,rfl,rfl,rfl,ao _⟩
def Vf (it a:Addr) (o:Obj) (n ep:Nat) (i:Nat) (s:Shared):Prop:=nI s.heap it a (.int 0 0) i n ep/\s.heap.get? a=some o
def RP (it a:Addr) (o:Obj) (t:SetTable) (n ep:Nat) (i:Nat) (s:Shared):Prop:=∃slot:Nat,nI s.heap it a (.int slot 0) i n ep/\s.heap.get? a=some o/\SetTable.below t.place slot=i
def RQ (it a tp:Addr) (o ot:Obj) (n ep:Nat) (i:Nat) (s:Shared):Prop:=nI s.heap it a (.ref tp) i n ep/\s.heap.get? a=some o/\s.heap.get? tp=some ot
def Mm (hh:A.handled=none) (hd:o.data=.set es ep t) (hf:t.fits es.size=true) (hb:zS w=true) (ne:a≠it) :
  WalksS prog w A it [it,a] [it] Eq es.size (fun i v=>((pickOrder (w.params.setOrder a ep) es).toList.map (·.2))[i]?=some v) (Vf it a o es.size ep) where
 sub:=fun b hb=>by rw [List.mem_singleton.mp hb];exact aj
 grefl:=fun _=>rfl
 gtrans:=fun _ _ _ x y=>x.trans y
 frame:=fun i s h' tk ⟨h1,h2⟩ _ k=>⟨h1.at fun o e=>k _ (by simp) o e,k _ (by simp) _ h2⟩
 item:=fun i s Q E hi ⟨h1,h2⟩ hQ=>by
  have len:(pickOrder (w.params.setOrder a ep) es).size=es.size:=by rw [<-Array.length_toList,(xP _ es).length_eq,Array.length_toList]
  have e:=bh (xs:=pickOrder (w.params.setOrder a ep) es) (i:=i) (by omega);refine Dz (slot:=0) (nx:=0) h1 h2 hd hf (fun A' E' Q' q=>Hc h2 hd hf hb e q) fun h' z1 z2=>hQ _ _ ?_ ⟨z1,(z2.2 a ne).trans h2⟩ (vz z2)
  rw [List.getElem?_map,Array.getElem?_toList,e];rfl
 done:=fun s Q E ⟨h1,h2⟩ hQ=>by
  have len:(pickOrder (w.params.setOrder a ep) es).size=es.size:=by rw [<-Array.length_toList,(xP _ es).length_eq,Array.length_toList]
  have e:(pickOrder (w.params.setOrder a ep) es)[es.size]?=none:=Array.getElem?_eq_none (by omega);exact DB (slot:=0) hh h1 h2 hd hf (fun A' E' Q' q=>Hc h2 hd hf hb e q) fun h' z=>hQ _ (xQ z)
 self:=fun i s Q E ⟨h1,_⟩ q=>E4 h1 q
def JB (hh:A.handled=none) (hd:o.data=.set es ep t) (hf:t.fits es.size=true) (hb:zS w=false) (WZ:(!t.plain&&decide (es.size>1))=false) (hl:t.led=true) (up:Up t.place) (ne:a≠it) :
  WalksS prog w A it [it,a] [it] Eq es.size (fun i v=>(es.toList.map (·.2))[i]?=some v) (RP it a o t es.size ep) where
 sub:=fun b hb=>by rw [List.mem_singleton.mp hb];exact aj
 grefl:=fun _=>rfl
 gtrans:=fun _ _ _ x y=>x.trans y
 frame:=fun i s h' tk ⟨slot,h1,h2,h3⟩ _ k=>⟨slot,h1.at fun o e=>k _ (by simp) o e,k _ (by simp) _ h2,h3⟩
 item:=fun i s Q E hi ⟨slot,h1,h2,h3⟩ hQ=>by
  have sz:t.place.size=es.size:=by unfold SetTable.fits at hf;simp only [Bool.and_eq_true,beq_iff_eq] at hf;exact hf.1
  have e:=bh (xs:=es) (i:=i) hi;have e2:=bh (xs:=t.place) (i:=i) (by omega);generalize t.place[i]'(by omega)=j at e2;refine Dz (nx:=j+1) (x:=es[i].2) h1 h2 hd hf (fun A' E' Q' q=>DC h2 hd hf hb WZ hl h3 (by rw [e,e2];exact q)) fun h' z1 z2=>hQ _ _ ?_ ⟨j+1,z1,(z2.2 a ne).trans h2,Jw up e2⟩ (vz z2)
  rw [List.getElem?_map,Array.getElem?_toList,e];rfl
 done:=fun s Q E ⟨slot,h1,h2,h3⟩ hQ=>by
  have e:es[es.size]?=none:=Array.getElem?_eq_none (ao _);exact DB hh h1 h2 hd hf (fun A' E' Q' q=>DC h2 hd hf hb WZ hl h3 (by rw [e];exact q)) fun h' z=>hQ _ (xQ z)
 self:=fun i s Q E ⟨slot,h1,_⟩ q=>E4 h1 q
def JC {ord:List Nat} (hh:A.handled=none) (hd:o.data=.set es ep t) (hf:t.fits es.size=true) (hp:ord.Perm (List.range es.size)) (W0:ot.data=.seq (ord.map fun j=>Value.int (j:Nat) 0).toArray m) (ne:a≠it) (ne2:tp≠it) :
  WalksS prog w A it [it,a,tp] [it] Eq es.size (fun i v=>(ord.filterMap fun j=>es[j]?.map (·.2))[i]?=some v) (RQ it a tp o ot es.size ep) where
 sub:=fun b hb=>by rw [List.mem_singleton.mp hb];exact aj
 grefl:=fun _=>rfl
 gtrans:=fun _ _ _ x y=>x.trans y
 frame:=fun i s h' tk ⟨h1,h2,h3⟩ _ k=>⟨h1.at fun o e=>k _ (by simp) o e,k _ (by simp) _ h2,k _ (by simp) _ h3⟩
 item:=fun i s Q E hi ⟨h1,h2,h3⟩ hQ=>by
  have len:ord.length=es.size:=by rw [hp.length_eq,List.length_range]
  have ej:=aI (l:=ord) (i:=i) (by omega);have hj:ord[i]'(by omega)<es.size:=List.mem_range.mp (hp.mem_iff.mp (List.getElem_mem _));generalize ord[i]'(by omega)=j at ej hj;have e:=bh (xs:=es) (i:=j) hj;have full:(ord.filterMap fun j=>es[j]?.map (·.2))=ord.map fun j=>(es[j]?.map (·.2)).getD .none:=by
   refine E3 fun k hk=>?_
   rw [Array.getElem?_eq_getElem (List.mem_range.mp (hp.mem_iff.mp hk))];exact fun z=>nomatch z
  refine JA (place:=j) h1 h2 hd hf h3 W0 (by simp [ej]) e fun h' z1 z2=>hQ _ _ ?_ ⟨z1,(z2.2 a ne).trans h2,(z2.2 tp ne2).trans h3⟩ (vz z2)
  rw [full,List.getElem?_map,ej,Option.map_some,e];rfl
 done:=fun s Q E ⟨h1,h2,h3⟩ hQ=>by
  have len:ord.length=es.size:=by rw [hp.length_eq,List.length_range]
  exact Mj hh h1 h2 hd hf h3 W0 (by simp [<-len]) fun h' z=>hQ _ (xQ z)
 self:=fun i s Q E ⟨h1,_⟩ q=>E4 h1 q
end
section
variable {prog:Program}{w:World}{A:Around}{E:Value->Shared->Prop}{s:Shared}{a:Addr}{o:Obj}{es:Array (Int×Value)}{ep:Nat}{t:SetTable}
structure Vg (prog:Program) (w:World) (a:Addr) (es:Array (Int×Value)) (s s':Shared) (it:Addr):Prop where
 walk:∃(vals:List Value) (fp:List Addr) (St:Nat->Shared->Prop),vals.Perm (es.toList.map (·.2))/\(∀A':Around,A'.handled=none->WalksS prog w A' it fp [it] Eq es.size (fun i v=>vals[i]?=some v) St)/\St 0 s'/\∀b∈fp,b=a\/s.heap.objs.size<=b
 kept:∀b o,s.heap.get? b=some o->s'.heap.get? b=some o
 gens:s'.gens=s.gens
 os:s'.os=s.os
 fresh:s.heap.objs.size<=it
def range_all (es:Array (Int×Value)):((List.range es.size).filterMap fun j=>es[j]?.map (·.2))=es.toList.map (·.2):=by
 rw [E3 (d:=.none) fun k hk=>by rw [Array.getElem?_eq_getElem (List.mem_range.mp hk)];exact fun z=>nomatch z];refine List.ext_getElem (by simp) fun i h1 h2=>?_
 simp only [List.length_map,List.length_range] at h1;simp [h1]
def Vh {Q:Value->Shared->Prop} (ho:s.heap.get? a=some o) (hex:o.ExactSet) (hd:o.data=.set es ep t) (hf:t.fits es.size=true) (ti:TI t (!zS w)) (hb:es.size<scanBound)
  (hQ:∀it s',Vg prog w a es s s' it->Q (.ref it) s'):wpAny (model prog w) A (pyIter (.ref a)) Q E s:=by
 have hT:s.TypeIs (.ref a) "set":=⟨o,ho,hex.1⟩;have lt:=az ho;refine wpAny_pyIter_slot hT PySem.F.slot_set_iter (bI PySem.F.slot_set_iter hT Jy ?_ (PySem.F.args_set_iter_1 _));unfold Builtin.«frozenset.__iter__» Builtin.Frozenset.slot0 slotArgs;simp only [List.isEmpty_nil,Bool.not_true,Bool.false_eq_true,↓reduceIte,bind_assoc,List.length_nil,bne_self_eq_false];unfold Builtin.Frozenset.addrOf Builtin.Frozenset.sizeOf;refine aa (ag ?_)
 try dsimp only
 refine aa (ag ?_);refine aa (aa (wpAny_setEntries_of ho hd hf (ag ?_)));refine aa ?_;unfold setDrawn;refine aa (wpAny_setState_of ho hd hf ?_);dsimp only;refine aa (aa (wpAny_askSetting (ag (ag ?_))));show wpAny _ A.in1 (if (!zS w&&(!t.plain&&decide (es.size>1)))=true then _ else _) _ E s;have sz:∀(h:Heap) (ob:Obj),(h.push ob).objs.size=h.objs.size+1:=fun h ob=>Heap.size_push ..
 by_cases q:(!zS w&&(!t.plain&&decide (es.size>1)))=true
 ·rw [if_pos q]
  refine aa (Dy es.size (List.range es.size) s _ List.length_range fun ord d p=>?_);have lo:ord.length=es.size:=by rw [p.length_eq,List.length_range]
  simp only [newTuple];refine aa (aZ ?_ (by show (List.map _ ord).toArray.size<=sizeLine;rw [List.size_toArray,List.length_map,lo];exact ay (bj hb) (by decide)));refine aa (wpAny_setEpoch_of (o:=o) (ai _ ho) hd hf ?_);refine aa (aZ (ag ⟨_,rfl,"set_iterator",_,⟨_,aB _ rfl,rfl⟩,jX.lookup,hQ _ _ ⟨?_,?_,rfl,rfl,?_⟩⟩))
  ·have e1:(s.heap.push { cls:=.type "tuple",data:=.seq (ord.map fun (i:Nat)=>rawInt (i:Int)).toArray }).get? s.heap.objs.size=some { cls:=.type "tuple",data:=.seq (ord.map fun (i:Nat)=>rawInt (i:Int)).toArray }:=aB _ rfl
   have ea:(s.heap.push { cls:=.type "tuple",data:=.seq (ord.map fun (i:Nat)=>rawInt (i:Int)).toArray }).get? a=some o:=ai _ ho;have WK:=sz s.heap { cls:=.type "tuple",data:=.seq (ord.map fun (i:Nat)=>rawInt (i:Int)).toArray };generalize s.heap.push { cls:=.type "tuple",data:=.seq (ord.map fun (i:Nat)=>rawInt (i:Int)).toArray }=H1 at e1 WK ea ⊢;have n1:a≠H1.objs.size:=by rw [WK];exact aP (cU lt)
   have n2:s.heap.objs.size≠H1.objs.size:=by rw [WK];exact aP (Nat.lt_succ_self _)
   refine ⟨_,[H1.objs.size,a,s.heap.objs.size],_,(p.filterMap fun j=>es[j]?.map (·.2)).trans (by rw [range_all]),fun A' hh=>JC (tp:=s.heap.objs.size) hh hd hf p rfl n1 n2,⟨⟨_,aB _ rfl,rfl,rfl⟩,ai _ ea,ai _ e1⟩,fun b hb'=>?_⟩;simp only [List.mem_cons,List.not_mem_nil,or_false] at hb';rcases hb' with rfl | rfl | rfl
   ·right;rw [WK];exact cf _
   ·exact .inl rfl
   ·exact .inr (ao _)
  ·exact fun b o e=>ai _ (ai _ e)
  ·dsimp only;rw [sz];exact cf _
 ·rw [if_neg q]
  refine aa (ag (aa (wpAny_setEpoch_of ho hd hf (aa (aZ (ag ⟨_,rfl,"set_iterator",_,⟨_,aB _ rfl,rfl⟩,jX.lookup,hQ _ _ ⟨?_,?_,rfl,rfl,ao _⟩⟩))))))
  ·have ne:a≠s.heap.objs.size:=aP lt
   have g1:nI (s.heap.push { cls:=.type "set_iterator",data:=.fields #[.int 0 0,.int 0 0,.ref a,.int es.size 0,.int ep 0] }) s.heap.objs.size a (.int 0 0) 0 es.size ep:=⟨_,aB _ rfl,rfl,rfl⟩;cases Ze:zS w with
   | true =>
    refine ⟨_,[s.heap.objs.size,a],_,(xP (w.params.setOrder a ep) es).map _,fun A' hh=>Mm hh hd hf Ze ne,⟨g1,ai _ ho⟩,fun b hb'=>?_⟩;rcases aE.mp hb' with rfl | hb'
    ·exact .inr (ao _)
    ·exact .inl (bB.mp hb')
   | false =>
    have hl:t.led=true:=by rw [ti.led,Ze];rfl
    have WZ:(!t.plain&&decide (es.size>1))=false:=by rw [Ze] at q;simpa using q
    refine ⟨_,[s.heap.objs.size,a],_,List.Perm.refl _,fun A' hh=>JB hh hd hf Ze WZ hl ti.up ne,⟨0,g1,ai _ ho,RO ti.up⟩,fun b hb'=>?_⟩;rcases aE.mp hb' with rfl | hb'
    ·exact .inr (ao _)
    ·exact .inl (bB.mp hb')
  ·exact fun b o e=>ai _ e
end
section
variable {prog:Program}{w:World}{A:Around}{E:Value->Shared->Prop}{s:Shared}{a:Addr}{o:Obj}{es:Array (Int×Value)}{ep:Nat}{t:SetTable}
def OM {vals:List Value}{acc:Array Value}{n:Nat} (hn:vals.length=n) (h:ItemsOf (fun i v=>vals[i]?=some v) acc n):acc.toList=vals:=by
 refine List.ext_getElem? fun i=>?_
 rw [Array.getElem?_toList]
 by_cases z:i<acc.size
 ·have e:=bh z
  rw [h.2 i _ e,e]
 ·rw [Array.getElem?_eq_none (by omega),List.getElem?_eq_none (by have:=h.1;omega)]
def Mn {Q:List Value->Shared->Prop} (hh:A.handled=none) (ho:s.heap.get? a=some o) (hex:o.ExactSet) (hd:o.data=.set es ep t) (hf:t.fits es.size=true) (ti:TI t (!zS w)) (hb:es.size<scanBound)
  (hQ:∀s' (vals:List Value),vals.Perm (es.toList.map (·.2))->(∀b o,s.heap.get? b=some o->s'.heap.get? b=some o)->s'.gens=s.gens->s'.os=s.os->s.heap.objs.size<s'.heap.objs.size->Q vals s') :
  wpAny (model prog w) A (collect (.ref a)) Q E s:=by
 have lt:=az ho;unfold collect;refine aa (wpAny_runValue (bN PySem.F.entry_proto_collect ?_));rw [Around.under_plainId PySem.F.plain_proto_collect _];show wpAny _ A.in1 (newList [] >>= fun l=>again (.builtin "list.__iadd__" ⟨[l,.ref a],[]⟩)) _ _ s;refine aa (aZ (ag ⟨de PySem.F.plain_list_iadd _,bN PySem.F.entry_list_iadd ?_⟩));rw [Around.under_plainId PySem.F.plain_list_iadd _];show wpAny _ A.in1 (Builtin.List.listExtendWith (.ref s.heap.objs.size) (.ref a) (.ref s.heap.objs.size)) _ _ _;have g0:(s.heap.push { cls:=.type "list",data:=.seq ([]:List Value).toArray }).get? s.heap.objs.size=some (seqObj "list" #[] 0):=aB _ rfl;have k0:∀b o,s.heap.get? b=some o->(s.heap.push { cls:=.type "list",data:=.seq ([]:List Value).toArray }).get? b=some o:=fun b o e=>ai _ e
 have z0:(s.heap.push { cls:=.type "list",data:=.seq ([]:List Value).toArray }).objs.size=s.heap.objs.size+1:=Heap.size_push ..;generalize s.heap.push { cls:=.type "list",data:=.seq ([]:List Value).toArray }=H0 at g0 k0 z0 ⊢;unfold Builtin.List.listExtendWith;have hT:Shared.TypeIs { s with heap:=H0 } (.ref a) "set":=⟨o,k0 _ _ ho,hex.1⟩;refine aa (wpAny_typeOf hT ?_);have h1:Builtin.List.listSameRef (.ref s.heap.objs.size) (.ref a)=false:=by
  show (s.heap.objs.size==a)=false;exact beq_false_of_ne (Nat.ne_of_gt lt)
 rw [if_neg (by rw [h1];decide)];refine aa (Vh (s:={ s with heap:=H0 }) (k0 _ _ ho) hex hd hf ti hb fun it s' Wk=>?_);refine aa (bW ?_);have hT':s'.TypeIs (.ref a) "set":=⟨o,Wk.kept _ _ (k0 _ _ ho),hex.1⟩;unfold Builtin.List.listLengthHint;refine aa (wpAny_specialOf hT' PySem.F.slot_set_len.lookup ?_)
 wp_delta
 refine aa (wpAny_isInstance (b:=true) hT' (by rw [isSubtype_type];kernel_rfl) ?_);show wpAny _ A.in1 (typeOf (.ref a) >>= _) _ _ s';refine aa (wpAny_typeOf hT' (ag ?_));rw [if_pos (by decide)];refine aa (wpAny_rule ?_);unfold Builtin.List.listTouch;obtain ⟨vals,fp,St,pv,W,st,hfp⟩:=Wk.walk;have nS:s.heap.objs.size∉fp:=fun z=>by
  rcases hfp _ z with e | e
  ·exact absurd lt (by rw [<-e];exact bQ _)
  ·have e':H0.objs.size<=s.heap.objs.size:=e
   rw [z0] at e';exact absurd e' (Nat.not_succ_le_self _)
 have gS:s'.heap.get? s.heap.objs.size=some (seqObj "list" #[] 0):=Wk.kept _ _ g0;refine aa (aa (listUpdate_at gS rfl ?_ (by decide) (by decide)));have g1:=get?_update_seq gS (·.push .none);refine listUpdate_at (s:={ s' with heap:=s'.heap.update s.heap.objs.size (Obj.mapSeq (·.push .none)) }) g1 rfl ?_ (by decide) (by decide);have g2:=get?_update_seq g1 (·.pop);have sb:Heap.SameBut s.heap.objs.size s'.heap ((s'.heap.update s.heap.objs.size (Obj.mapSeq (·.push .none))).update s.heap.objs.size (Obj.mapSeq (·.pop))):=(bK ..).trans (bK ..);dsimp only;generalize ((s'.heap.update s.heap.objs.size (Obj.mapSeq (·.push .none))).update s.heap.objs.size (Obj.mapSeq (·.pop)))=H2 at g2 sb ⊢;have lv:vals.length=es.size:=by rw [pv.length_eq,List.length_map,Array.length_toList]
 have Ua:St 0 { s' with heap:=H2 }:=(W A.in1 hh).frame 0 s' H2 s'.toks st (ao _) fun b hb o e=>(sb.2 b fun z=>nS (z▸hb)).trans e
 refine ag ⟨de PySem.F.plain_extend_loop _,codeAny_extend_loopS (W A.in1 hh) (ay (bj hb) (by decide)) _ nS _ es.size 0 _ _ _ rfl (bw _) Ua g2 (ItemsOf.nil _) fun s3 acc' c' hm hS' RL=>?_⟩;show wpAny _ A (load s.heap.objs.size >>= _) _ _ s3;refine aa (wpAny_load hS' ?_);rw [<-OM lv RL] at pv;refine ag (hQ s3 acc'.toList pv (fun b ob e=>?_) (hm.gens.symm.trans Wk.gens) (hm.os.trans Wk.os) (az hS'));have lb:=az e;refine hm.heap b ob (fun hb'=>?_) ((sb.2 b (aP lb)).trans (Wk.kept _ _ (k0 _ _ e)));rcases aE.mp hb' with z | z
 ·exact absurd lb (z▸bQ _)
 ·have:H0.objs.size<=b:=by rw [List.mem_singleton.mp z];exact Wk.fresh
  rw [z0] at this;exact absurd (aM (Nat.lt_succ_self _) this) (Nat.not_lt.mpr (bj lb))
end
theorem DD {α:Type} [DecidableEq α]:∀{l m:List α},l.Nodup->(∀x∈l,x∈m)->m.length<=l.length->l.Perm m
 | [],m,_,_,h=>by rw [List.length_eq_zero_iff.mp (Nat.le_zero.mp h)]
 | x::l,m,nd,hs,h=>by
  have hx:=hs x aj;obtain ⟨n1,n2⟩:=List.nodup_cons.mp nd;refine (List.Perm.cons x (DD n2 (fun y hy=>?_) ?_)).trans (List.perm_cons_erase hx).symm
  ·exact (List.mem_erase_of_ne fun (e:y=x)=>n1 (e▸hy)).mpr (hs y (aw _ hy))
  ·rw [List.length_erase_of_mem hx]
   simp only [List.length_cons] at h;omega
section
variable {prog:Program}{w:World}{A:Around}{E:Value->Shared->Prop}{s:Shared}{a:Addr}
def RR {vals:List Value}:(∀v∈vals,∃k,(intKind prog w).is k v=true)->∃ks:List Int,IntsAre vals ks/\∀k,(k∈ks<->∃v∈vals,(intKind prog w).is k v=true):=by
 induction vals with
 | nil=>exact fun _=>⟨[],.nil,fun k=>by simp⟩
 | cons v vs ih =>
  intro h;obtain ⟨k,hk⟩:=h v aj;obtain ⟨ks,h1,h2⟩:=ih fun u hu=>h u (aw _ hu)
  obtain ⟨t,rfl⟩:=Value.isInt_shape (k:=k) (v:=v) hk;refine ⟨k::ks,.cons k t h1,fun j=>?_⟩;rw [List.mem_cons,h2 j]
  constructor
  ·rintro (rfl | ⟨u,hu,hj⟩)
   ·exact ⟨_,aj,hk⟩
   ·exact ⟨u,aw _ hu,hj⟩
  ·rintro ⟨u,hu,hj⟩
   rcases aE.mp hu with rfl | hu
   ·exact .inl ((intKind prog w).inj _ j k hj hk)
   ·exact .inr ⟨u,hu,hj⟩
theorem IntsAre.len:∀{vs:List Value}{ns:List Int},IntsAre vs ns->vs.length=ns.length
 | _,_,.nil=>rfl
 | _,_,.cons n t h=>by rw [List.length_cons,List.length_cons,IntsAre.len h]
def ON {S:Int->Bool}{n:Nat}{fm:List Int}{Q:Value->Shared->Prop} (hh:A.handled=none) (hJ:rH prog w s.heap a S n (!zS w)) (nd:fm.Nodup) (hS:∀k,S k=true<->k∈fm) (hn:n=fm.length) (yy:n<64)
  (hQ:∀(s':Shared) (ms:List Int) (D:Addr) (out:Array Value) (e:Nat),ms.Pairwise (·<·)->(∀t,t∈ms<->t∈fm)->(∀b o,s.heap.get? b=some o->s'.heap.get? b=some o)->s'.gens=s.gens->s'.os=s.os ->
   s'.heap.get? D=some (seqObj "list" out e)->IntsAre out.toList ms->s.heap.objs.size<=D->Q (.ref D) s'):wpAny (model prog w) A (call (.builtin "sorted") [.ref a]) Q E s:=by
 obtain ⟨o,es,ep,t,ho,hex,hd,RN,E2,hb,hf,en,ti⟩:=hJ;refine Calls.call_function_entry kind_sorted plain_sorted entry_sorted (args_sorted1 _) ?_;unfold Builtin.«sorted»;refine aa (m:=checkCount "sorted" 1 1 _) (ag ?_);refine aa (Mn (by simp [hh]) ho hex hd hf ti hb fun s1 vals pv k1 eg eo zs=>?_);obtain ⟨ks,ik,mk⟩:=RR (prog:=prog) (w:=w) (vals:=vals) fun v hv=>by
  obtain ⟨e,he,rfl⟩:=ak.mp (pv.mem_iff.mp hv);obtain ⟨⟨k,hk,_⟩,_⟩:=RN e he;exact ⟨k,hk⟩
 have lk:ks.length=n:=by rw [<-IntsAre.len ik,pv.length_eq,List.length_map,Array.length_toList,en]
 have mem:∀k,k∈ks<->k∈fm:=fun k=>by
  rw [mk k,<-hS k,E2 k]
  constructor
  ·rintro ⟨v,hv,hk⟩
   obtain ⟨e,he,rfl⟩:=ak.mp (pv.mem_iff.mp hv);exact ⟨e,he,hk⟩
  ·rintro ⟨e,he,hk⟩
   exact ⟨e.2,pv.mem_iff.mpr (List.mem_map_of_mem he),hk⟩
 have nk:ks.Nodup:=(DD nd (fun x hx=>(mem x).mpr hx) (by omega)).nodup_iff.mp nd;refine aa (wpAny_newList ?_ (by rw [IntsAre.len ik,lk];exact ay (bj yy) (by decide)));have MZ:(s1.heap.push (seqObj "list" vals.toArray 0)).get? s1.heap.objs.size=some (seqObj "list" vals.toArray 0):=aB _ rfl;show wpAny _ _ _ _ _ { s1 with heap:=s1.heap.push (seqObj "list" vals.toArray 0) };refine aa (bW (bI slot_list_sort ⟨_,MZ,rfl⟩ entry_list_sort (list_sort_tree MZ ik (by rw [IntsAre.len ik,lk];exact yy) fun out ms a1 a2 a3=>⟨_,rfl,?_⟩) (args_list_sort _)));have lt1:∀b o,s.heap.get? b=some o->b<s1.heap.objs.size:=fun b o e=>az (k1 b o e)
 obtain ⟨e,he⟩:=sortedHeap_at (out:=out) MZ;refine ag ⟨_,rfl,hQ _ ms _ out e ?_ (fun t=>(a2.mem_iff).trans (mem t)) (fun b o z=>?_) eg eo he a1 ?_⟩
 ·refine (List.Pairwise.and a3 (a2.nodup_iff.mpr nk)).imp fun {x y} ⟨h1,h2⟩=>?_
  omega
 ·have lb:=lt1 b o z
  show (sortedHeap (s1.heap.push (seqObj "list" vals.toArray 0)) s1.heap.objs.size vals out).get? b=some o;rw [sortedHeap_old (Nat.ne_of_lt lb) (by rw [Heap.size_push];exact cU lb)];exact ai _ (k1 b o z)
 ·exact bj zs
end
end Ha
namespace Ha
theorem DF {α:Type} [DecidableEq α]:∀{l m:List α},l.Nodup->(∀x∈l,x∈m)->l.length<=m.length
 | [],m,_,_=>bw _
 | x::l,m,nd,hs=>by
  have hx:=hs x aj;obtain ⟨n1,n2⟩:=List.nodup_cons.mp nd;have:=DF (m:=m.erase x) n2 fun y hy=>(List.mem_erase_of_ne fun (e:y=x)=>n1 (e▸hy)).mpr (hs y (aw _ hy))
  rw [List.length_erase_of_mem hx] at this;have:0<m.length:=List.length_pos_of_mem hx;rw [List.length_cons];omega
end Ha
namespace Ha
open PySem PyProof.Rows
section
variable {prog:Program}{w:World}{A:Around}{E:Value->Shared->Prop}{s:Shared}
end
end Ha
namespace Dl
open PySem PySem.Spec PyProof.Rows L2
noncomputable def K2 (P:Program) (w:World) (p:Addr) (ns:List Int):HO:=.ext fun h=>Ha.rH P w h p (Ha.seen (fun i=>ns.getD i 0) ns.length) (firstMet (fun i=>ns.getD i 0) ns.length).length (!Ha.zS w)
def uk:RC:=fun ds Q=>match ds with
 | [d]=>∃l,EI d=some l/\∃ns,yx l=some ns/\ns.length<64/\∀ms:List Int,ms.Pairwise (·<·)->(∀t,t∈ms<->t∈ns)->Q (.lst (ms.map D.int))
 | _=>False
section
variable {X:Cx}{pos p:Pos}
def Yn (P:Program) (w:World) (K:Frag):List V->Hp->VK->Prop:=fun xs H Q=>∃(p:Addr) (ns:List Int),xs=[.ref p]/\kC K H p (ns.map V.int)/\ns.length<64/\∀l:Addr,H l=none->Q (.ref l) (upd H l (K2 P w l ns))
def Mo (hc:X.calm=true):fU X (.type "set") (Yn X.prog X.w X.K):=by
 rintro pins s U H xs us Q I r ⟨p,ns,rfl,hq,yy,q⟩;obtain ⟨u,rfl,ru⟩:=r.one;cases ru;have fin:∀(its:List Value),Vals (ns.map V.int) its->IntsAre its.toArray.toList ns/\its.toArray.size=ns.length:=fun its rv=>⟨intsAre_of rv,by have el:=rv.length;rw [List.length_map] at el;rw [List.size_toArray,el]⟩
 have end':∀(h':Heap) (tk:Nat),Ha.rH X.prog X.w h' s.heap.objs.size (Ha.seen (fun i=>ns.getD i 0) ns.length) (firstMet (fun i=>ns.getD i 0) ns.length).length (!Ha.zS X.w)->(∀b o,s.heap.get? b=some o->h'.get? b=some o) ->
   EP X pins U Q (.ref s.heap.objs.size) { s with heap:=h',toks:=tk }:=fun h' tk hS hk=>by
  refine ⟨.ref _,_,I.laid (a:=s.heap.objs.size) (o:=K2 X.prog X.w s.heap.objs.size ns) (t':=tk) hk (ao _) ⟨hS,?_,fun h1 h2 z k=>z.at fun o e=>k _ e⟩,rfl,q _ I.fresh⟩;obtain ⟨o,_,_,_,ho,_⟩:=hS;exact ⟨o,ho⟩
 obtain ⟨its,rv,pl,hz⟩:=I.list hq;obtain ⟨hi,es⟩:=fin its rv;refine Ha.Mg (I.ok.hd hc) pl.isList hi (by rw [es];unfold scanBound;omega) fun h' tk hS hk=>?_
 rw [es] at hS;exact end' h' tk hS hk
def Vi (P:Program) (w:World):List V->Hp->VK->Prop:=fun xs H Q=>∃(p:Addr) (ns:List Int),xs=[.ref p]/\H p=some (K2 P w p ns)/\ns.length<64 /\
 ∀ms:List Int,ms.Pairwise (·<·)->(∀t,t∈ms<->t∈ns)->∀l,H l=none->Q (.ref l) (upd H l (.lst (ms.map V.int)))
def JD (hc:X.calm=true):fU X (.builtin "sorted") (Vi X.prog X.w):=by
 rintro pins s U H xs us Q I r ⟨p,ns,rfl,hp,yy,q⟩;obtain ⟨u,rfl,ru⟩:=r.one;cases ru;obtain ⟨hJ,_,_⟩:=I.dD p _ hp;have lf:=firstMet_length_le (fun i=>ns.getD i 0) ns.length;refine Ha.ON (I.ok.hd hc) hJ (AR _ _) (fun k=>?_) rfl (by omega) fun s' ms D out e p1 p2 k eg eo he hi hD=>?_
 ·unfold Ha.seen
  rw [List.any_eq_true]
  constructor
  ·rintro ⟨x,hx,ex⟩;rw [beq_iff_eq] at ex;exact ex▸hx
  ·exact fun z=>⟨k,z,by simp⟩
 ·have lm:ms.length<=64:=by
   have nd:ms.Nodup:=p1.imp fun {x y} (z:x<y)=>by omega
   have:=Ha.DF nd fun x hx=>(p2 x).mp hx
   omega
  have new:fL X.prog X.w (upd H D (.lst (ms.map V.int))) s'.heap D (.lst (ms.map V.int)):=⟨by rw [List.length_map];exact ay lm (by decide),out.toList,e,lU hi,by rw [he]⟩;exact ⟨.ref D,_,I.call' (ch:=[]) eo (Un.laid k hD (I.dD.fresh hD)) (I.dD.laid k hD new) (eg▸I.bare) (fun b hb=>absurd hb (by simp)),rfl,q ms p1 (fun t=>(p2 t).trans (UO ns t)) D (I.dD.fresh hD)⟩
def CA {a:Expr}{ta:qN}{q cp:Pos} (hc:X.calm=true) (hl:X.mg "sorted"=none) (hr:X.mg "set"=none) (ha:DA X [a] ta) (hg:Gl X "sorted":=by rfl) (hg2:Gl X "set":=by rfl)
  (h1:starEach [a] X.env=(false,eval a X.env)::starEach [] X.env:=by rfl) (h2:(backTo cp (starEach [] X.env)).any (·.1)=false:=by rfl)
  (h3:starEach [Expr.Call (.Name "set" q) [a] [] cp] X.env=(false,eval (Expr.Call (.Name "set" q) [a] [] cp) X.env)::starEach [] X.env:=by rfl) (h4:(backTo pos (starEach [] X.env)).any (·.1)=false:=by rfl) :
  DE X (.Call (.Name "sorted" p) [.Call (.Name "set" q) [a] [] cp] [] pos) (bg uk ta) :=
 cN (oP (JD hc) hg hl (by rfl) (gm (ua (Mo hc) hg2 hr (by rfl) ha (by decide) (by decide) h1 h2) kD h3) (by decide) (by decide) h3 h4) fun U H Q2 hx=>hx.el fun n Z G Q R h k =>
  ⟨n,Z,G,_,R,h,fun vs G1 H1 ds Z1 R1 s1 d1 h1=>by
   unfold uk at h1
   split at h1
   ·rename_i d
    obtain ⟨l,e0,ns,e,yy,hq⟩:=h1;obtain ⟨v,rfl,dv⟩:=wo d1;unfold EI at e0
    split at e0
    case h_2=>cases e0
    cases e0;obtain ⟨b,ws,rfl,hb,lb⟩:=dv.lst_inv;rw [vp e] at lb;have ev:ws=ns.map V.int:=bP.AO lb;subst ev;have hb:kC X.K H1 b (ns.map V.int):=R1.sub.seq hb;refine ⟨b,ns,rfl,hb,yy,fun r hr'=>?_⟩;have hG:G1 r=none:=R1.sub.free hr';have R2:Rel X.K n Z1 U G1 (upd H1 r (K2 X.prog X.w r ns)):=R1.other hG (R1.al _ hr') (R1.II hr') _;refine ⟨r,ns,rfl,aO,yy,fun ms p1 p2 l hl'=>?_⟩;exact k _ _ _ _ Z1 (R2.laid hl' _) (s1.trans (bE (R2.sub.free hl') _)) (.lst (kC.of aO) ((bP.ints ms).up (bE (R2.sub.free hl') _))) (hq ms p1 p2)
   ·exact h1.elim⟩
end
noncomputable def K3 (i:Nat) (f:Str) (Z:Ev):Option D:=match Z[i]? with
 | some (.rc _ fs)=>(match fs.lookup f with
  | some (.sh d)=>some d
  | _=>none)
 | _=>none
noncomputable def gj (i:Nat) (f:Str) (Z:Ev):Option (List (Key×D)):=match Z[i]? with
 | some (.rc _ fs)=>(match fs.lookup f with
  | some (.dc l)=>some l
  | _=>none)
 | _=>none
noncomputable def yF (i:Nat) (f:Str) (s:Fl) (Z:Ev):Ev:=match Z[i]? with
 | some (.rc h fs)=>Z.set i (.rc h (fN f s fs))
 | _=>Z
noncomputable def K4 (i:Nat) (f:Str) (Z:Ev):Bool:=match Z[i]? with
 | some (.rc _ fs)=>decide (fs.length<999)&&((fs.lookup f).isSome&&(fs.lookup ("":Str)).isNone)
 | _=>false
def zl (i:Nat) (f:Str):A0:=fun Z Q=>match K3 i f Z with
 | some d=>Q d
 | none=>False
def He (i:Nat) (f:Str) (te:fV):dA:=fun E Z=>te Z fun d Z1=>K4 i f Z1=true/\E.nx (yF i f (.sh d) Z1)
def vA (i:Nat) (f:Str) (tx:A0):A0:=fun Z Q=>match gj i f Z with
 | some l=>tx Z fun z=>∃k d,zk z=some k/\lV l k=some d/\Q d
 | none=>False
def E5 (i:Nat) (f:Str) (tx tz:A0):dA:=fun E Z=>match gj i f Z with
 | some l=>tx Z fun d=>tz Z fun z=>∃k,zk z=some k/\l.length<sizeLine/\E.nx (yF i f (.dc (putD l k d)) Z)
 | none=>False
def E6 (i:Nat) (f:Str) (tz:A0):dA:=fun E Z=>match gj i f Z with
 | some l=>tz Z fun z=>∃k d,zk z=some k/\lV l k=some d/\E.nx (yF i f (.dc (Dr l k)) Z)
 | none=>False
def E7 (i:Nat) (f:Str) (tx:A0):qO:=fun Z Q=>match gj i f Z with
 | some l=>tx Z fun z=>∃k,zk z=some k/\Q (!(lV l k).isSome) Z
 | none=>False
def Bi (i:Nat) (f:Str):fV:=fun Z Q=>match gj i f Z with
 | some l=>∃ts:List Str,l.map (·.1)=ts.map Sum.inr/\ts.length<64/\∀ms:List Str,ms.Perm ts->Il ms->Q (.lst (ms.map .str)) Z
 | none=>False
abbrev Th:=Ev->(List (Str×Fl)->Prop)->Prop
def Vj:Th:=fun _ Q=>Q []
def Zf (f:Str) (tx:A0) (t:Th):Th:=fun Z Q=>tx Z fun d=>t Z fun fs=>Q ((f,.sh d)::fs)
def pDc (f:Str) (t:Th):Th:=fun Z Q=>t Z fun fs=>Q ((f,.dc [])::fs)
def Vk (i:Nat) (t:Th):dA:=fun E Z=>t Z fun fs=>(fs.map (·.1)).Nodup/\fs.length<=15/\E.nx (Z.set i (.rc none fs))
section
variable {K:Frag}{n:En}{G H G' H':Hp}{ow ow':Ow}{i i':Nat}{f:Str}{v:V}{s:Fl}{bU:List (Str×V)}{fs:List (Str×Fl)}{Z:Ev}{U:L2.St}{p q:Addr}{o:HO}
def Mp {d:D} (h:K3 i f Z=some d):∃h0 fs,Z[i]?=some (.rc h0 fs)/\fs.lookup f=some (.sh d):=by
 unfold K3 at h
 split at h
 ·rename_i h0 fs e
  split at h
  ·rename_i d' e2;cases h;exact ⟨h0,fs,e,e2⟩
  ·cases h
 ·cases h
def o6 {l:List (Key×D)} (h:gj i f Z=some l):∃h0 fs,Z[i]?=some (.rc h0 fs)/\fs.lookup f=some (.dc l):=by
 unfold gj at h
 split at h
 ·rename_i h0 fs e
  split at h
  ·rename_i d' e2;cases h;exact ⟨h0,fs,e,e2⟩
  ·cases h
 ·cases h
def Mq (h:K4 i f Z=true):∃h0 fs s,Z[i]?=some (.rc h0 fs)/\fs.length<999/\fs.lookup f=some s/\fs.lookup ("":Str)=none:=by
 unfold K4 at h
 split at h
 ·rename_i h0 fs e
  simp only [Bool.and_eq_true,decide_eq_true_eq] at h;obtain ⟨s,hs⟩:=Option.isSome_iff_exists.mp h.2.1;exact ⟨h0,fs,s,e,h.1,hs,Option.isNone_iff_eq_none.mp h.2.2⟩
 ·cases h
def Bj {h0:Option Nat} (e:Z[i]?=some (.rc h0 fs)) (s:Fl):yF i f s Z=Z.set i (.rc h0 (fN f s fs)):=by
 unfold yF;rw [e]
theorem mC (f:Str):∀bU:List (Str×V),jU (bU.map kx) (Sum.inr f:Key)=bU.lookup f
 | []=>rfl
 | (g,x)::r=>by
  rw [List.map_cons]
  by_cases h:g=f
  ·subst h
   rw [wt (show (kx (g,x)).1=Sum.inr g from rfl)];simp [List.lookup,kx]
  ·rw [wu (fun z=>h (Sum.inr.inj z)),mC f r]
   have hb:(f==g)=false:=bc.mpr fun z=>h z.symm
   simp only [List.lookup,hb]
noncomputable def mapA (f:Str) (v:V) (l:List (Str×V)):List (Str×V):=l.map fun p=>if p.1=f then (p.1,v) else p
def Mr (f:Str) (v:V) (l:List (Str×V)):(mapA f v l).map (·.1)=l.map (·.1):=by
 unfold mapA;rw [List.map_map];refine df fun p _=>?_
 show (if p.1=f then (p.1,v) else p).1=p.1
 split <;> rfl
theorem yG (f g:Str) (v:V):∀l:List (Str×V),(mapA f v l).lookup g=(l.lookup g).map fun x=>if g=f then v else x
 | []=>rfl
 | (k,x)::r=>by
  have ih:=yG f g v r;unfold mapA at ih ⊢;rw [List.map_cons]
  by_cases h:g=k
  ·subst h
   by_cases hf:g=f
   ·rw [if_pos hf];simp [List.lookup,hf]
   ·rw [if_neg hf];simp [List.lookup,hf]
  ·have hb:(g==k)=false:=bc.mpr h
   by_cases hf:k=f
   ·rw [if_pos hf];simp only [List.lookup,hb];exact ih
   ·rw [if_neg hf];simp only [List.lookup,hb];exact ih
def RT {x:V} (h:bU.lookup f=some x):L2.putK (bU.map kx) (Sum.inr f:Key) v=(mapA f v bU).map kx:=by
 unfold L2.putK;rw [wx,mC,h];show List.map _ (bU.map kx)=_;unfold mapA;rw [List.map_map,List.map_map];refine df fun p _=>?_
 show (if (kx p).1=Sum.inr f then ((kx p).1,v) else kx p)=kx (if p.1=f then (p.1,v) else p)
 by_cases e:p.1=f
 ·rw [if_pos e,if_pos (by show Sum.inr p.1=_;rw [e])];rfl
 ·rw [if_neg e];exact if_neg (fun z:(Sum.inr p.1:Key)=Sum.inr f=>e (Sum.inr.inj z))
def uA.mapA (h:uA K G H ow i bU fs) {s0:Fl} (hf:fs.lookup f=some s0) (hv:IG K G H ow i f v s):uA K G H ow i (Dl.mapA f v bU) (fN f s fs):=by
 refine ⟨?_,fun g s' e=>?_⟩
 ·rw [Mr,kE,Dl.sk,h.keys]
  obtain ⟨p,hp,e⟩ : ∃p∈fs,f=p.1:=by
   cases hm:fs.find? (fun p=>f==p.1) with
   | none =>
    have:=List.find?_eq_none.mp hm;have:fs.lookup f=none:=aU.mpr fun p hp=>by simpa using this p hp
    rw [hf] at this;cases this
   | some p =>
    have h2:=List.find?_some hm;exact ⟨p,List.mem_of_find?_eq_some hm,cJ.mp h2⟩
  exact ak.mpr ⟨p,hp,e.symm⟩
 ·rw [iw] at e
  rw [yG]
  by_cases z:g=f
  ·rw [if_pos z] at e
   cases e;subst z;obtain ⟨w,h1,_⟩:=h.at_ g _ hf;exact ⟨v,by rw [h1];simp,hv⟩
  ·rw [if_neg z] at e
   obtain ⟨w,h1,h2⟩:=h.at_ g s' e;exact ⟨w,by rw [h1];simp [z],h2⟩
def uA.keepR {a:Addr}{o':HO} (h:uA K G H ow i bU fs) (ho:ow a=some (i,("":Str))) (hk:fs.lookup ("":Str)=none):uA K G (upd H a o') ow i bU fs:=by
 refine ⟨h.keys,fun g s e=>?_⟩;obtain ⟨w,h1,h2⟩:=h.at_ g s e;have ng:∀p,ow p=some (i,g)->p≠a:=fun p z w=>by
  subst w;rw [ho] at z;cases z;rw [hk] at e;cases e
 refine ⟨w,h1,?_⟩;cases s with
 | sh d=>exact h2
 | ow l=>have ⟨q,vs,g1,g2,g3,g4⟩:=h2;exact ⟨q,vs,g1,by rw [aF (ng q g3)];exact g2,g3,g4⟩
 | dc l=>have ⟨q,vs,g1,g2,g3,g4⟩:=h2;exact ⟨q,vs,g1,by rw [aF (ng q g3)];exact g2,g3,g4⟩
 | fz q l=>exact h2
def Rel.Yo (R:Rel K n Z U G H) {h0:Option Nat}{d:D}{s0:Fl} (e:Z[i]?=some (.rc h0 fs)) (hf:fs.lookup f=some s0) (hk:fs.lookup ("":Str)=none) (hv:Den K G v d):∃(a:Addr) (bU:List (Str×V)),U[i]?=some (some (.ref a))/\H a=some (.dK (bU.map kx))/\bU.length=fs.length /\
  Rel K n (Z.set i (.rc h0 (fN f (.sh d) fs))) U G (upd H a (.dK (L2.putK (bU.map kx) (Sum.inr f:Key) v))):=by
 obtain ⟨ow,ok,gh⟩:=R.gh;obtain ⟨a,bU,g1,g2,g3,g5,g7⟩:=gh i _ e;obtain ⟨x,hx,_⟩:=g7.at_ f _ hf;refine ⟨a,bU,g1,g3,by have:=congrArg List.length g7.keys;simpa using this,?_⟩;rw [RT hx];exact R.A1 ok gh g5 ⟨a,_,g1,g2,aO,g5,uA.mapA (g7.keepR g5 hk) hf hv⟩
def Rel.Bk (R:Rel K n Z U G H) {h0:Option Nat}{l:List (Key×D)} (e:Z[i]?=some (.rc h0 fs)) (hl:fs.lookup f=some (.dc l)) (nf:f≠("":Str)):∃(a:Addr) (bU:List (Str×V)) (q:Addr) (vs:List (Key×V)),U[i]?=some (some (.ref a))/\H a=some (.dK (bU.map kx))/\bU.lookup f=some (.ref q)/\H q=some (.dK vs)/\fW K G vs l /\
  ∀(G' H':Hp) (vs':List (Key×V)) (l':List (Key×D)),Ext G H G' H'->fW K G' vs' l'->Rel K n (Z.set i (.rc h0 (fN f (.dc l') fs))) U G' (upd H' q (.dK vs')):=by
 obtain ⟨ow,ok,gh⟩:=R.gh;obtain ⟨a,bU,g1,g2,g3,g5,g7⟩:=gh i _ e;obtain ⟨w,k1,q,vs,rfl,k2,k3,k4⟩:=g7.at_ f _ hl;refine ⟨a,bU,q,vs,g1,g3,k1,k2,k4,fun G' H' vs' l' x hd=>?_⟩;have ok':IH n G' H' ow:=⟨fun p k hk=>by
  obtain ⟨h1,h2,h3⟩:=ok.is p k hk;refine ⟨?_,ub x.hh h2,h3⟩;cases q:G' p with
  | none=>rfl
  | some w=>exact absurd (x.fr p w q h1) h2⟩
 have gh':∀(i:Nat) (s:Sl),Z[i]?=some s->FX K n G' H' ow i U[i]? s:=fun i s hs=>(gh i s hs).keep x.gg (fun _ _ z=>z) fun p f u _ z=>x.hh p u z
 refine (R.ext x).A1 ok' gh' k3 ⟨a,bU,g1,g2,?_,g5,?_⟩
 ·rw [aF (fun z=>by subst z;rw [k3] at g5;cases g5;exact nf rfl)];exact x.hh _ _ g3
 ·exact (g7.keep x.gg (fun _ _ z=>z) fun p f u _ z=>x.hh p u z).own hl k1 k3 ⟨q,vs',rfl,aO,k3,hd⟩
inductive M4 (K:Frag) (G H:Hp):Hp->List (Str×V)->List (Str×Fl)->Prop
 | nil {H0:Hp}:M4 K G H H0 [] []
 | sh {H0:Hp}{f:Str}{v:V}{d:D}{r:List (Str×V)}{fs:List (Str×Fl)}:Den K G v d->M4 K G H H0 r fs->M4 K G H H0 ((f,v)::r) ((f,.sh d)::fs)
 | dc {H0 H1:Hp}{f:Str}{q:Addr}{r:List (Str×V)}{fs:List (Str×Fl)}:H0 q=none->H1 q≠none->aX H0 H1->H q=some (.dK [])->G q=none->M4 K G H H1 r fs->M4 K G H H0 ((f,.ref q)::r) ((f,.dc [])::fs)
def M4.Yp {H0 H1:Hp} (s:aX H0 H1) (h:M4 K G H H1 bU fs):M4 K G H H0 bU fs:=by
 induction h generalizing H0 with
 | nil=>exact .nil
 | sh a _ ih=>exact .sh a (ih s)
 | dc a b c d e g _=>exact .dc (s.free a) b (s.trans c) d e g
def RcS (K:Frag) (G H:Hp) (m:Addr->Option Str) (f:Str) (v:V):Fl->Prop
 | .sh d=>Den K G v d
 | .dc l=>∃q vs,v=.ref q/\H q=some (.dK vs)/\m q=some f/\fW K G vs l
 | _=>False
def M4.own {H0:Hp} (h:M4 K G H H0 bU fs):∃m:Addr->Option Str,(∀q f,m q=some f->H0 q=none/\G q=none/\H q≠none)/\bU.map (·.1)=fs.map (·.1) /\
  ∀f s,fs.lookup f=some s->∃v,bU.lookup f=some v/\RcS K G H m f v s:=by
 induction h with
 | nil=>exact ⟨fun _=>none,(fun _ _ z=>by cases z),rfl,(fun _ _ z=>by cases z)⟩
 | @sh H0 f v d r fs a _ ih =>
  have ⟨m,m1,m2,m3⟩:=ih;refine ⟨m,m1,by simp [m2],fun g s e=>?_⟩
  by_cases hg:g=f
  ·subst hg
   simp [List.lookup] at e;subst e;exact ⟨v,by simp [List.lookup],a⟩
  ·have hb:(g==f)=false:=bc.mpr hg
   simp only [List.lookup,hb] at e ⊢;exact m3 g s e
 | @dc H0 H1 f q r fs a b c d e0 _ ih =>
  have ⟨m,m1,m2,m3⟩:=ih;refine ⟨fun p=>if p=q then some f else m p,fun p g hp=>?_,by simp [m2],fun g s hs=>?_⟩
  ·by_cases hq:p=q
   ·subst hq;exact ⟨a,e0,by rw [d];exact fun z=>by cases z⟩
   ·simp only [if_neg hq] at hp
    obtain ⟨k1,k2,k3⟩:=m1 p g hp;exact ⟨c.free k1,k2,k3⟩
  ·by_cases hg:g=f
   ·subst hg
    simp [List.lookup] at hs;subst hs;exact ⟨.ref q,by simp [List.lookup],q,[],rfl,d,by simp,.nil⟩
   ·have hb:(g==f)=false:=bc.mpr hg
    simp only [List.lookup,hb] at hs ⊢;obtain ⟨v,h1,h2⟩:=m3 g s hs;refine ⟨v,h1,?_⟩;cases s with
    | sh d=>exact h2
    | dc l =>
     have ⟨q',ws,k1,k2,k3,k4⟩:=h2;have:q'≠q:=fun z=>by subst z;exact b (m1 _ _ k3).1
     exact ⟨q',ws,k1,k2,by simp only [if_neg this];exact k3,k4⟩
    | _=>exact h2.elim
def Rel.record (R:Rel K n Z U G H) (i:Nat) (hp:H p=none) (e:Ext G (upd H p (.dK [])) G' H') (h:M4 K G' H' (upd H p (.dK [])) bU fs):Rel K n (Z.set i (.rc none fs)) (U.set i (some (.ref p))) G' (upd H' p (.dK (bU.map kx))):=by
 have e0:Ext G H G (upd H p (.dK [])):=⟨aX.refl _,R.sub.trans (bE hp _),bE hp _,fun b v e e0=>(by rw [e0] at e;cases e)⟩;have e1:=e0.trans e;have R2:=R.ext e1;obtain ⟨ow,ok,gh⟩:=R.gh;have X7:IH n G' H' ow:=⟨fun p k hk=>by
  obtain ⟨h1,h2,h3⟩:=ok.is p k hk;refine ⟨?_,ub e1.hh h2,h3⟩;cases q:G' p with
  | none=>rfl
  | some w=>exact absurd (e1.fr p w q h1) h2⟩
 have X8:∀(i:Nat) (s:Sl),Z[i]?=some s->FX K n G' H' ow i U[i]? s:=fun i s hs=>(gh i s hs).keep e1.gg (fun _ _ z=>z) fun p f u _ z=>e1.hh p u z
 obtain ⟨m,m1,m2,m3⟩:=h.own;have hpG:G' p=none:=by
  cases z:G' p with
  | none=>rfl
  | some u=>have:=e.fr p u z (R.sub.free hp);rw [aO] at this;cases this
 have mp:∀b g,m b=some g->b≠p/\H b=none:=fun b g hb=>by
  obtain ⟨k1,_,_⟩:=m1 b g hb
  by_cases z:b=p
  ·subst z;rw [aO] at k1;cases k1
  ·rw [aF z] at k1;exact ⟨z,k1⟩
 have owp:∀b k,ow b=some k->b≠p/\m b=none:=fun b k hb=>by
  have h2:=(ok.is b k hb).2.1;refine ⟨fun z=>by subst z;exact h2 hp,?_⟩;cases z:m b with
  | none=>rfl
  | some g=>exact absurd (mp b g z).2 h2
 refine ⟨fun b u q=>?_,R2.eg,fun b u q mm=>?_,fun b q=>?_,R2.fr,⟨fun b=>if b=p then some (i,("":Str)) else match m b with | some g=>some (i,g) | none=>ow b,⟨fun b k hk=>?_⟩,fun j s hs=>?_⟩,by rw [List.length_set,List.length_set];exact R.len⟩
 ·rw [aF (cq q hpG)];exact e.gh b u q
 ·rw [aF (fun z=>by subst z;rw [R.al _ hp] at q;cases q)];exact R2.eh b u q mm
 ·by_cases z:b=p
  ·subst z;exact R.al _ hp
  ·rw [aF z] at q;exact R2.al b q
 ·by_cases z:b=p
  ·subst z;exact ⟨hpG,by rw [aO];exact (fun z=>by cases z),.inl (R.al _ hp)⟩
  ·simp only [if_neg z] at hk
   cases q:m b with
   | some g =>
    obtain ⟨k1,k2,k3⟩:=m1 b g q;exact ⟨k2,by rw [aF z];exact k3,.inl (R.al _ (mp b g q).2)⟩
   | none =>
    rw [q] at hk;obtain ⟨k1,k2,k3⟩:=X7.is b k hk;exact ⟨k1,by rw [aF z];exact k2,k3⟩
 ·rcases kR hs with ⟨ej,rfl,hl⟩ | ⟨ej,hs⟩
  ·subst ej
   refine ⟨p,bU,List.getElem?_set_self (aM hl (Nat.le_of_eq R.len)),(fun a0 z=>by cases z),aO,by simp,⟨m2,fun g s hg=>?_⟩⟩;obtain ⟨w,k1,k2⟩:=m3 g s hg;refine ⟨w,k1,?_⟩;cases s with
   | sh d=>exact k2
   | dc l =>
    have ⟨q,ws,j1,j2,j3,j4⟩:=k2;have nq:=(mp q g j3).1;exact ⟨q,ws,j1,by rw [aF nq];exact j2,by simp only [if_neg nq,j3],j4⟩
   | _=>exact k2.elim
  ·rw [List.getElem?_set_ne ej]
   refine (X8 j s hs).keep (aX.refl _) (fun b g z=>?_) fun b g u z q=>?_
   ·simp only [if_neg (owp b _ z).1,(owp b _ z).2];exact z
   ·rw [aF (owp b _ z).1];exact q
end
theorem Hf:∀(more:List (Str×V)) (acc:List (Str×V)),((acc++more).map (·.1)).Nodup->pW (acc.map kx) (more.map kx)=(acc++more).map kx
 | [],acc,_=>by simp [pW]
 | (f,v)::r,acc,nd=>by
  have hn:jU (acc.map kx) (Sum.inr f:Key)=none:=by
   rw [mC];refine aU.mpr fun p hp=>?_
   rw [List.map_append,List.nodup_append] at nd;have:=nd.2.2 p.1 (ak.mpr ⟨p,hp,rfl⟩) f (by simp)
   simpa using Ne.symm this
  show pW (L2.putK (acc.map kx) (Sum.inr f) v) (r.map kx)=_;rw [Oe v hn];have e:acc.map kx++[((Sum.inr f:Key),v)]=(acc++[(f,v)]).map kx:=by simp [kx]
  rw [e,Hf r (acc++[(f,v)]) (by simpa using nd)];simp
def DP (X:Cx) (pos:Pos) (keys:List (Option Expr)) (values:List Expr) (t:Th):Prop:=∃Jl,X0 X pos keys values Jl /\
 ∀(n:En) (Z:Ev) (U:L2.St) (G H:Hp) (Q:List (Str×Fl)->Prop) (Q2:List (V×V)->Hp->Prop),Rel X.K n Z U G H->t Z Q ->
  (∀bU fs G' H',Ext G H G' H'->M4 X.K G' H' H bU fs->Q fs->Q2 (bU.map fun p=>(V.str p.1,p.2)) H')->ES Jl U H Q2
section
variable {X:Cx}{a e z:Expr}{es:List Expr}{ta te tz:A0}{tA:TXA}{pos Hg:Pos}{f:Str}{ks:List (Option Expr)}{vs:List Expr}{t:Th}{x:Str}{np kp:Pos}{kj:Nat}
def Vl:DP X Hg [] [] Vj:=⟨[],Rt,fun n Z U G H Q Q2 R h k=>k [] [] G H (Ext.refl R.sub) .nil h⟩
def Ti (he:DX X e te) (hr:DP X Hg ks vs t):DP X Hg (some (.Constant (.str f) kj kp)::ks) (e::vs) (Zf f te t):=by
 have ⟨Jl,h1,h2⟩:=hr;refine ⟨_,GN xq he h1,fun n Z U G H Q Q2 R h k=>?_⟩;refine ⟨n,Z,G,_,R,h,fun v G1 H1 d e1 d1 h3=>?_⟩;refine h2 n Z U G1 H1 _ _ (R.ext e1) h3 fun bU fs G' H' e2 rc q=>?_
 exact k ((f,v)::bU) ((f,.sh d)::fs) G' H' (e1.trans e2) (.sh (d1.up e2.gg) (rc.Yp e1.hh)) q
def Yq {lp:Pos} (hr:DP X Hg ks vs t):DP X Hg (some (.Constant (.str f) kj kp)::ks) (.Dict [] [] lp::vs) (pDc f t):=by
 have ⟨Jl,h1,h2⟩:=hr;refine ⟨_,GN xq GL h1,fun n Z U G H Q Q2 R h k=>?_⟩;intro p hp;have e0:Ext G H G (upd H p (.dK [])):=⟨aX.refl _,R.sub.trans (bE hp _),bE hp _,fun b v e e0=>(by rw [e0] at e;cases e)⟩;refine h2 n Z U G _ _ _ (R.ext e0) h fun bU fs G' H' e2 rc q=>?_
 have hG:G' p=none:=by
  cases z:G' p with
  | none=>rfl
  | some u=>have:=e2.fr p u z (R.sub.free hp);rw [aO] at this;cases this
 exact k ((f,.ref p)::bU) ((f,.dc [])::fs) G' H' (e0.trans e2) (.dc (H1:=upd H p (.dK [])) hp (by rw [aO];exact fun z=>by cases z) (bE hp _) (e2.hh _ _ aO) hG rc) q
def Vm (i:Nat) {p:Pos} (hN:X.N.Nodup) (hp:DP X Hg ks vs t) (NC:ks.all (·.isSome)=true) (hl:ks.length=vs.length) (h0:ks≠[]) (X2:ks.length<=15) (hi:X.N[i]?=some x:=by rfl) (hx:Loc X.env.scope x:=by first | exact Or.inl rfl | exact Or.inr rfl)
  (hs:swapsWith (.Dict ks vs Hg) (some (.Name x p)) pos.line X.env=pure false:=by rfl) (hf:X.fn x=true\/X.env.scope.names.lookup x=some .local:=by first | exact .inl rfl | exact .inr rfl | assumption) :
  DS X (.Assign [.Name x p] (.Dict ks vs Hg) pos) (Vk i t):=by
 have ⟨Jl,h1,h2⟩:=hp;refine eR (xt (i:=i) hN hi hx (Ru h1 NC hl h0 X2) hs hf) fun F U H hx=>hx.el fun n Z G E R h k=>?_
 intro q hq;have R0:Rel X.K n Z U G (upd H q (.dK [])):=R.other (R.sub.free hq) (R.al _ hq) hq _;refine h2 n Z U G _ _ _ R0 h fun bU fs G' H' e rc ⟨nd,X2,q2⟩=>?_
 have hk:bU.map (·.1)=fs.map (·.1):=let ⟨_,_,z,_⟩:=rc.own;z
 refine ⟨e.hh _ _ aO,bU.map kx,?_,?_,?_⟩
 ·rw [List.map_map];rfl
 ·have:=congrArg List.length hk;simp at this;rw [List.length_map,this];exact X2
 ·have z:=Hf bU [] (by rw [List.nil_append,hk];exact nd)
  rw [List.nil_append] at z;rw [show pW [] (bU.map kx)=bU.map kx from z];exact k.nx _ _ G' _ (R.record i hq e rc) q2
def xR {i:Nat}{sp:Pos} (hu:X.A.units+1<cLine) (hN:X.N[i]?=some x) (hv:rX X.env.scope x) (hd:(x==("__debug__":Str))=false) (gL:(x==("__classdict__":Str))=false) :
  PE X (.Subscript (.Name x np) (.Constant (.str f) kj kp) sp) (S9 (TX i) (tC (.str f))):=EO hu (fe hN hv hd gL) xq (fun _ _=>rfl)
def pX (i:Nat) (hu:X.A.units+1<cLine) (hN:X.N[i]?=some x:=by rfl) (hv:rX X.env.scope x:=by first | exact Or.inl rfl | exact Or.inr (Or.inl rfl) | exact Or.inr (Or.inr rfl))
  (hd:(x==("__debug__":Str))=false:=by decide) (gL:(x==("__classdict__":Str))=false:=by decide):DX X (.Subscript (.Name x np) (.Constant (.str f) kj kp) pos) (zl i f) :=
 cN (xR hu hN hv hd gL) fun U H Q2 hx=>hx.el fun n Z G Q R h k=>by
  unfold zl at h
  split at h
  ·rename_i d e
   obtain ⟨h0,fs,e1,e2⟩:=Mp e;obtain ⟨a,bU,g1,g2,g3,ow,i',g5⟩:=R.sl i _ e1;obtain ⟨v,k1,k2⟩:=g5.at_ f _ e2;refine ⟨.ref a,g1,a,v,rfl,?_,k v G H d (Ext.refl R.sub) k2 h⟩;have:=xJ.k (k:=(Sum.inr f:Key)) g3;rw [mC,k1] at this;exact this
  ·exact h.elim
def E8 (i:Nat) {tp:Pos}{tv:fV} (hu:X.A.units+1<cLine) (he:DE X e tv) (hN:X.N[i]?=some x:=by rfl) (hv:rX X.env.scope x:=by first | exact Or.inl rfl | exact Or.inr (Or.inl rfl) | exact Or.inr (Or.inr rfl))
  (hd:(x==("__debug__":Str))=false:=by decide) (gL:(x==("__classdict__":Str))=false:=by decide) (hs:swapsWith e (some (.Subscript (.Name x np) (.Constant (.str f) kj kp) tp)) pos.line X.env=pure false:=by rfl) :
  DS X (.Assign [.Subscript (.Name x np) (.Constant (.str f) kj kp) tp] e pos) (He i f tv) :=
 eR (ER hu (fe hN hv hd gL) xq he hs) fun F U H hx=>hx.el fun n Z G E R h k=>⟨n,Z,G,_,R,h,fun v G1 H1 d Z1 R1 s1 d1 ⟨h1,h2⟩=>by
  obtain ⟨h0,fs,s0,e1,lt,hf,hk⟩:=Mq h1;obtain ⟨a,bU,g1,g2,g3,R2⟩:=R1.Yo (f:=f) e1 hf hk d1;rw [Bj e1] at h2;refine ⟨.ref a,g1,a,_,rfl,Jj.k (k:=(Sum.inr f:Key)) g2 ?_,k.nx _ U G1 _ R2 h2⟩;rw [List.length_map,g3,sizeLine_eq];omega⟩
def wF (i:Nat) {fp:Pos} (hu:X.A.units+1<cLine) (hz:DX X z tz) (hN:X.N[i]?=some x:=by rfl) (hv:rX X.env.scope x:=by first | exact Or.inl rfl | exact Or.inr (Or.inl rfl) | exact Or.inr (Or.inr rfl))
  (hd:(x==("__debug__":Str))=false:=by decide) (gL:(x==("__classdict__":Str))=false:=by decide) (hs:Rq z:=by exact fun _ _=>rfl) (nf:f≠("":Str):=by decide) :
  DX X (.Subscript (.Subscript (.Name x np) (.Constant (.str f) kj kp) fp) z pos) (vA i f tz) :=
 cN (EO hu (xR hu hN hv hd gL) hz hs) fun U H Q2 hx=>hx.el fun n Z G Q R h k=>by
  unfold vA at h
  split at h
  ·rename_i l el
   obtain ⟨h0,fs,e1,e2⟩:=o6 el;obtain ⟨a,bU,q,vs,g1,g2,g3,g4,g5,_⟩:=R.Bk e1 e2 nf;have gd:=xJ.k (k:=(Sum.inr f:Key)) g2;rw [mC,g3] at gd;refine ⟨.ref a,g1,a,.ref q,rfl,gd,n,Z,G,_,R,h,fun v G1 H1 d x1 d1 ⟨kk,dd,e1,e2,hq⟩=>?_⟩;obtain ⟨w,w1,w2⟩:=g5.val e2;cases lg d1 e1;exact ⟨q,w,rfl,.inl ⟨vs,kk,.inl (x1.hh _ _ g4),rfl,w1.symm⟩,k _ G1 H1 _ x1 (w2.up x1.gg) hq⟩
  ·exact h.elim
def OO (i:Nat) {fp sp:Pos} (hu:X.A.units+1<cLine) (he:DX X e te) (hz:DX X z tz) (hN:X.N[i]?=some x:=by rfl) (hv:rX X.env.scope x:=by first | exact Or.inl rfl | exact Or.inr (Or.inl rfl) | exact Or.inr (Or.inr rfl))
  (hd:(x==("__debug__":Str))=false:=by decide) (gL:(x==("__classdict__":Str))=false:=by decide)
  (hs:swapsWith e (some (.Subscript (.Subscript (.Name x np) (.Constant (.str f) kj kp) fp) z sp)) pos.line X.env=pure false:=by rfl) (nf:f≠("":Str):=by decide) :
  DS X (.Assign [.Subscript (.Subscript (.Name x np) (.Constant (.str f) kj kp) fp) z sp] e pos) (E5 i f te tz) :=
 eR (ER hu (xR hu hN hv hd gL) hz he hs) fun F U H hx=>hx.el fun n Z G E R h k=>by
  unfold E5 at h
  split at h
  ·rename_i l el
   refine ⟨n,Z,G,_,R,h,fun v G1 H1 d x1 d1 h1=>?_⟩;obtain ⟨h0,fs,e1,e2⟩:=o6 el;obtain ⟨a,bU,q,vs,g1,g2,g3,g4,g5,g6⟩:=(R.ext x1).Bk e1 e2 nf;have gd:=xJ.k (k:=(Sum.inr f:Key)) g2;rw [mC,g3] at gd;refine ⟨.ref a,g1,a,.ref q,rfl,gd,n,Z,G1,_,R.ext x1,h1,fun v2 G2 H2 d2 x2 M3 ⟨kk,ek,hl,h2⟩=>?_⟩;cases lg M3 ek;rw [Bj e1] at h2;exact ⟨q,_,rfl,Jj.k (x2.hh _ _ g4) (by rw [g5.length];exact hl),k.nx _ U G2 _ (g6 G2 H2 _ _ x2 ((g5.up x2.gg).put (d1.up x2.gg))) h2⟩
  ·exact h.elim
def OP (i:Nat) {fp ap cp:Pos} (hu:X.A.units+1<cLine) (hz:DX X z tz) (hN:X.N[i]?=some x:=by rfl) (hv:rX X.env.scope x:=by first | exact Or.inl rfl | exact Or.inr (Or.inl rfl) | exact Or.inr (Or.inr rfl))
  (hd:(x==("__debug__":Str))=false:=by decide) (gL:(x==("__classdict__":Str))=false:=by decide)
  (hs:swapsWith (.Call (.Attribute (.Subscript (.Name x np) (.Constant (.str f) kj kp) fp) "pop" ap) [z] [] cp) none pos.line X.env=pure false:=by rfl)
  (m:M1 X (.Subscript (.Name x np) (.Constant (.str f) kj kp) fp) "pop" ap z cp:=by exact ⟨rfl,rfl,rfl,rfl⟩) (nf:f≠("":Str):=by decide) :
  DS X (.Expr (.Call (.Attribute (.Subscript (.Name x np) (.Constant (.str f) kj kp) fp) "pop" ap) [z] [] cp) pos) (E6 i f tz) :=
 eR (t9 (GO (xR hu hN hv hd gL) hz m) hs) fun F U H hx=>hx.el fun n Z G E R h k=>by
  unfold E6 at h
  split at h
  ·rename_i l el
   obtain ⟨h0,fs,e1,e2⟩:=o6 el;obtain ⟨a,bU,q,vs,g1,g2,g3,g4,g5,g6⟩:=R.Bk e1 e2 nf;have gd:=xJ.k (k:=(Sum.inr f:Key)) g2;rw [mC,g3] at gd;refine ⟨.ref a,g1,a,.ref q,rfl,gd,q,rfl,.inl ⟨vs,.inl g4⟩,n,Z,G,_,R,h,fun v G1 H1 d x1 d1 ⟨kk,dd,ek,ev,h2⟩=>?_⟩;cases lg d1 ek;obtain ⟨w,w1,w2⟩:=g5.val ev;rw [Bj e1] at h2;exact ⟨vs,kk,w,x1.hh _ _ g4,rfl,w1,k.nx _ U G1 _ (g6 G1 H1 _ _ x1 ((g5.up x1.gg).drop)) h2⟩
  ·exact h.elim
def OQ (i:Nat) {fp:Pos} (hu:X.A.units+1<cLine) (hz:DX X z tz) (hN:X.N[i]?=some x:=by rfl) (hv:rX X.env.scope x:=by first | exact Or.inl rfl | exact Or.inr (Or.inl rfl) | exact Or.inr (Or.inr rfl))
  (hd:(x==("__debug__":Str))=false:=by decide) (gL:(x==("__classdict__":Str))=false:=by decide) (hm:behindInMarks .NotIn (.Subscript (.Name x np) (.Constant (.str f) kj kp) fp)=false:=by first | exact jP _ | rfl) (nf:f≠("":Str):=by decide) :
  DT X (.Compare z [.NotIn] [.Subscript (.Name x np) (.Constant (.str f) kj kp) fp] pos) (E7 i f tz) :=
 xy (Ea (Ds hu) hz (xR hu hN hv hd gL) hm) fun U H Q2 hx=>hx.el fun n Z G Q R h k=>by
  unfold E7 at h
  split at h
  ·rename_i l el
   refine ⟨n,Z,G,_,R,h,fun v G1 H1 d x1 d1 ⟨kk,ek,hq⟩=>?_⟩;obtain ⟨h0,fs,e1,e2⟩:=o6 el;obtain ⟨a,bU,q,vs,g1,g2,g3,g4,g5,_⟩:=(R.ext x1).Bk e1 e2 nf;have gd:=xJ.k (k:=(Sum.inr f:Key)) g2;rw [mC,g3] at gd;cases lg d1 ek;refine ⟨.ref a,g1,a,.ref q,rfl,gd,q,jU vs kk,rfl,.inl ⟨vs,kk,.inl g4,rfl,rfl⟩,_,rfl,?_⟩;rw [g5.isSome (k:=kk)];exact k _ G1 H1 Z (R.ext x1) x1.gg hq
  ·exact h.elim
def Hh (i:Nat) {fp p:Pos} (hc:X.calm=true) (hu:X.A.units+1<cLine) (hm:X.mg "sorted"=none) (hN:X.N[i]?=some x:=by rfl) (hv:rX X.env.scope x:=by first | exact Or.inl rfl | exact Or.inr (Or.inl rfl) | exact Or.inr (Or.inr rfl))
  (hd:(x==("__debug__":Str))=false:=by decide) (gL:(x==("__classdict__":Str))=false:=by decide) (hg:Gl X "sorted":=by rfl)
  (he:starEach [.Subscript (.Name x np) (.Constant (.str f) kj kp) fp] X.env=(false,eval (.Subscript (.Name x np) (.Constant (.str f) kj kp) fp) X.env)::starEach [] X.env:=by rfl) (lL:(backTo pos (starEach [] X.env)).any (·.1)=false:=by rfl) (nf:f≠("":Str):=by decide) :
  DE X (.Call (.Name "sorted" p) [.Subscript (.Name x np) (.Constant (.str f) kj kp) fp] [] pos) (Bi i f) :=
 cN (oP (yD hc) hg hm (by rfl) (gm (xR hu hN hv hd gL) kD he) (by decide) (by decide) he lL) fun U H Q2 hx=>hx.el fun n Z G Q R h k=>by
  unfold Bi at h
  split at h
  ·rename_i l el
   have ⟨ts,hk,yy,hq⟩:=h;obtain ⟨h0,fs,e1,e2⟩:=o6 el;obtain ⟨a,bU,q,vs,g1,g2,g3,g4,g5,_⟩:=R.Bk e1 e2 nf;have gd:=xJ.k (k:=(Sum.inr f:Key)) g2;rw [mC,g3] at gd;refine ⟨.ref a,g1,a,.ref q,rfl,gd,q,vs,ts,rfl,g4,by rw [Dx g5,hk],yy,fun ms p1 p2 r hr=>?_⟩;exact k _ _ _ _ Z (R.laid hr _) (bE (R.sub.free hr) _) (.lst (kC.of aO) ((bP.KW ms).up (bE (R.sub.free hr) _))) (hq ms p1 p2)
  ·exact h.elim
end
structure Bl (P:Program) (w:World) (outer:List Env) (H:Hp) (s:Shared) (ea:Addr) (C:Addr) (B:Heap) (H':Hp) (s':Shared):Prop where
 os:s'.os=s.os
 bare:AllBare s'.gens
 un:Un (oM outer) [] H H' s.heap s'.heap
 OS:∃t,Heap.FlyingW B outer ea (.ref C) (.ref t) s'.heap
 dD:t7 P w H' B
 keep:∀b o,s.heap.get? b=some o->H b=none->b∉oM outer->B.get? b=some o
 th:∀b o,s.heap.get? b=some o->b∉oM outer->∃o',B.get? b=some o'
def vV (P:Program) (w:World):M0:=fun outer H s E e s'=>∃(ea C:Addr) (B:Heap) (H':Hp),e=.ref ea/\Bl P w outer H s ea C B H' s'/\E (.ref C) none H'
noncomputable abbrev JE (X:Cx) (h:Heap):Heap:=PySem.W.hideAll h (oM X.stack)
section
variable {X:Cx}{pins:List (Addr×Obj)}{U:L2.St}{H H':Hp}{s s':Shared}{ea C:Addr}{vs:List Value}{B h':Heap}
def zU (I:Inv X pins U H s) {b:Addr}{o:Obj} (e:s.heap.get? b=some o) (n:b∉oM X.stack):(JE X s.heap).get? b=some o:=PySem.W.hideAll_get _ e n
def OT (I:Inv X pins U H s):t7 X.prog X.w H (JE X s.heap):=fun a o e=>by
 refine (I.dD a o e).rY (fun b u hb q=>zU I q fun z=>?_) (fun _ q=>q) fun _ _ q=>q
 have hn:=I.vW b z;rcases hb with rfl | hb
 ·rw [hn] at e;cases e
 ·rw [hn] at hb;cases hb
def Bm {env:Env}{l:List Env}{b:Addr} (h:b∈oM (env::l)):env.frame=some b\/b∈oM l:=by
 obtain ⟨e,he,hf⟩:=bC.mp h;rcases (aE.mp he) with rfl | he
 ·exact .inl hf
 ·exact .inr (bC.mpr ⟨e,he,hf⟩)
def Hi {env:Env}{l:List Env}{b:Addr} (h:b∈oM l):b∈oM (env::l):=by
 obtain ⟨e,he,hf⟩:=bC.mp h;exact bC.mpr ⟨e,aw _ he,hf⟩
def wG (I:Inv X pins U H s) (mz:X.stack=X.env::X.outer) (Cb:X.env.frame=some X.env.locals) {b:Addr}{o:Obj} (e:X.s₀.heap.get? b=some o) (nb:b∉oM X.outer):b∉oM X.stack:=fun z=>by
 rw [mz] at z;rcases Bm z with z | z
 ·rw [Cb] at z;cases z
  exact absurd (az e) (Nat.not_lt.mpr I.ok.above)
 ·exact nb z
def OU {h2:Heap} (I:Inv X pins U H s) (mz:X.stack=X.env::X.outer) (hex:X.ex=[]) (Cb:X.env.frame=some X.env.locals) (u:Un (oM X.stack) [] H H' s.heap h2):Un (oM X.outer) [] X.H₀ H' X.s₀.heap h2:=by
 have b0:Un (oM X.outer) [] X.H₀ H X.s₀.heap s.heap:=by have z:=I.base;rw [hex] at z;exact z
 have ne:∀b o,X.s₀.heap.get? b=some o->b∉oM X.outer->b∉oM X.stack:=fun b o e nb z=>by
  rw [mz] at z;rcases Bm z with z | z
  ·rw [Cb] at z;cases z
   exact absurd (az e) (Nat.not_lt.mpr I.ok.above)
  ·exact nb z
 refine ⟨fun b o e n nb nx=>u.keep b o (b0.keep b o e n nb nx) (b0.free b o e n nx) (ne b o e nb) nx,fun b o e n hb nx=>?_,fun b o e n nx=>?_,fun b o e nx=>?_,fun b xs q=>u.vj b xs (b0.vj b xs q),fun b o v q=>u.rZ b o v (b0.rZ b o v q),fun b ps q=>?_⟩
 ·obtain ⟨sl,e1⟩:=b0.slot b o e n hb nx
  obtain ⟨sl',e2⟩:=u.slot b _ e1 (b0.free b o e n nx) (by rw [mz];exact Hi hb) nx;exact ⟨sl',e2⟩
 ·obtain ⟨o',e1⟩:=b0.there b o e nx
  exact u.free b o' e1 (b0.free b o e n nx) nx
 ·obtain ⟨o',e1⟩:=b0.there b o e nx
  exact u.there b o' e1 nx
 ·obtain ⟨m1,e1⟩:=b0.vk b ps q
  obtain ⟨m2,e2⟩:=u.vk b _ e1;exact ⟨m1++m2,by rw [e2,Array.append_assoc]⟩
def yH (I:Inv X pins U H s) (mz:X.stack=X.env::X.outer) (Cb:X.env.frame=some X.env.locals) (hex:X.ex=[]) (hx:Heap.MadeExcOf s.heap h' ea (.ref C) vs) {Q:Unit->Shared->Prop}{E:Value->Shared->Prop}
  (hQ:∀s'',Bl X.prog X.w X.outer X.H₀ X.s₀ ea C (JE X s.heap) H s''->Q () s''):wpAny (model X.prog X.w) X.A (leaving X.env (.ref ea)) Q E { s with heap:=h' }:=by
 have Vn:∀env∈X.stack,∀b,env.frame=some b->b∈oM X.stack:=fun env he b hb=>bC.mpr ⟨env,he,hb⟩
 have kb:(JE X s.heap).StaysIn s.heap:=fun b o q=>PySem.W.of_hideAll _ q
 have ff:s.heap.FunFrames (JE X s.heap) (X.env::X.outer):=by
  have z:s.heap.FunFrames (JE X s.heap) X.stack:=PySem.W.funFrames_hide I.stack Vn;rw [<-mz];exact z
 refine wpAny_leaves_madeW (base:=JE X s.heap) (by rw [I.ok.frames,mz]) Cb kb ff hx fun h'' t x1 x2 x3 x4=>hQ _ ⟨I.os,I.bare,?_,⟨t,x1⟩,OT I,fun b o e n nb=>?_,fun b o e nb=>?_⟩
 ·have up:∀b o,s.heap.get? b=some o->b∉oM X.stack->h''.get? b=some o:=fun b o e n=>x1.1 b o (zU I e n)
  have u2:Un (oM X.stack) [] H H s.heap h'':=by
   have sl:∀b o,s.heap.get? b=some o->b∈oM X.stack->∃z,h''.get? b=some { o with slots:=z }:=fun b o e hb=>by
    obtain ⟨_,o',ho',nf⟩:=I.stack.mem hb;rw [e] at ho';cases ho';exact x4 b o (hx.keeps b o e) nf
   refine ⟨fun b o e _ nb _=>up b o e nb,fun b o e _ hb _=>sl b o e hb,fun _ _ _ n _=>n,fun b o e _=>?_,fun _ _ q=>q,fun _ _ _ q=>q,fun _ ps q=>⟨#[],by rw [q];simp⟩⟩
   by_cases hb:b∈oM X.stack
   ·obtain ⟨z,hz⟩:=sl b o e hb;exact ⟨_,hz⟩
   ·exact ⟨o,up b o e hb⟩
  exact OU I mz hex Cb u2
 ·have e1:=I.base.keep b o e n nb (by rw [hex];simp)
  refine zU I e1 ?_;exact wG I mz Cb e nb
 ·obtain ⟨o',e1⟩:=I.base.there b o e (by rw [hex];simp)
  exact ⟨o',zU I e1 (wG I mz Cb e nb)⟩
def Bn (I:Inv X pins U H s) (mz:X.stack=X.env::X.outer) (Cb:X.env.frame=some X.env.locals) (hex:X.ex=[]) (O:Bl X.prog X.w X.stack H s ea C B H' s') {Q:Unit->Shared->Prop}{E:Value->Shared->Prop}
  (hQ:∀s'',Bl X.prog X.w X.outer X.H₀ X.s₀ ea C B H' s''->Q () s''):wpAny (model X.prog X.w) X.A (leaving X.env (.ref ea)) Q E s':=by
 obtain ⟨t,OS⟩:=O.OS;rw [mz] at OS;refine wpAny_leaves_onW (by rw [I.ok.frames,mz]) Cb OS fun h'' x1 x2=>hQ _ ⟨O.os.trans I.os,O.bare,OU I mz hex Cb ?_,⟨t,x1⟩,O.dD,fun b o e n nb=>?_,fun b o e nb=>?_⟩
 ·have sl:∀b o,s.heap.get? b=some o->H b=none->b∈oM X.stack->∃z,h''.get? b=some { o with slots:=z }:=fun b o e n hb=>by
   obtain ⟨z,hz⟩:=O.un.slot b o e n hb (by simp);obtain ⟨_,o',ho',nf⟩:=I.stack.mem hb;rw [e] at ho';cases ho';obtain ⟨z',hz'⟩:=x2 b _ hz nf;exact ⟨z',hz'⟩
  refine ⟨fun b o e n nb _=>x1.1 b o (O.keep b o e n nb),fun b o e n hb _=>sl b o e n hb,O.un.free,fun b o e nx=>?_,O.un.vj,O.un.rZ,O.un.vk⟩
  by_cases hb:b∈oM X.stack
  ·obtain ⟨z,hz⟩:=sl b o e (I.vW b hb) hb;exact ⟨_,hz⟩
  ·cases q:H b with
   | none=>exact ⟨o,x1.1 b o (O.keep b o e q hb)⟩
   | some u=>obtain ⟨o',ho'⟩:=O.th b o e hb;exact ⟨o',x1.1 b o' ho'⟩
 ·have e1:=I.base.keep b o e n nb (by rw [hex];simp)
  refine O.keep b o e1 (I.base.free b o e n (by rw [hex];simp)) ?_;exact wG I mz Cb e nb
 ·obtain ⟨o',e1⟩:=I.base.there b o e (by rw [hex];simp)
  exact O.th b o' e1 (wG I mz Cb e nb)
end
structure Hj (X:Cx) (n:En) (C:Addr) (P:Ev->Prop):Prop where
 made:∀(pins:List (Addr×Obj)) (U:L2.St) (H:Hp) (s:Shared) (h':Heap) (ea:Addr) (vs:List Value),Inv X pins U H s->(∃Z G,Rel X.K n Z U G H/\P Z)->Heap.MadeExcOf s.heap h' ea (.ref C) vs->X.xe (.ref ea) { s with heap:=h' }
structure E9 (X:Cx) (n:En) (C:Addr) (P:Ev->Prop):Prop where
 pass:∀(pins:List (Addr×Obj)) (U:L2.St) (H:Hp) (s:Shared) (ea:Addr) (B:Heap) (H':Hp) (s':Shared),Inv X pins U H s->Bl X.prog X.w X.stack H s ea C B H' s'->(∃Z' U' G',Rel X.K n Z' U' G' H'/\P Z')->X.xe (.ref ea) s'
def lR (K:Frag) (n:En) (r:Ev->Prop):TE:=fun U H _=>∃Z G,Rel K n Z U G H/\r Z
def lRS (K:Frag) (n:En) (r:Ev->Prop):TS:=fun _ U H=>∃Z G,Rel K n Z U G H/\r Z
abbrev RE (X:Cx) (n:En) (e:Expr) (r:Ev->Prop):Prop:=PE X e (lR X.K n r)
abbrev RS (X:Cx) (n:En) (st:Stmt) (r:Ev->Prop):Prop:=PS X st (lRS X.K n r)
abbrev M5 (X:Cx) (n:En) (S3:List Stmt) (r:Ev->Prop):Prop:=Gf X S3 (lRS X.K n r)
def Zg (K:Frag) (C:Addr) (S:List D->Prop):Sp:=fun vs H _ E=>∃(G:Hp) (ds:List D),aX G H/\bP K G vs ds/\S ds/\∀G' H',Ext G H G' H'->E (.ref C) none H'
section
variable {X:Cx}{n:En}{C:Addr}{e a b c:Expr}{es:List Expr}{st:Stmt}{rest:List Stmt}{r ra rb P:Ev->Prop}{pos:Pos}
def cy (h:RS X n st r):M5 X n (st::rest) r :=
 pL (r8 h (u:=fun _ _ _=>False) fun _ _ _ _ _ _ z=>z.elim) fun D U H z=>z
def fy {t:dA} (h1:DS X st t) (h2:M5 X n rest r):M5 X n (st::rest) (fun Z=>t { nx:=r,rt:=fun _ _=>False } Z) :=
 pL (r8 h1 h2) fun D U H ⟨Z,G,R,h⟩=>⟨n,Z,G,_,R,h,⟨fun Z' U' G' H' R' h'=>⟨Z',G',R',h'⟩,fun _ _ _ _ _ _ _ _ z=>z.elim,fun _ _ _ _ _ z=>z.elim,fun _ _ _ _ _ z=>z.elim⟩⟩
def Hl {sa sb:List Stmt}{tc:qO} (hc:DT X c tc) (ha:M5 X n sa ra) (hb:M5 X n sb rb):RS X n (.If c sa sb pos) (fun Z=>tc Z fun q Z1=>if q=true then ra Z1 else rb Z1) :=
 eR (Nd hc ha hb) fun D U H ⟨Z,G,R,h⟩=>⟨n,Z,G,_,R,h,fun q G1 H1 Z1 R1 s1 h1=>by
  cases q with
  | true=>rw [if_pos rfl] at h1;exact Ei ⟨Z1,G1,R1,h1⟩
  | false=>rw [if_neg Bool.false_ne_true] at h1;exact Eh ⟨Z1,G1,R1,h1⟩⟩
def Bo {S3:List Stmt}:M5 X n S3 (fun _=>False):=fun _ _ _ _ _ _ ⟨_,_,_,z⟩=>z.elim
def OV:RE X n e (fun _=>False):=fun _ _ _ _ _ _ ⟨_,_,_,z⟩=>z.elim
def nL (he:RE X n e r) (hs:swapsWith e none pos.line X.env=pure false:=by rfl):RS X n (.Expr e pos) r:=eR (t9 he hs) fun _ _ _ z=>z
def pY (he:RE X n e r):RS X n (.Return (some e) pos) r:=eR (Ip he) fun _ _ _ z=>z
def OW {tc:qO} (hc:DT X c tc) (ha:RE X n a ra) (hb:RE X n b rb):RE X n (.IfExp c a b pos) (fun Z=>tc Z fun q Z1=>if q=true then ra Z1 else rb Z1) :=
 cN (Gg hc ha hb) fun U H Q ⟨Z,G,R,h⟩=>⟨n,Z,G,_,R,h,fun q G1 H1 Z1 R1 s1 h1=>by
  cases q with
  | true=>rw [if_pos rfl] at h1;exact Ei ⟨Z1,G1,R1,h1⟩
  | false=>rw [if_neg Bool.false_ne_true] at h1;exact Eh ⟨Z1,G1,R1,h1⟩⟩
def K5 {k:Nat}{f:Addr}{fd:FuncData}{ps:List Str}{S:List D->Prop}{x:Str}{p:Pos}{t:qN} (W:E9 X n C P) (F:cM X.prog X.w X.K X.mg X.base (vV X.prog X.w) k f fd ps (Zg X.K C S)) (hr:fG k X.A) (hm:X.mg x=some (.ref f)) (hk:keepIn X.K (.ref f)=true) (hb:Binds X.K fd ps [])
  (ha:DA X (e::es) t) (hg:Gl X x:=by rfl) (zg:(x==("__debug__":Str))=false:=by decide) (he:starEach (e::es) X.env=(false,eval e X.env)::starEach es X.env:=by rfl) (lL:(backTo pos (starEach es X.env)).any (·.1)=false:=by rfl) :
  RE X n (.Call (.Name x p) (e::es) [] pos) (fun Z=>t Z fun ds Z1=>S ds/\P Z1):=by
 have hx:Passes (vV X.prog X.w) X (fun cls _ H'=>cls=.ref C/\∃Z' U' G',Rel X.K n Z' U' G' H'/\P Z'):=fun pins U H s e s' I ⟨ea,C',B,H',ee,O,ec,hR⟩=>by
  cases ec;subst ee;exact W.pass pins U H s ea B H' s' I O hR
 exact cN (Ec F hr hg hm hk hb .nil hx ha zg he lL) fun U H Q ⟨Z,G,R,h⟩=>⟨n,Z,G,_,R,h,fun vs G1 H1 ds Z1 R1 s1 d1 h1=>by
  show Zg X.K C S (vs++[]) H1 Q _;rw [List.append_nil];exact ⟨G1,ds,R1.sub,d1,h1.1,fun G' H' e=>⟨rfl,Z1,U,G',R1.ext e,h1.2⟩⟩⟩
end
section
variable {P:Program}{w:World}{K:Frag}{mg:Str->Option Value}{base:Heap}
def fnR {x qual:Str}{st:Stmt}{f C:Addr}{fd:FuncData}{N ps:List Str}{k:Nat}{S:List D->Prop} (F:kY K x qual st f fd) (Sc:bx N ps (aC st)) (len:∀ds,S ds->ds.length=ps.length)
  (mX:∀(dM:Value) (A:Around) (outer:List Env) (s:Shared) (H:Hp) (E:XK) (n:En),fG k (A.deeper (envOfC qual (aC st) s.heap.objs.size f dM))->E9 (mB (vV P w) P w K mg base N qual (aC st) f dM A outer s H E) n C (fun _=>True)->Hj (mB (vV P w) P w K mg base N qual (aC st) f dM A outer s H E) n C (fun _=>True) ->
   ∃r,M5 (mB (vV P w) P w K mg base N qual (aC st) f dM A outer s H E) n (iS st) r/\∀ds,S ds->r (dq N ds)):cM P w K mg base (vV P w) (k+1) f fd ps (Zg K C S):=by
 obtain ⟨oc,od,kV,doc,pm,an,dM,ct,Nv,rfl,lk,gL⟩:=F.ex;refine Nu lk gL Sc (fun vs H Q E ⟨G,ds,_,dn,h,_⟩=>by rw [dn.length];exact len ds h) fun A outer s H vs Q E hr ⟨G,ds,sub,dn,h,hE⟩=>?_
 have W:E9 (mB (vV P w) P w K mg base N qual (aC st) f dM A outer s H E) ⟨G,H,fun _=>False⟩ C (fun _=>True):=⟨fun pins U H1 s1 ea B H' s' I O ⟨Z',U',G',R,_⟩=>Bn I rfl rfl rfl O fun s'' O'=>⟨ea,C,B,H',rfl,O',hE G' H' R.Kp⟩⟩;have WM:Hj (mB (vV P w) P w K mg base N qual (aC st) f dM A outer s H E) ⟨G,H,fun _=>False⟩ C (fun _=>True):=⟨fun pins U H1 s1 h' ea vs I ⟨Z,G1,R,_⟩ hx=>yH I rfl rfl rfl hx fun s'' O=>⟨ea,C,_,H1,rfl,O,hE G1 H1 R.Kp⟩⟩;obtain ⟨r,hr1,hr2⟩:=mX dM A outer s H E ⟨G,H,fun _=>False⟩ hr W WM;exact ⟨_,hr1,dq N ds,G,De (N:=N) sub dn,hr2 ds h⟩
end
def iG {K:Frag}{h:Heap}{mg:Str->Option Value}{x:Str}{C:Addr}{K6:List Value}{newId:String} (X:K.In h) (G:h.Ns mainGlobals mg) (e:nsIn K mainGlobals x=some (some (.ref C))) (q:excIn K C K6 newId=true):OwnCls x C K6 newId mg h:=by
 refine ⟨mg_of X G e,?_⟩;unfold excIn at q
 split at q
 case h_2=>cases q
 rename_i dct cdt Yr hlk
 split at q
 case h_2=>cases q
 rename_i Cc tl a0 a1 a2 a3 nid a5 Mh Tj;simp only [Bool.and_eq_true,Bool.not_eq_true',beq_iff_eq] at q;have ⟨⟨⟨⟨⟨q1,q2⟩,q3⟩,q4⟩,q5⟩,q6⟩:=q;subst q1 q2;have ⟨c1,c2,c3,c4,c5,c6,c7,c8,c9,Ys,c11⟩:=cdt;simp only at Mh q3 q5 q6;subst Mh q3;have es:Yr=#[a0,a1,a2,a3,some (.builtin nid),a5]:=by
  rcases Yr with ⟨l⟩;exact congrArg Array.mk Tj
 subst es;exact ⟨tl,c4,c1,c5,c2,c6,c7,c8,c9,Ys,dct,a0,a1,a2,a3,a5,h.nsMap c4,X _ _ hlk,.of_isNs (PySem.W.isNs_of_in X q5),PySem.W.nsMap_none_of_in X q5 q6,PySem.W.tail_of_in X q4⟩
section
variable {A:Around}{M:Model}{E:Value->Shared->Prop}
variable {nm q nm' q':Str}{C N R N':Addr}{bs bm bs' bm':List Value}{hdct hdct':Bool}{sn sn':List Str}{sub sub':List Value}{ab ab':Bool}{col col':Option Bool}{dd dd':Option Addr}{k0 k1 k2 k3 k5 j0 j1 j2 j3 j5:Option Value}{newId newId':String}
def zm {h:Heap}{g:Array GenState}{d:Drawn}{t:Nat}{os:OsState}{e:Addr}{oe:Obj}{Q:Bool->Shared->Prop}
  (hC:h.get? C=some (excClassObj nm q C N bs bm hdct sn sub ab col dd k0 k1 k2 k3 k5 newId)) (hR:h.get? R=some (excClassObj nm' q' R N' bs' bm' hdct' sn' sub' ab' col' dd' j0 j1 j2 j3 j5 newId')) (he:h.get? e=some oe) (jN:oe.cls=.ref C)
  (kX:bm'.contains (.type "BaseException")=true) (Vn:bm.contains (.ref R)=true) (hq:Q true ⟨h,g,d,t,os⟩):wpAny M A (excMatches (.ref e) (.ref R)) Q E ⟨h,g,d,t,os⟩:=by
 have c1:(Value.ref R::bm').contains (.type "BaseException")=true:=by rw [List.contains_cons,kX,Bool.or_true]
 have c2:(Value.ref C::bm).contains (.ref R)=true:=by rw [List.contains_cons,Vn,Bool.or_true]
 have f:=tc_notTuple;unfold excMatches
 repeat (first | (with_reducible refine cT he ?_;rw [jN]) | with_reducible refine cT hR ?_ | (with_reducible refine wpAny_isSubtype_exc hR ?_;rw [c1]) | (with_reducible refine wpAny_isSubtype_exc hC ?_;rw [c2]) | wp_step)
 exact hq
end
section
variable {A:Around}{prog:Program}{w:World}{E:Value->Shared->Prop}{s:Shared}{env:Env}
def xS {e C R:Addr}{y:Str}{W2:List Value}{newId RU:String}{mg:Str->Option Value}{t:Expr}{n:Str}{b0:Stmt}{uV:List Stmt}{pos:Pos}{rest:List ExceptHandler}{Q:Flow->Shared->Prop}
  (kX:W2.contains (.type "BaseException")=true)
  (h:wpAny (model prog w) (A.mark (some (.ref e))) (eval t env) (fun c s1=>c=.ref R/\OwnCls y R W2 RU mg s1.heap/\(∃bm N nm q bs hdct sn sub ab col dd k0 k1 k2 k3 k5,s1.heap.get? C=some (excClassObj nm q C N bs bm hdct sn sub ab col dd k0 k1 k2 k3 k5 newId)/\bm.contains (.ref R)=true)/\(∃oe,s1.heap.get? e=some oe/\oe.cls=.ref C) /\
   wpAny (model prog w) (A.mark (some (.ref e))) (setFlight (.ref e) none) (fun _ s2 =>
     wpAny (model prog w) (A.mark (some (.ref e))) (storeName env n (.ref e)) (fun _ s3 =>
      wpAny (model prog w) (A.mark (some (.ref e))) (execs (b0::uV) env)
       (fun f s4=>wpAny (model prog w) A (do bindName env n .none;unbindBehindTheSuite env n pos) (fun _ s5=>Q f s5) E s4)
       (fun _ _=>False) s3) (fun _ _=>False) s2) (fun _ _=>False) s1) (fun _ _=>False) s) :
  wpAny (model prog w) A (handleBy (.ref e) env (.ExceptHandler (some t) (some n) (b0::uV) pos::rest)) Q E s:=by
 refine wpAny_handleBy_cons (codeAny_handlers_test (aV h (fun c s1 h1=>?_) fun _ _ z=>z.elim)) (by intro z;cases z);obtain ⟨rfl,O,⟨bm,N,nm,q,bs,hdct,sn,sub,ab,col,dd,k0,k1,k2,k3,k5,hC,Vn⟩,⟨oe,he,jN⟩,hk⟩:=h1;obtain ⟨bm2,N2,nm2,q2,bs2,hdct2,sn2,sub2,ab2,col2,M3,j0,j1,j2,j3,j5,mN2,hR,WX,hni2,T2⟩:=O.obj;obtain ⟨hh,g,d,tk,os⟩:=s1;refine zm hC hR he jN (T2.hasType kX) Vn (codeAny_handlers_suite_as ?_);exact aV hk (fun _ s2 h2=>aV h2 (fun _ s3 h3=>aV h3 (fun f s4 h4=>h4) fun _ _ z=>z.elim) fun _ _ z=>z.elim) fun _ _ z=>z.elim
end
def fL.got {P:Program}{w:World}{H:Hp}{h:Heap}{a:Addr}{o:HO} (x:fL P w H h a o):∃ob,h.get? a=some ob:=by
 cases o with
 | lst xs=>have ⟨_,_,_,_,e⟩:=x;exact ⟨_,e⟩
 | tup xs=>have ⟨_,_,_,ob,e,_⟩:=x;exact ⟨_,e⟩
 | dK kvs=>obtain ⟨_,_,_,_,o,_,_,e,_⟩:=x;exact ⟨_,e⟩
 | dT kvs=>obtain ⟨_,_,_,_,o,_,_,e,_⟩:=x;exact ⟨_,e⟩
 | set S n=>obtain ⟨o,_,_,_,e,_⟩:=x;exact ⟨_,e⟩
 | ins C dx fs=>have ⟨_,_,_,e,_⟩:=x;exact ⟨_,e⟩
 | own y=>exact x
 | xd fs=>have ⟨_,⟨_,_,_,e,_⟩,_⟩:=x;exact ⟨_,e⟩
 | W4 lo hi=>have ⟨_,_,_,e⟩:=x;exact ⟨_,e⟩
 | mR ob u=>have ⟨e,_⟩:=x;exact ⟨_,e⟩
 | Qt ps=>exact ⟨_,(show h.get? a=some _ from x)⟩
 | met f y=>exact ⟨_,(show h.get? a=some _ from x)⟩
 | ext φ=>have ⟨_,e,_⟩:=x;exact e
noncomputable abbrev markX (Y:Cx) (ea:Addr):Cx:={ Y with A:=Y.A.mark (some (.ref ea)),calm:=false,xe:=fun _ _=>False }
section
variable {X:Cx}{pins:List (Addr×Obj)}{U:L2.St}{H H':Hp}{s s':Shared}{ea C:Addr}{B h':Heap}
def Inv.marked (I:Inv X pins U H s) (ea:Addr):Inv (markX X ea) pins U H s :=
 ⟨⟨I.ok.mod,I.ok.kind,I.ok.glob,I.ok.blt,I.ok.above,I.ok.inj,I.ok.has,I.ok.M9,fun z=>(by cases z),I.ok.frames,I.ok.MY,I.ok.Qi,I.ok.bs,I.ok.FW,I.ok.Aj,I.ok.Ak,I.ok.oN,I.ok.Im⟩,I.os,I.bare,I.base,I.loc,I.cell,I.free,I.iE,I.pin,I.dD,I.len⟩
def Inv.unmarked (ok:X.Ok) (I:Inv (markX X ea) pins U H s):Inv X pins U H s:=⟨ok,I.os,I.bare,I.base,I.loc,I.cell,I.free,I.iE,I.pin,I.dD,I.len⟩
def Inv.OX {m':Str->Option Value}{t':Nat} (I:Inv X pins U H s) (hn:h'.Ns X.env.locals m') (hs:Heap.SameBut X.env.locals s.heap h'):Inv X pins (List.replicate X.N.length none) H { s with heap:=h',toks:=t' }:=by
 have same:∀b,b≠X.env.locals->h'.get? b=s.heap.get? b:=fun b hb=>hs.2 b hb
 have low:∀b o,X.s₀.heap.get? b=some o->b≠X.env.locals:=fun b o e z=>by
  subst z;exact absurd (az e) (Nat.not_lt.mpr I.ok.above)
 refine ⟨I.ok,I.os,I.bare,⟨fun b o e n n1 n2=>?_,fun b o e n n1 n2=>?_,I.base.free,fun b o e n2=>?_,I.base.vj,I.base.rZ,I.base.vk⟩,⟨m',hn,fun i x v _ e=>?_⟩,fun x c e=>?_,I.free,I.iE,fun p hp=>?_,fun a o e=>?_,by simp⟩
 ·show h'.get? b=_;rw [same b (low b o e)];exact I.base.keep b o e n n1 n2
 ·obtain ⟨sl,e1⟩:=I.base.slot b o e n n1 n2;exact ⟨sl,(same b (low b o e)).trans e1⟩
 ·obtain ⟨o',e1⟩:=I.base.there b o e n2;exact ⟨o',(same b (low b o e)).trans e1⟩
 ·rw [List.getElem?_replicate] at e;split at e <;> cases e
 ·obtain ⟨v,o,ho,hd⟩:=I.cell x c e;exact ⟨v,o,(same c (I.SO x c e)).trans ho,hd⟩
 ·obtain ⟨p1,p2,p3,p4,p5⟩:=I.pin p hp;exact ⟨(same _ p3).trans p1,p2,p3,p4,p5⟩
 ·refine (I.dD a o e).rY (fun b u hb q=>(same b ?_).trans q) (fun _ q=>q) fun _ _ q=>q
  rintro rfl;rcases hb with rfl | hb
  ·rw [I.free] at e;cases e
  ·rw [I.free] at hb;cases hb
def RV (I:Inv X pins U H s) (O:Bl X.prog X.w X.stack H s ea C B H' s') (k:B.StaysIn h') (u:s'.heap.UpToSlots h'):Un (oM X.stack) [] H H' s.heap h':=by
 have sl:∀b o,s.heap.get? b=some o->H b=none->b∈oM X.stack->∃z,h'.get? b=some { o with slots:=z }:=fun b o e n hb=>by
  obtain ⟨z,hz⟩:=O.un.slot b o e n hb (by simp);obtain ⟨_,o',ho',nf⟩:=I.stack.mem hb;rw [e] at ho';cases ho';obtain ⟨z',hz'⟩:=u b _ hz nf;exact ⟨z',hz'⟩
 refine ⟨fun b o e n nb _=>k b o (O.keep b o e n nb),fun b o e n hb _=>sl b o e n hb,O.un.free,fun b o e nx=>?_,O.un.vj,O.un.rZ,O.un.vk⟩
 by_cases hb:b∈oM X.stack
 ·obtain ⟨z,hz⟩:=sl b o e (I.vW b hb) hb;exact ⟨_,hz⟩
 ·obtain ⟨o',ho'⟩:=O.th b o e hb;exact ⟨o',k b o' ho'⟩
def Inv.landed (I:Inv X pins U H s) (O:Bl X.prog X.w X.stack H s ea C B H' s') (k:B.StaysIn h') (u:s'.heap.UpToSlots h'):Inv X pins U H' { s' with heap:=h' } :=
 I.call' (s':={ s' with heap:=h' }) (ch:=[]) O.os (RV I O k u) (O.dD.kept k) O.bare (fun b z=>absurd z (by simp))
def Bl.free (O:Bl X.prog X.w X.stack H s ea C B H' s'):H' ea=none:=by
 obtain ⟨t,OS⟩:=O.OS;cases q:H' ea with
 | none=>rfl
 | some o =>
  obtain ⟨ob,e⟩:=fL.got (O.dD ea o q);rw [OS.2.1] at e;cases e
end
noncomputable abbrev zo (Y:Cx) (pn:List (Addr×Obj)) (xe:Value->Shared->Prop):Cx:={ Y with pn:=pn,xe:=xe }
section
variable {Y:Cx}{pins Tn pn:List (Addr×Obj)}{xe xe':Value->Shared->Prop}{U:L2.St}{H:Hp}{s:Shared}
def RW (ok:Y.Ok):(zo Y pn xe).Ok:=⟨ok.mod,ok.kind,ok.glob,ok.blt,ok.above,ok.inj,ok.has,ok.M9,ok.hd,ok.frames,ok.MY,ok.Qi,ok.bs,ok.FW,ok.Aj,ok.Ak,ok.oN,ok.Im⟩
def Ms (ok:(zo Y pn xe).Ok):Y.Ok:=⟨ok.mod,ok.kind,ok.glob,ok.blt,ok.above,ok.inj,ok.has,ok.M9,ok.hd,ok.frames,ok.MY,ok.Qi,ok.bs,ok.FW,ok.Aj,ok.Ak,ok.oN,ok.Im⟩
def Inv.Yt (I:Inv Y pins U H s) (xe:Value->Shared->Prop):Inv (zo Y (Y.pn++pins) xe) [] U H s :=
 ⟨RW I.ok,I.os,I.bare,I.base,I.loc,I.cell,I.free,I.iE,fun p hp=>I.pin p (by simpa using hp),I.dD,I.len⟩
def Inv.Yu (I:Inv (zo Y (Y.pn++pins) xe) Tn U H s):Inv Y pins U H s :=
 ⟨Ms I.ok,I.os,I.bare,I.base,I.loc,I.cell,I.free,I.iE,fun p hp=>I.pin p (cg _ hp),I.dD,I.len⟩
end
def Fb (Y:Cx) (i:Nat) (C:Addr) (uV:List Stmt) (d:D):Prop :=
 ∀(ea:Addr) (oe:Obj) (pins:List (Addr×Obj)) (U:L2.St) (H G:Hp) (s:Shared),oe.cls=.ref C->aX G H->Inv (markX Y ea) ((ea,oe)::pins) U H s->U[i]?=some (some (.ref ea)) ->
  wpAny (model Y.prog Y.w) (Y.A.mark (some (.ref ea))) (execs uV Y.env) (fun f s4=>∃u v U' H' G',f=.ret u/\RelV v u/\Inv (markX Y ea) pins U' H' s4/\Ext G H G' H'/\Den Y.K G' v d) (fun _ _=>False) s
def OY (tb:dA) (r:(Ev->Prop)->Ev->Prop) (d:D):dA:=fun E Z=>tb E Z\/∃P:Ev->Prop,r P Z/\∀Z',P Z'->E.rt d Z'
def Yv (Y:Cx) (hs:List ExceptHandler) (Q:Flow->Shared->Prop):Value->Shared->Prop:=fun e s1 =>
 wpAny (model Y.prog Y.w) Y.A (noteFrame e Y.env) (fun _ s2=>wpAny (model Y.prog Y.w) Y.A (setFlight e none) (fun _ s3=>wpAny (model Y.prog Y.w) Y.A (handleBy e Y.env hs) Q (fun _ _=>False) s3) (fun _ _=>False) s2) (fun _ _=>False) s1
structure DH (Y:Cx) (C R:Addr) (rn:Str):Prop where
 rb:∃W2 RU,OwnCls rn R W2 RU Y.mg Y.base/\W2.contains (.type "BaseException")=true
 cb:∃OZ bm N nm q bs hdct sn sub ab col dd k0 k1 k2 k3 k5,Y.base.get? C=some (excClassObj nm q C N bs bm hdct sn sub ab col dd k0 k1 k2 k3 k5 OZ)/\bm.contains (.ref R)=true
section
variable {Y:Cx}{C R:Addr}{rn RX:Str}{i:Nat}{np hp pos:Pos}{body uV:List Stmt}{b0:Stmt}{tb:dA}{r:(Ev->Prop)->Ev->Prop}{d:D}
def Vo {pins:List (Addr×Obj)}{U:L2.St}{H H':Hp}{s s':Shared}{ea:Addr}{B:Heap}{F:Ends} (mz:Y.stack=Y.env::Y.outer) (Cb:Y.env.frame=some Y.env.locals) (BB:DH Y C R rn) (hS:Fb Y i C (b0::uV) d)
  (hN:Y.N.Nodup) (hi:Y.N[i]?=some RX) (hl:Y.env.scope.names.lookup RX=some .local) (hk:Y.env.kindOf RX=some .local) (hg:Gl Y rn) (zg:(rn==("__debug__":Str))=false) (J1:Inv Y pins U H s) (O:Bl Y.prog Y.w Y.stack H s ea C B H' s')
  {G:Hp} (hG:aX G H') (hF:∀v G' H'',Ext G H' G' H''->Den Y.K G' v d->F.rt v H''):Yv Y [.ExceptHandler (some (.Name rn np)) (some RX) (b0::uV) hp] (SP Y.Qk pins F) (.ref ea) s':=by
 obtain ⟨W2,RU,OR,hbR⟩:=BB.rb;obtain ⟨OZ,bm,N,nm,q,bs,hdct,sn,sub,ab,col,dd,k0,k1,k2,k3,k5,hC,Vn⟩:=BB.cb;obtain ⟨t,OS⟩:=O.OS;rw [mz] at OS;refine wpAny_looks_onW (by rw [J1.ok.frames,mz]) Cb OS fun h4 Yw sm4=>?_
 refine wpAny_landsW Yw fun h5 Vp sm5=>?_
 have J5:Inv Y pins U H' { s' with heap:=h5 }:=Inv.landed (X:=Y) J1 O Vp.1 (sm4.trans sm5);refine xS (C:=C) (y:=rn) (newId:=OZ) (mg:=Y.mg) hbR (t8 (Inv.marked J5 ea) hg OR.bound ⟨rfl,OR.keeps J5.bk,⟨bm,N,nm,q,bs,hdct,sn,sub,ab,col,dd,k0,k1,k2,k3,k5,J5.bk _ _ hC,Vn⟩,Vp.there,?_⟩ zg);refine lands_againW Vp fun h7 Vq sm7=>?_
 have J7:Inv Y pins U H' { s' with heap:=h7 }:=Inv.landed (X:=Y) J1 O Vq.1 ((sm4.trans sm5).trans sm7);obtain ⟨oe,vs,T,oT,ts,he,⟨jN,_⟩,Yx,_⟩:=Vq.2.2.2;have nf':ea∉oM (Y.env::Y.outer):=fun hb=>by
  obtain ⟨_,o,ho,nfl⟩:=Vq.2.2.1.mem hb;rw [he] at ho;cases ho;exact nfl vs Yx
 have nl:ea≠Y.env.locals:=fun z=>nf' (bC.mpr ⟨Y.env,aj,by rw [Cb,z]⟩)
 have M7:Inv (markX Y ea) ((ea,oe)::pins) U H' { s' with heap:=h7 }:=(Inv.marked J7 ea).vX fun p hp=>by
  rcases (aE.mp hp) with rfl | hp
  ·exact ⟨he,Bl.free (X:=Y) O,nl,fun z=>nf' (Hi z),fun v z=>by rw [Yx] at z;cases z⟩
  ·exact J7.pin p (aN _ hp)
 refine Am (X:=markX Y ea) (v:=.ref ea) M7 hN hi (Or.inl hl) rfl (fun s8 I8=>?_) (.inr hl);have YZ:i<U.length:=by rw [J1.len];exact (aK.mp hi).1
 refine aV (hS ea oe pins _ H' G s8 jN hG I8 (List.getElem?_set_self YZ)) (fun f s9 ⟨u,v,U9,H9,G9,ef,rv,I9,e9,d9⟩=>?_) fun _ _ z=>z
 subst ef;have K9:Inv Y pins _ H9 s9:=Inv.unmarked J1.ok I9;obtain ⟨m9,hn9,_⟩:=K9.loc;refine wpAny_nameGoes hk hn9 (by rw [J1.ok.kind];rfl) fun h10 m10 hn10 hs10=>?_
 exact ⟨v,_,H9,(Inv.OX K9 hn10 hs10).Ao _,rv,hF v G9 H9 e9 d9⟩
def Fc (mz:Y.stack=Y.env::Y.outer) (Cb:Y.env.frame=some Y.env.locals) (BB:DH Y C R rn)
  (hb:Em Y.Qk body tb) (hr:∀(n:En) (pn:List (Addr×Obj)) (xe:Value->Shared->Prop) (P:Ev->Prop),E9 (zo Y pn xe) n C P->M5 (zo Y pn xe) n body (r P)) (hS:Fb Y i C (b0::uV) d)
  (hN:Y.N.Nodup) (hi:Y.N[i]?=some RX) (hl:Y.env.scope.names.lookup RX=some .local) (hk:Y.env.kindOf RX=some .local) (hg:Gl Y rn) (zg:(rn==("__debug__":Str))=false:=by decide) :
  DS Y.Qk (.Try body [.ExceptHandler (some (.Name rn np)) (some RX) (b0::uV) hp] [] [] pos) (OY tb r d):=by
 intro pins s U H F I ⟨n,Z,G,E,R0,h,k⟩;refine wpAny_Try_except ?_;rcases h with h | ⟨P,h,hd⟩
 ·refine aV (hb pins s U H F I ⟨n,Z,G,E,R0,h,k⟩) (fun f s1 hs=>?_) fun e s1 z=>z.elim
  cases f with
  | next=>have ⟨U1,H1,I1,q⟩:=hs;exact D7 pins s1 U1 H1 F I1 q
  | ret u=>exact hs
  | brk=>exact hs
  | cont=>exact hs
 ·have IY:Inv Y pins U H s:=I.pI
  have W:E9 (zo Y (Y.pn++pins) (Yv Y [.ExceptHandler (some (.Name rn np)) (some RX) (b0::uV) hp] (SP Y.Qk pins F))) n C P:=⟨fun Tn U1 H1 s1 ea B H' s' I1 O ⟨Z',U',G',R',hP⟩=>by
   refine Vo mz Cb BB hS hN hi hl hk hg zg (Inv.Yu I1) O R'.sub fun v G2 H2 e dv=>?_
   exact k.rt v d Z' U' G2 H2 (Rel.ext R' e) dv (hd Z' hP)⟩
  refine aV (hr n (Y.pn++pins) _ P W [] s U H ⟨fun _ _=>False,fun _ _=>False,fun _ _=>False,fun _ _=>False⟩ (Inv.Yt IY _) ⟨Z,G,R0,h⟩) (fun f s1 hs=>?_) fun e s1 z=>z
  cases f with
  | next=>have ⟨_,_,_,q⟩:=hs;exact q.elim
  | ret u=>have ⟨_,_,_,_,_,q⟩:=hs;exact q.elim
  | brk=>have ⟨_,_,_,q⟩:=hs;exact q.elim
  | cont=>have ⟨_,_,_,q⟩:=hs;exact q.elim
end
def Hm {us:List Value}:∀{bs:List Bool},Vals (bs.map V.bl) us->us=bs.map Value.bool:=by
 induction us with
 | nil=>intro bs h;cases bs with
  | nil=>rfl
  | cons b r=>cases h
 | cons u us ih=>intro bs h;cases bs with
  | nil=>cases h
  | cons b r=>cases h with
   | cons h1 h2=>cases (show u=Value.bool b from h1);rw [ih h2];rfl
theorem xT {K:Frag}{G:Hp}:∀{bs:List Bool}{vs:List V},bP K G vs (bs.map D.bl)->vs=bs.map V.bl
 | [],_,h=>by cases h;rfl
 | b::r,_,h=>by cases h with | cons h1 h2=>rw [h1.Az,xT h2];rfl
noncomputable def O0:Value->Bool
 | .bool true=>true
 | _=>false
def Mt (ta:fV):fV:=fun Z Q=>ta Z fun d Z1=>∃l,EI d=some l/\∃bs,xG l=some bs/\Q (.int ((bs.count true:Nat):Int)) Z1
def Mu (ta:fV):fV:=fun Z Q=>ta Z fun d Z1=>∃l,EI d=some l/\∃bs,xG l=some bs/\bs.length<=1000/\true∈bs/\Q (.int ((bs.idxOf true:Nat):Int)) Z1
section
variable {X:Cx}{o:Expr}{ta:fV}
def rCnt (K:Frag):V->List V->Hp->VK->Prop:=fun x vs H Q=>∃(l:Addr) (bs:List Bool),x=.ref l/\vs=[.bl true]/\kC K H l (bs.map V.bl)/\Q (.int ((bs.count true:Nat):Int)) H
def rFst (K:Frag):V->List V->Hp->VK->Prop:=fun x vs H Q=>∃(l:Addr) (bs:List Bool),x=.ref l/\vs=[.bl true]/\kC K H l (bs.map V.bl)/\bs.length<=1000/\true∈bs/\Q (.int ((bs.idxOf true:Nat):Int)) H
theorem O1:∀{bs:List Bool}{j:Nat} (h:j<bs.length),bs.idxOf bs[j]<=j
 | b::r,0,_=>by simp
 | b::r,j+1,h=>by
  rw [List.getElem_cons_succ,List.idxOf_cons];have:=O1 (bs:=r) (j:=j) (by simpa using h);cases q:(b==r[j]'(by simpa using h)) with
  | true=>simp
  | false=>simp;omega
theorem K7:∀bs:List Bool,(bs.map Value.bool).countP O0=bs.count true
 | []=>rfl
 | b::r=>by
  have ih:=K7 r;cases b
  ·simp only [List.map_cons,List.countP_cons,O0,List.count_cons,ih];rfl
  ·simp only [List.map_cons,List.countP_cons,O0,List.count_cons,ih];rfl
def O2 {A:Around}{s:Shared}{bs:List Bool}{y:Value} (h:y∈bs.map Value.bool):SeqAt.EqAt A s y (.bool true) (O0 y):=by
 obtain ⟨b,_,rfl⟩:=ak.mp h;cases b
 ·exact SeqAt.EqAt.bool_bool false true
 ·exact SeqAt.EqAt.bool_bool true true
def Vr:Y5 X "list.count" (rCnt X.K):=by
 intro pins s U H x vs v us Q I rx rv h;obtain ⟨l,bs,rfl,rfl,hq,q⟩:=h;cases rx;obtain ⟨u,rfl,ru⟩:=rv.one;cases (show u=Value.bool true from ru);obtain ⟨its,rv',pl,_⟩:=I.list hq;have ei:=Hm rv';subst ei;obtain ⟨⟨c0,d0,b0,s0⟩,Yy,c1,n0,d1⟩:=id pl.isList;simp only at c1 d1;subst c1 d1;have run:=PySem.SeqAt.list_countAt l (bs.map Value.bool).toArray n0 d0 s0 (.bool true) O0;refine call_meets PySem.F.slot_list_count ⟨_,Yy,rfl⟩ PySem.F.entry_list_count (PySem.F.args_list_count_2 _ _) run ⟨Yy,fun y hy=>O2 (by simpa using hy),?_⟩;rw [show (bs.map Value.bool).toArray.toList.countP O0=bs.count true from K7 bs];exact ⟨.int _,H,I.tok _,⟨_,rfl⟩,q⟩
def Vs:Y5 X "list.index" (rFst X.K):=by
 intro pins s U H x vs v us Q I rx rv h;obtain ⟨l,bs,rfl,rfl,hq,hz,hm,q⟩:=h;cases rx;obtain ⟨u,rfl,ru⟩:=rv.one;cases (show u=Value.bool true from ru);obtain ⟨its,rv',pl,_⟩:=I.list hq;have ei:=Hm rv';subst ei;obtain ⟨⟨c0,d0,b0,s0⟩,Yy,c1,n0,d1⟩:=id pl.isList;simp only at c1 d1;subst c1 d1;have place:=List.idxOf_lt_length_iff.mpr hm;have found:O0 ((bs.map Value.bool).toArray[bs.idxOf true]'(by simpa using place))=true:=by
  have e:bs[bs.idxOf true]=true:=List.getElem_idxOf place;simp [e,O0]
 have ahead:∀j (hj:j<(bs.map Value.bool).toArray.size),j<bs.idxOf true->O0 (bs.map Value.bool).toArray[j]=false:=fun j hj before=>by
  have lt:j<bs.length:=by simpa using hj
  have e:bs[j]≠true:=fun z=>by
   have:bs.idxOf true<=j:=by
    rw [<-z];exact O1 lt
   omega
  have e2:bs[j]=false:=by simpa using e
  simp [e2,O0]
 have run:=PySem.SeqAt.list_indexAt l (bs.map Value.bool).toArray n0 d0 s0 (.bool true) O0 (bs.idxOf true) (by simpa using place) (by omega) found ahead;refine call_meets PySem.F.slot_list_index ⟨_,Yy,rfl⟩ PySem.F.entry_list_index (PySem.F.args_list_index_2 _ _) run ⟨Yy,fun y hy=>O2 (by simpa using hy),?_⟩;exact ⟨.int _,H,I.tok _,⟨_,rfl⟩,q⟩
def Vt {ap cp p:Pos}{j:Nat} (ha:DE X o ta)
  (kX:attributeBase o "count" X.env (eval o X.env)=eval o X.env:=by rfl)
  (xw:((backTo cp (starEach [.Constant (.bool true) j p] X.env)).all (fun x=>!x.1)&&(backToKw cp (keywordEach [] X.env)).all (fun x=>x.1.isSome)
   && decide ([Expr.Constant (.bool true) j p].length+([]:List Keyword).length+(if ([]:List Keyword).isEmpty then 0 else 1)<30))=true:=by rfl)
  (oR:(ap.endLine==cp.line)=true:=by rfl) (mz:starEach [.Constant (.bool true) j p] X.env=(false,eval (.Constant (.bool true) j p) X.env)::starEach [] X.env:=by rfl) (mY:(backTo cp (starEach [] X.env)).any (·.1)=false:=by rfl) :
  DE X (.Call (.Attribute o "count" ap) [.Constant (.bool true) j p] [] cp) (Mt ta) :=
 cN (Kl PySem.F.plainAttrs_list PySem.F.slot_list_count PySem.F.type_list_count Vr ha (gm Na kD mz) kX xw oR mz mY) fun U H Q2 hx=>hx.el fun n Z G Q R h kk =>
  ⟨n,Z,G,_,R,h,fun v G1 H1 d Z1 R1 s1 d1 h1=>by
   obtain ⟨l,e0,bs,eb,h1⟩:=h1;unfold EI at e0
   split at e0
   ·cases e0
    obtain ⟨a,vs,rfl,hs,la⟩:=d1.lst_inv;rw [si eb] at la;have ev:=xT la;subst ev;exact ⟨.inl ⟨rfl,_,R1.sub.seq hs⟩,a,bs,rfl,rfl,R1.sub.seq hs,kk _ G1 H1 _ Z1 R1 s1 (.int _) h1⟩
   ·cases e0⟩
def Vu {ap cp p:Pos}{j:Nat} (ha:DE X o ta)
  (kX:attributeBase o "index" X.env (eval o X.env)=eval o X.env:=by rfl)
  (xw:((backTo cp (starEach [.Constant (.bool true) j p] X.env)).all (fun x=>!x.1)&&(backToKw cp (keywordEach [] X.env)).all (fun x=>x.1.isSome)
   && decide ([Expr.Constant (.bool true) j p].length+([]:List Keyword).length+(if ([]:List Keyword).isEmpty then 0 else 1)<30))=true:=by rfl)
  (oR:(ap.endLine==cp.line)=true:=by rfl) (mz:starEach [.Constant (.bool true) j p] X.env=(false,eval (.Constant (.bool true) j p) X.env)::starEach [] X.env:=by rfl) (mY:(backTo cp (starEach [] X.env)).any (·.1)=false:=by rfl) :
  DE X (.Call (.Attribute o "index" ap) [.Constant (.bool true) j p] [] cp) (Mu ta) :=
 cN (Kl PySem.F.plainAttrs_list PySem.F.slot_list_index PySem.F.type_list_index Vs ha (gm Na kD mz) kX xw oR mz mY) fun U H Q2 hx=>hx.el fun n Z G Q R h kk =>
  ⟨n,Z,G,_,R,h,fun v G1 H1 d Z1 R1 s1 d1 h1=>by
   obtain ⟨l,e0,bs,eb,hz,hm,h1⟩:=h1;unfold EI at e0
   split at e0
   ·cases e0
    obtain ⟨a,vs,rfl,hs,la⟩:=d1.lst_inv;rw [si eb] at la;have ev:=xT la;subst ev;exact ⟨.inl ⟨rfl,_,R1.sub.seq hs⟩,a,bs,rfl,rfl,R1.sub.seq hs,hz,hm,kk _ G1 H1 _ Z1 R1 s1 (.int _) h1⟩
   ·cases e0⟩
end
end Dl
namespace Dl
open PySem PySem.Spec PySem.Calls PyProof.Rows L2
section
variable {A:Around}{E:Value->Shared->Prop}{prog:Program}{w:World}{h:Heap}{g:Array GenState}{d:Drawn}{t:Nat}{os:OsState}{o:Obj}{a:Addr}
 {nm q:Str}{C N:Addr}{bs bm:List Value}{hdct:Bool}{sn:List Str}{sub:List Value}{ab:Bool}{col:Option Bool}{dd:Option Addr}{k0 k1 k2 k3 k5:Option Value}{newId:String}
theorem owner_class:".".intercalate ("object.__class__".cutAt '.').dropLast="object":=by decide +kernel
def RY {R:Result->Shared->Prop} (hC:h.get? C=some (excClassObj nm q C N bs bm hdct sn sub ab col dd k0 k1 k2 k3 k5 newId)) (hb:bm.contains (.type "object")=true)
  (px:h.get? a=some o) (pc:o.cls=.ref C) (hq:R (.ok (.ret (.ref C))) ⟨h,g,d,t,os⟩) :
  codeAny (model prog w) A (.call (.builtin "getset_descriptor.__get__") ⟨[.builtin "object.__class__",.ref a,.ref C],[]⟩) R ⟨h,g,d,t,os⟩:=by
 have To:(⟨h,g,d,t,os⟩:Shared).TypeIs (.builtin "object.__class__") "getset_descriptor":=F.typeOf_object_class;have hcB:(Value.ref C::bm).contains (.type (".".intercalate ("object.__class__".cutAt '.').dropLast))=true:=by
  rw [owner_class,List.contains_cons,hb];exact Bool.or_true _
 refine codeAny_call_builtin F.slot_gs_get.plain F.entry_gs_get (F.slot_gs_get.check _ _ _ _ _ _ _ _ To (F.args_gs_get _ _ _) ?_)
 repeat (any_goals (first | assumption | done | (with_reducible refine cT px ?_;rw [pc]) | (with_reducible refine wpAny_isSubtype_exc hC ?_;rw [hcB]) | wp_step))
 refine ⟨Code.quiet_builtin (_) (by decide +kernel),bN F.entry_object_class ?_⟩
 repeat (any_goals (first | assumption | done | (with_reducible refine cT px ?_;rw [pc]) | wp_step))
def Mv {tk:Tok}{Q:Fin->Shared->Prop} (LC:PySem.W.Looks (model prog w) h (typeLookup (.ref C) "__class__") (some (.builtin "object.__class__"))) (hC:h.get? C=some (excClassObj nm q C N bs bm hdct sn sub ab col dd k0 k1 k2 k3 k5 newId)) (hb:bm.contains (.type "object")=true)
  (px:h.get? a=some o) (pc:o.cls=.ref C) (hq:Q (.done (.ret (.ref C))) ⟨h,g,d,t,os⟩) :
  wpAny (model prog w) A (Builtin.«object.__getattribute__» ⟨[.ref a,.str ("__class__") tk],[]⟩) Q E ⟨h,g,d,t,os⟩:=by
 have To:(⟨h,g,d,t,os⟩:Shared).TypeIs (.builtin "object.__class__") "getset_descriptor":=F.typeOf_object_class;have gs5:=F.typeOf_object_class;have gs6:=F.slot_gs_get.lookup;have gs7:=F.slot_gs_set.lookup
 repeat (any_goals (first | assumption | done | (with_reducible refine cT px ?_;rw [pc]) | with_reducible refine LC.at ?_ | wp_step))
 refine RY hC hb px pc ?_
 repeat (any_goals (first | assumption | done | wp_step))
def Mw {M:Model}{Tp:Value}{Q:Unit->Shared->Prop} (hC:h.get? C=some (excClassObj nm q C N bs bm hdct sn sub ab col dd k0 k1 k2 k3 k5 newId)) (hb:bm.contains (.type "BaseException")=true)
  (px:h.get? a=some o) (pc:o.cls=.ref C) (hq:Q () ⟨h,g,d,t,os⟩):wpAny M A (checkBuiltinCall "BaseException.__getattribute__" ⟨[.ref a,Tp],[]⟩) Q E ⟨h,g,d,t,os⟩:=by
 have kind:builtinKind "BaseException.__getattribute__"=some .slot:=by decide +kernel
 have cut:splitId "BaseException.__getattribute__"=some ("BaseException","__getattribute__"):=by decide +kernel
 have hcB:(Value.ref C::bm).contains (.type "BaseException")=true:=by rw [List.contains_cons,hb];exact Bool.or_true _
 have args:=F.args_bexc_ga (.ref a) Tp;simp only [checkBuiltinCall,kind,cut];refine aa ?_
 ·unfold isInstance
  repeat (first | done | (with_reducible refine cT px ?_;rw [pc]) | (with_reducible refine wpAny_isSubtype_exc hC ?_;rw [hcB]) | wp_step)
  exact hq
def Vv {tk:Tok}{Q:Value->Shared->Prop} (FB:ExcAttrFacts "ValueError") (LG:PySem.W.Looks (model prog w) h (typeLookup (.ref C) "__getattribute__") (some (.builtin "BaseException.__getattribute__"))) (LN:PySem.W.Looks (model prog w) h (typeLookup (.ref C) "__getattr__") none)
  (LC:PySem.W.Looks (model prog w) h (typeLookup (.ref C) "__class__") (some (.builtin "object.__class__"))) (hC:h.get? C=some (excClassObj nm q C N bs bm hdct sn sub ab col dd k0 k1 k2 k3 k5 newId)) (hb:bm.contains (.type "object")=true) (Yz:bm.contains (.type "BaseException")=true)
  (px:h.get? a=some o) (pc:o.cls=.ref C) (hq:Q (.ref C) ⟨h,g,d,t,os⟩):wpAny (model prog w) A (getAttrBy (.ref a) (.str "__class__" tk) false) Q E ⟨h,g,d,t,os⟩:=by
 have bnd:=FB.ga.bind (.ref a);have ne:(Value.builtin "BaseException.__getattribute__"==Value.builtin "object.__getattribute__")=false:=by decide +kernel
 have ne1:(onTheHeap (Value.ref C)&&Value.builtin "BaseException.__getattribute__"==Value.builtin "object.__getattribute__")=false:=by rw [ne];rfl
 repeat (any_goals (first | assumption | done | (with_reducible refine cT px ?_;rw [pc]) | with_reducible refine LG.at ?_ | with_reducible refine LN.at ?_ | wp_step))
 refine codeAny_call_builtin FB.ga.plain F.entry_bexc_ga (Mw hC Yz px pc (Mv LC hC hb px pc ?_))
 repeat (any_goals (first | assumption | done | wp_step))
def O3 {Q:Option Value->Shared->Prop} (FB:ExcAttrFacts "ValueError") (LG:PySem.W.Looks (model prog w) h (typeLookup (.ref C) "__getattribute__") (some (.builtin "BaseException.__getattribute__"))) (LN:PySem.W.Looks (model prog w) h (typeLookup (.ref C) "__getattr__") none)
  (LC:PySem.W.Looks (model prog w) h (typeLookup (.ref C) "__class__") (some (.builtin "object.__class__"))) (hC:h.get? C=some (excClassObj nm q C N bs bm hdct sn sub ab col dd k0 k1 k2 k3 k5 newId)) (hb:bm.contains (.type "object")=true) (Yz:bm.contains (.type "BaseException")=true)
  (px:h.get? a=some o) (pc:o.cls=.ref C) (hq:Q (some (.ref C)) ⟨h,g,d,t+1,os⟩):wpAny (model prog w) A (getAttr? (.ref a) "__class__") Q E ⟨h,g,d,t,os⟩:=by
 unfold getAttr? getAttrBy?
 repeat (any_goals (first | assumption | done | with_reducible apply Vv FB LG LN LC hC hb Yz px pc | wp_step))
end
def zV {K:Frag}{h:Heap}{C:Addr}{K6:List Value}{newId:String} (X:K.In h) (q:excIn K C K6 newId=true) :
  ∃bm N nm qq bs hdct sn sub ab col dd k0 k1 k2 k3 k5,h.get? C=some (excClassObj nm qq C N bs bm hdct sn sub ab col dd k0 k1 k2 k3 k5 newId)/\OwnTail h K6 bm:=by
 unfold excIn at q
 split at q
 case h_2=>cases q
 rename_i dct cdt Yr hlk
 split at q
 case h_2=>cases q
 rename_i Cc tl a0 a1 a2 a3 nid a5 Mh Tj;simp only [Bool.and_eq_true,Bool.not_eq_true',beq_iff_eq] at q;have ⟨⟨⟨⟨⟨q1,q2⟩,q3⟩,q4⟩,q5⟩,q6⟩:=q;subst q1 q2;have ⟨c1,c2,c3,c4,c5,c6,c7,c8,c9,Ys,c11⟩:=cdt;simp only at Mh q3 q5 q6;subst Mh q3;have es:Yr=#[a0,a1,a2,a3,some (.builtin nid),a5]:=by
  rcases Yr with ⟨l⟩;exact congrArg Array.mk Tj
 subst es;exact ⟨tl,c4,c1,c5,c2,c6,c7,c8,c9,Ys,dct,a0,a1,a2,a3,a5,X _ _ hlk,PySem.W.tail_of_in X q4⟩
structure Hn (K:Frag) (C:Addr):Prop where
 ex:∃K6 newId,excIn K C K6 newId=true/\K6.contains (.type "object")=true/\K6.contains (.type "BaseException")=true
 ga:findIn K (.ref C) "__getattribute__"=some (some (.builtin "BaseException.__getattribute__"))
 gn:findIn K (.ref C) "__getattr__"=some none
 cl:findIn K (.ref C) "__class__"=some (some (.builtin "object.__class__"))
def O4 {K:Frag}{ea C:Addr}{oe:Obj} (jN:oe.cls=.ref C) (X:Hn K C):PySem.W.KitX K (.ref ea) (.ref C) (fun h=>h.get? ea=some oe) where
 ty:=fun M h _ p=>by
  intro A Q E s k q;show wpAny M A (do let z <-loadPart ea (some headPart);pure z.cls) Q E s;exact aa (wpAny_loadPart (k _ _ p) (ag (by rw [jN];exact q)))
 it:=fun M h KX _=>by
  obtain ⟨K6,newId,hq,_⟩:=X.ex;obtain ⟨bm,N,nm,qq,bs,hdct,sn,sub,ab,col,dd,k0,k1,k2,k3,k5,hC,_⟩:=zV KX hq;intro A Q E s k q;unfold isType loadHead;exact aa (wpAny_loadPart (k _ _ hC) (ag q))
 ne:=fun h tp dd its n sl KX htp=>by
  obtain ⟨K6,newId,hq,_⟩:=X.ex;obtain ⟨bm,N,nm,qq,bs,hdct,sn,sub,ab,col,dd,k0,k1,k2,k3,k5,hC,_⟩:=zV KX hq;refine Bool.eq_false_iff.mpr fun z=>?_
  have e:C=tp:=Value.ref.inj (cJ.mp z);subst e;have z:Value.type "type"=Value.type "tuple":=congrArg Obj.cls (bt (hC.symm.trans htp));exact absurd (Value.type.inj z) (by decide)
 ca:=fun {prog w A E Q s} KX p k=>by
  obtain ⟨K6,newId,hq,WY,Yz⟩:=X.ex;obtain ⟨bm,N,nm,qq,bs,hdct,sn,sub,ab,col,dd,k0,k1,k2,k3,k5,hC,T⟩:=zV KX hq;obtain ⟨h,g,d,t,os⟩:=s;exact O3 PySem.F.attr_ValueError (PySem.W.looks_findIn KX X.ga) (PySem.W.looks_findIn KX X.gn) (PySem.W.looks_findIn KX X.cl) hC (T.hasType WY) (T.hasType Yz) p jN k
section
variable {X:Cx}{ea C:Addr}{oe:Obj}{c:Value}{cv:V}{b:Bool}
def O5 (hp:(ea,oe)∈X.pn) (jN:oe.cls=.ref C) (E:Hn X.K C) (hr:RelV cv c) (hc:∀u,RelV cv u->u=c) (e:kitOne X.K (.ref C) c=some b):fU X (.builtin "isinstance") (fun xs H Q=>xs=[.ref ea,cv]/\Q (.bl b) H):=by
 rintro pins s U H xs us Q I r ⟨rfl,q⟩;cases r with
 | cons r1 r2=>cases r2 with
  | cons r2 r3 =>
   cases r3;rename_i u1 u2;cases (show u1=Value.ref ea from r1);cases hc _ r2;exact PySem.W.kia_one (O4 jN E) I.Gd (I.pin _ (cg _ hp)).1 e (by intro z;cases z) fun tk=>⟨.bl b,H,I.tok _,rfl,q⟩
end
end Dl
namespace Dl
open PySem PySem.Spec PyProof.Rows L2
noncomputable abbrev Zh (P:Program) (w:World) (K:Frag) (mg:Str->Option Value) (base:Heap) (N:List Str) (qual:Str) (scope:Scope) (f:Addr) (cd:Value) (A:Around) (outer:List Env) (s:Shared) (H:Hp) (pn:List (Addr×Obj)):Cx :=
 { (mB jQ P w K mg base N qual scope f cd A outer s H (fun _ _ _=>False)) with calm:=false,pn:=pn,xe:=fun _ _=>False }
def Vw {K:Frag}{G H:Hp}{ea:Addr}{k:Nat}{N:List Str} (hN:N.length=k+1) (s:aX G H):Rel K ⟨G,H,fun _=>False⟩ (.pt ea::List.replicate k .no) (L2.start N [.ref ea]) G H:=by
 refine ⟨s,aX.refl _,fun b o e _=>e,fun b e=>e,fun b o e (e0:G b=none)=>(by rw [e0] at e;cases e),⟨fun _=>none,⟨fun _ _ z=>by cases z⟩,fun i sl hs=>?_⟩,by simp [L2.start,hN]⟩;cases i with
 | zero=>simp only [List.getElem?_cons_zero,Option.some.injEq] at hs;subst hs;rfl
 | succ i =>
  simp only [List.getElem?_cons_succ,List.getElem?_replicate] at hs
  split at hs
  ·cases hs;trivial
  ·cases hs
def Ho {Y:Cx}{ea f:Addr}{oe:Obj}{pins:List (Addr×Obj)}{U:L2.St}{H G:Hp}{s:Shared}{x qual p:Str}{st:Stmt}{fd:FuncData}{N:List Str}{k kk:Nat}{d:D} (F:kY Y.K x qual st f fd) (S:bx N [p] (aC st)) (hN:N.length=kk+1)
  (hr:fG (k+1) Y.A) (mz:Y.stack=Y.env::Y.outer) (Cb:Y.env.frame=some Y.env.locals) (hb:Binds Y.K fd [p] []) (I:Inv (markX Y ea) ((ea,oe)::pins) U H s) (hG:aX G H)
  (mX:∀(dM:Value),∃t,Em (Zh Y.prog Y.w Y.K Y.mg Y.base N qual (aC st) f dM (Y.A.mark (some (.ref ea))) Y.stack s H [(ea,oe)]) (iS st) t/\t { nx:=fun _=>False,rt:=fun d' _=>d'=d } (.pt ea::List.replicate kk .no)) :
  wpAny (model Y.prog Y.w) (Y.A.mark (some (.ref ea))) (call (.ref f) [.ref ea]) (fun u s4=>∃v H' G',RelV v u/\Inv (markX Y ea) pins U H' s4/\Ext G H G' H'/\Den Y.K G' v d) (fun _ _=>False) s:=by
 obtain ⟨oc,od,kV,doc,pm,an,dM,ct,Nv,rfl,lk,gL⟩:=F.ex;have e0:Aw Y.prog Y.w Y.K Y.mg Y.base Y.A Y.stack s H:=by
  have z:=I.Uq;exact ⟨z.frames,z.mod,z.bs,z.FW,z.oN,z.Im,z.dD,z.bare⟩
 have KX:Y.K.In s.heap:=I.Gd;have lim:s.heap.NoLimit:=I.nolimit;have Gm:∀y∈[p].zip [Value.ref ea],(aC st).names.lookup y.1=some .local\/((aC st).names.lookup y.1=some .cell/\((cellsFrom (s.heap.objs.size+1) (aC st).names []).lookup y.1).isSome=true):=fun ⟨n,v⟩ hy=>by
  rcases S.par n (List.of_mem_zip hy).1 with q | q
  ·exact .inl q
  ·exact .inr ⟨q,PySem.W.cellsFrom_some _ _ _ (.inl q)⟩
 obtain ⟨p1,p2,p3,p4,p5⟩:=I.pin (ea,oe) (aN _ aj);obtain ⟨t,ht,hq⟩:=mX dM;refine wpAny_call (codeAny_call_function hr.depth (KX _ _ lk) rfl S.co S.gen rfl (PySem.W.codeRec_of KX gL) (hb s [.ref ea] KX rfl _ _ _ _ ?_));refine wpAny_newFunctionEnv_cells S.kind Gm fun env he s1 xx=>?_
 subst he;refine ⟨lim.keeps xx.toInCall.keep,codeAny_func ?_⟩;have I0:Inv (mB jQ Y.prog Y.w Y.K Y.mg Y.base N qual (aC st) f dM Y.A Y.stack s H (fun _ _ _=>False)) [] (L2.start N [.ref ea]) H s1:=C5 S hr.hd e0 rfl (.cons rfl .nil) xx;have Ic:Inv (Zh Y.prog Y.w Y.K Y.mg Y.base N qual (aC st) f dM (Y.A.mark (some (.ref ea))) Y.stack s H [(ea,oe)]) [] (L2.start N [.ref ea]) H s1:=by
  refine ⟨⟨I0.ok.mod,I0.ok.kind,I0.ok.glob,I0.ok.blt,I0.ok.above,I0.ok.inj,I0.ok.has,I0.ok.M9,fun z=>(by cases z),?_,I0.ok.MY,I0.ok.Qi,I0.ok.bs,I0.ok.FW,I0.ok.Aj,I0.ok.Ak,I0.ok.oN,I0.ok.Im⟩,I0.os,I0.bare,I0.base,I0.loc,I0.cell,I0.free,I0.iE,fun z hz=>?_,I0.dD,I0.len⟩
  ·exact I0.ok.frames
  ·have ez:z=(ea,oe):=by simpa using hz
   subst ez;refine ⟨xx.toInCall.keep _ _ p1,p2,aP (az p1),fun hf=>?_,p5⟩;have hf':ea∈oM Y.stack:=hf;rw [mz] at hf';rcases Bm hf' with q | q
   ·rw [Cb] at q;cases q;exact p3 rfl
   ·exact p4 q
 refine aV (ht [] s1 _ H ⟨fun _ _=>False,fun v H'=>∃G',Ext G H G' H'/\Den Y.K G' v d,fun _ _=>False,fun _ _=>False⟩ Ic ⟨⟨G,H,fun _=>False⟩,_,G,_,Vw hN hG,hq,⟨fun _ _ _ _ _ z=>z,fun v d' Z U' G' H' R' dv ed=>?_,fun _ _ _ _ _ z=>z,fun _ _ _ _ _ z=>z⟩⟩) (fun fl s' hs=>?_) fun e s' hs=>False.elim hs
 ·subst ed;exact ⟨G',R'.Kp,dv⟩
 ·cases fl with
  | ret u =>
   obtain ⟨v,U',H',J,rv,G',e',dv⟩:=hs;have I1:Inv (markX Y ea) pins U H s:=I.vX fun z hz=>I.pin z (aN _ (aw _ hz))
   obtain ⟨v',H2,I2,rv2,q2⟩:=I1.after (Q:=fun v' H2=>v'=v/\H2=H') ⟨v,H',J.os,J.bare,J.base,J.dD,rv,rfl,rfl⟩;obtain ⟨rfl,rfl⟩:=q2;exact ⟨v',H2,G',rv2,I2,e',dv⟩
  | next=>have ⟨_,_,_,q⟩:=hs;exact q.elim
  | brk=>have ⟨_,_,_,q⟩:=hs;exact q.elim
  | cont=>have ⟨_,_,_,q⟩:=hs;exact q.elim
def CB (j ea:Nat) (b:Bool):fV:=fun Z Q=>Z[j]?=some (.pt ea)/\Q (.bl b) Z
def Bp {X:Cx}{ea C:Addr}{oe:Obj}{c:Value}{cv:V}{b:Bool} (j:Nat) {en:Str}{p p1 pos:Pos}{ce:Expr} (hp:(ea,oe)∈X.pn) (jN:oe.cls=.ref C) (E:Hn X.K C) (hr:RelV cv c) (hc:∀u,RelV cv u->u=c) (e:kitOne X.K (.ref C) c=some b) (hce:PE X ce (tC cv))
  (hm:X.mg "isinstance"=none) (hN:X.N[j]?=some en:=by rfl) (hv:rX X.env.scope en:=by first | exact Or.inl rfl | exact Or.inr (Or.inl rfl) | exact Or.inr (Or.inr rfl)) (hd:(en==("__debug__":Str))=false:=by decide) (gL:(en==("__classdict__":Str))=false:=by decide) (hg:Gl X "isinstance":=by rfl)
  (h1:starEach [.Name en p1,ce] X.env=(false,eval (.Name en p1) X.env)::starEach [ce] X.env:=by rfl) (h2:starEach [ce] X.env=(false,eval ce X.env)::starEach [] X.env:=by rfl) (lL:(backTo pos (starEach [ce] X.env)).any (·.1)=false:=by rfl) :
  DE X (.Call (.Name "isinstance" p) [.Name en p1,ce] [] pos) (CB j ea b) :=
 cN (oP (O5 hp jN E hr hc e) hg hm (by rfl) (gm (fe hN hv hd gL) (gm hce kD h2) h1) (by decide) (by decide) h1 lL) fun U H Q2 ⟨n,Z,G,Q,R,⟨h,q⟩,k⟩=>by
  have z:U[j]?=some (some (.ref ea)):=R.sl j _ h;exact ⟨.ref ea,z,rfl,k _ G H _ Z R (aX.refl _) (.bl b) q⟩
def wH {Y:Cx}{C f:Addr}{fn qual p en:Str}{st:Stmt}{fd:FuncData}{N:List Str}{k kk i:Nat}{d:D}{fp ep cp rp:Pos} (F:kY Y.K fn qual st f fd) (S:bx N [p] (aC st)) (hN:N.length=kk+1)
  (hr:fG (k+1) Y.A) (mz:Y.stack=Y.env::Y.outer) (Cb:Y.env.frame=some Y.env.locals) (hb:Binds Y.K fd [p] []) (hm:Y.mg fn=some (.ref f))
  (mX:∀(ea:Addr) (oe:Obj) (dM:Value) (s:Shared) (H:Hp),oe.cls=.ref C->∃t,Em (Zh Y.prog Y.w Y.K Y.mg Y.base N qual (aC st) f dM (Y.A.mark (some (.ref ea))) Y.stack s H [(ea,oe)]) (iS st) t/\t { nx:=fun _=>False,rt:=fun d' _=>d'=d } (.pt ea::List.replicate kk .no))
  (hi:Y.N[i]?=some en) (hv:rX Y.env.scope en) (hg:Gl Y fn) (zg:(fn==("__debug__":Str))=false:=by decide) (hd:(en==("__debug__":Str))=false:=by decide) (gL:(en==("__classdict__":Str))=false:=by decide)
  (he:starEach [.Name en ep] Y.env=(false,eval (.Name en ep) Y.env)::starEach [] Y.env:=by rfl) (lL:(backTo cp (starEach [] Y.env)).any (·.1)=false:=by rfl) :
  Fb Y i C [.Return (some (.Call (.Name fn fp) [.Name en ep] [] cp)) rp] d:=by
 intro ea oe pins U H G s jN hG I hU;have pe:PE (markX (zo Y ((ea,oe)::Y.pn) Y.xe) ea) (.Call (.Name fn fp) [.Name en ep] [] cp) (fun U H Q=>U[i]?=some (some (.ref ea))/\∃G,aX G H/\∀v H' G',Ext G H G' H'->Den Y.K G' v d->Q v H'):=by
  intro pins s U H Q I ⟨hU,G,hG,k1⟩;refine wpAny_Call_Name_kw (t8 I hg hm ?_ zg);refine PySem.W.callWith_K (h₀:=Y.base) I.ok.mod.MX F.kp (gy ((gm (X:=markX (zo Y ((ea,oe)::Y.pn) Y.xe) ea) (fe (i:=i) hi hv hd gL) kD he) cp pins s U H (fun vs H1=>vs=[.ref ea]/\H1=H) I ⟨.ref ea,hU,rfl,rfl⟩) fun us s1 ⟨vs,H1,I1,r,ev,eH⟩=>⟨I1.Gd,?_⟩) he lL;subst ev eH;obtain ⟨u,rfl,ru⟩:=r.one;cases (show u=Value.ref ea from ru);have I2:Inv (markX (zo Y ((ea,oe)::Y.pn) Y.xe) ea) ((ea,oe)::pins) U H1 s1:=I1.vX fun z hz=>by
   rcases (aE.mp hz) with rfl | hz
   ·exact I1.pin _ (cg _ aj)
   ·exact I1.pin _ (aN _ hz)
  refine aV (Ho (Y:=zo Y ((ea,oe)::Y.pn) Y.xe) F S hN hr mz Cb hb I2 hG fun dM=>mX ea oe dM s1 H1 jN) (fun u s4 ⟨v,H',G',rv,I4,e4,d4⟩=>?_) fun _ _ z=>z
  exact ⟨v,H',I4,rv,k1 v H' G' e4 d4⟩
 have I0:Inv (markX (zo Y ((ea,oe)::Y.pn) Y.xe) ea) pins U H s:=⟨⟨I.ok.mod,I.ok.kind,I.ok.glob,I.ok.blt,I.ok.above,I.ok.inj,I.ok.has,I.ok.M9,I.ok.hd,I.ok.frames,I.ok.MY,I.ok.Qi,I.ok.bs,I.ok.FW,I.ok.Aj,I.ok.Ak,I.ok.oN,I.ok.Im⟩,I.os,I.bare,I.base,I.loc,I.cell,I.free,I.iE,fun z hz=>I.pin z (by
  rcases cS.mp hz with hz | hz
  ·rcases aE.mp hz with rfl | hz
   ·exact aN _ aj
   ·exact cg _ hz
  ·exact aN _ (aw _ hz)),I.dD,I.len⟩
 refine aV ((Kf (Ip pe)) pins s U H ⟨fun _ _=>False,fun v H'=>∃G',Ext G H G' H'/\Den Y.K G' v d,fun _ _=>False,fun _ _=>False⟩ I0 ⟨hU,G,hG,fun v H' G' e4 d4=>⟨G',e4,d4⟩⟩) (fun f s4 hs=>?_) fun _ _ z=>z
 cases f with
 | ret u =>
  obtain ⟨v,U',H',J,rv,G',e4,d4⟩:=hs;refine ⟨u,v,U',H',G',rfl,rv,⟨⟨J.ok.mod,J.ok.kind,J.ok.glob,J.ok.blt,J.ok.above,J.ok.inj,J.ok.has,J.ok.M9,J.ok.hd,J.ok.frames,J.ok.MY,J.ok.Qi,J.ok.bs,J.ok.FW,J.ok.Aj,J.ok.Ak,J.ok.oN,J.ok.Im⟩,J.os,J.bare,J.base,J.loc,J.cell,J.free,J.iE,fun z hz=>J.pin z ?_,J.dD,J.len⟩,e4,d4⟩;rcases cS.mp hz with hz | hz
  ·exact cg _ (aw _ hz)
  ·exact aN _ hz
 | next=>have ⟨_,_,_,q⟩:=hs;exact q.elim
 | brk=>have ⟨_,_,_,q⟩:=hs;exact q.elim
 | cont=>have ⟨_,_,_,q⟩:=hs;exact q.elim
def zW {K:Frag}{h:Heap}{C R:Addr}{K6:List Value}{newId:String} (X:K.In h) (q:excIn K C K6 newId=true) (m:mroIn K C (.ref R)=some true) (ne0:C≠R) :
  ∃OZ bm N nm qq bs hdct sn sub ab col dd k0 k1 k2 k3 k5,h.get? C=some (excClassObj nm qq C N bs bm hdct sn sub ab col dd k0 k1 k2 k3 k5 OZ)/\bm.contains (.ref R)=true:=by
 obtain ⟨bm,N,nm,qq,bs,hdct,sn,sub,ab,col,dd,k0,k1,k2,k3,k5,hC,_⟩:=zV X q;refine ⟨newId,bm,N,nm,qq,bs,hdct,sn,sub,ab,col,dd,k0,k1,k2,k3,k5,hC,?_⟩;unfold mroIn PySem.W.clsIn at m
 split at m
 ·rename_i c d cd sl hl
  have z:=(X _ _ hl).symm.trans hC;have e2:Data.cls cd=(excClassObj nm qq C N bs bm hdct sn sub ab col dd k0 k1 k2 k3 k5 newId).data:=congrArg Obj.data (bt z);have e3:cd.mro=Value.ref C::bm:=by
   have:=Data.cls.inj e2;rw [this]
  have m2:¬cd.mro=[]/\Value.ref R∈cd.mro:=by simpa using m
  have m':cd.mro.contains (.ref R)=true:=by simpa using m2.2
  rw [e3,List.contains_cons] at m';have ne:(Value.ref R==Value.ref C)=false:=bc.mpr fun z=>ne0 (Value.ref.inj z).symm
  rw [ne,Bool.false_or] at m';exact m'
 ·cases m
def Bq {X:Cx}{n:En}{c:Expr}{a rest:List Stmt}{pos:Pos}{tc:qO}{ra r:Ev->Prop} (hc:DT X c tc) (ha:M5 X n a ra) (h2:M5 X n rest r):M5 X n (.If c a [] pos::rest) (fun Z=>tc Z fun q Z1=>if q=true then ra Z1 else r Z1) :=
 pL (r8 (Nd hc ha D7) h2) fun D U H ⟨Z,G,R,h⟩=>⟨n,Z,G,_,R,h,fun q G1 H1 Z1 R1 s1 h1=>by
  cases q with
  | true=>rw [if_pos rfl] at h1;exact Ei ⟨Z1,G1,R1,h1⟩
  | false=>rw [if_neg Bool.false_ne_true] at h1;exact Eh ⟨Z1,G1,R1,h1⟩⟩
def Fd {k:Nat}{A:Around} (r:fG k A):A.units+3+64<cLine:=by have:=r.un;omega
def vB (K:Frag) (C:Addr) (S:List Ar->Prop):Sp:=fun vs H _ E=>∃(G:Hp) (as:List Ar) (ow:Ow),aX G H/\as.length=vs.length/\EL K G H ow vs as/\(∀p k,ow p=some k->G p=none/\H p≠none)/\S as /\
 ∀(G' H':Hp) (ow':Ow),Rk (fun p=>ow p≠none) G H G' H'->EL K G' H' ow' vs as->(∀p k,ow' p=some k->G' p=none/\H' p≠none/\(H p=none\/ow p≠none))->E (.ref C) none H'
def jD (i:Nat) (C:Nat) (m:Str) (S:List Ar->Prop) (P:Ev->Prop) (t:Jh):Ev->Prop:=fun Z=>match Z[i]? with
 | some (.ob _ C' fs)=>C'=C/\fs.lookup m=none/\t Z fun axs Z1=>(i::kB axs).Nodup/\S (Rj Z1 (.at i)::axs.map (Rj Z1))/\P (Cw Z1 (.at i::axs) (Rj Z1 (.at i)::axs.map (Rj Z1)))
 | _=>False
section
variable {X:Cx}{n:En}{Ce:Addr}{e:Expr}{es:List Expr}{t:Jh}{p pos:Pos}{f C:Addr}{fd:FuncData}{ps:List Str}{S:List Ar->Prop}{P:Ev->Prop}{k:Nat}{m:Str}{apos:Pos}
def kT (i:Nat) {y:Str}{op:Pos}{pl:Sem Bool} (W:E9 X n Ce P) (c:Au X.K C) (hm:Meth X.K C m f) (F:cM X.prog X.w X.K X.mg X.base (vV X.prog X.w) k f fd ps (vB X.K Ce S)) (hr:fG k X.A) (hb:Binds X.K fd ps []) (ha:S7 X (e::es) t)
  (hN:X.N[i]?=some y:=by rfl) (hv:rX X.env.scope y:=by first | exact Or.inl rfl | exact Or.inr (Or.inl rfl) | exact Or.inr (Or.inr rfl)) (hd:(y==("__debug__":Str))=false:=by decide) (gL:(y==("__classdict__":Str))=false:=by decide)
  (mz:starEach (e::es) X.env=(false,eval e X.env)::starEach es X.env:=by rfl) (lL:(backTo pos (starEach es X.env)).any (·.1)=false:=by rfl)
  (ht:eval (.Call (.Attribute (.Name y op) m apos) (e::es) [] pos) X.env=(do
   let ov <-eval (.Name y op) X.env
   standAt apos.atName
   let (f,first) <-holding [ov] (getMethod ov m pl)
   callWith pos f first (backTo pos (starEach (e::es) X.env)) (backToKw pos (keywordEach [] X.env))):=by rfl) :
  RE X n (.Call (.Attribute (.Name y op) m apos) (e::es) [] pos) (jD i C m S P t):=by
 have hx:Passes (vV X.prog X.w) X (fun cls _ H'=>cls=.ref Ce/\∃Z' U' G',Rel X.K n Z' U' G' H'/\P Z'):=fun pins U H s e s' I ⟨ea,C',B,H',ee,O,ec,hR⟩=>by
  cases ec;subst ee;exact W.pass pins U H s ea B H' s' I O hR
 refine cN (Ki (pl:=pl) (fe hN hv hd gL) c hm F hr hb .nil hx ha mz lL ht) fun U H Q2 ⟨Z,G,R,h⟩=>?_
 unfold jD at h
 split at h
 ·rename_i h0 C' fs q
  obtain ⟨rfl,hl,h⟩:=h;obtain ⟨a,dx,bU,g1,g2,g3,g4,ow,i',g5⟩:=R.sl i _ q;refine ⟨.ref a,g1,a,dx,bU,rfl,g3,?_,n,Z,G,_,R,h,fun vs G1 H1 axs Z1 R1 s1 d1 ⟨nd,h1,h2⟩=>?_⟩
  ·have hk:m∉fs.map (·.1):=fun z=>by
    obtain ⟨p,hp,e⟩:=ak.mp z;exact absurd hl (by intro hh;have:=aU.mp hh p hp;simp [e] at this)
   rw [<-g5.keys] at hk;exact aU.mpr fun p hp=>by
    have:p.1≠m:=fun z=>hk (ak.mpr ⟨p,hp,z⟩)
    simpa using fun z=>this z.symm
  ·show vB X.K Ce S (.ref a::(vs++[])) H1 Q2 _
   rw [List.append_nil];obtain ⟨KD,c1,c2,c3⟩:=R1.enter (axs:=.at i::axs) nd (.at g1 d1);exact ⟨G1,_,KD,R1.sub,by simp [d1.length],c1,c2,h1,fun G2 H2 ow' e2 w2 o2=>⟨rfl,_,U,G2,c3 G2 H2 _ ow' e2 w2 o2,h2⟩⟩
 ·exact h.elim
end
section
variable {P:Program}{w:World}{K:Frag}{mg:Str->Option Value}{base:Heap}
def Br {x qual:Str}{st:Stmt}{f C:Addr}{fd:FuncData}{N ps:List Str}{k:Nat}{S:List Ar->Prop}{q:(Ev->Prop)->Ev->Prop} (F:kY K x qual st f fd) (Sc:bx N ps (aC st)) (len:∀as,S as->as.length=ps.length)
  (hq:∀(hs:Nat->Nat) as,S as->q (fun Z=>dO hs 0 as Z=as) (dt N hs as))
  (mX:∀(dM:Value) (A:Around) (outer:List Env) (s:Shared) (H:Hp) (E:XK) (n:En) (Pk:Ev->Prop),fG k (A.deeper (envOfC qual (aC st) s.heap.objs.size f dM))->E9 (mB (vV P w) P w K mg base N qual (aC st) f dM A outer s H E) n C Pk->Hj (mB (vV P w) P w K mg base N qual (aC st) f dM A outer s H E) n C Pk ->
   M5 (mB (vV P w) P w K mg base N qual (aC st) f dM A outer s H E) n (iS st) (q Pk)):cM P w K mg base (vV P w) (k+1) f fd ps (vB K C S):=by
 obtain ⟨oc,od,kV,doc,pm,an,dM,ct,Nv,rfl,lk,gL⟩:=F.ex;refine Nu lk gL Sc (fun vs H Q E ⟨G,as,ow,_,hl,_,_,h,_⟩=>by rw [<-hl];exact len as h) fun A outer s H vs Q E hr ⟨G,as,ow,sub,hl,hw,ho,h,hE⟩=>?_
 have fin:∀(Z':Ev) (U':L2.St) (G' H':Hp),Rel K ⟨G,H,fun p=>ow p≠none⟩ Z' U' G' H'->dO (pV vs) 0 as Z'=as->E (.ref C) none H':=fun Z' U' G' H' R hP=>by
  obtain ⟨ow',ok',gh'⟩:=R.gh;have z:=Oc hw R.eg gh';rw [hP] at z;exact hE G' H' ow' ⟨R.eg,R.sub,R.eh,R.al,fun b o e e0=>R.fr b o e e0⟩ z (fun p k hk=>ok'.is p k hk)
 have W:E9 (mB (vV P w) P w K mg base N qual (aC st) f dM A outer s H E) ⟨G,H,fun p=>ow p≠none⟩ C (fun Z=>dO (pV vs) 0 as Z=as):=⟨fun pins U H1 s1 ea B H' s' I O ⟨Z',U',G',R,hP⟩=>Bn I rfl rfl rfl O fun s'' O'=>⟨ea,C,B,H',rfl,O',fin Z' U' G' H' R hP⟩⟩;have WM:Hj (mB (vV P w) P w K mg base N qual (aC st) f dM A outer s H E) ⟨G,H,fun p=>ow p≠none⟩ C (fun Z=>dO (pV vs) 0 as Z=as):=⟨fun pins U H1 s1 h' ea vs I ⟨Z,G1,R,hP⟩ hx=>yH I rfl rfl rfl hx fun s'' O=>⟨ea,C,_,H1,rfl,O,fin Z U G1 H1 R hP⟩⟩;exact ⟨_,mX dM A outer s H E ⟨G,H,fun p=>ow p≠none⟩ _ hr W WM,dt N (pV vs) as,G,AY (N:=N) sub hl hw ho,hq (pV vs) as h⟩
end
def O6 (t u:dA):dA:=fun E Z=>t E Z\/u E Z
def O7 {X:Cx}{st:Stmt}{t u:dA} (h1:DS X st t) (h2:DS X st u):DS X st (O6 t u):=fun pins s U H D I ⟨n,Z,G,E,R,h,k⟩=>by
 rcases h with h | h
 ·exact h1 pins s U H D I ⟨n,Z,G,E,R,h,k⟩
 ·exact h2 pins s U H D I ⟨n,Z,G,E,R,h,k⟩
def um {X:Cx}{n:En}{C:Addr}{P:Ev->Prop}{x t:Str}{j:Nat}{np p lM pos:Pos}{bm:List Value}{B newId Vx:String} (W:Hj X n C P) (YA:X.calm=true) (O:OwnCls x C bm newId X.mg X.base) (EB:ExcBaseFacts B newId Vx bm)
  (hg:Gl X x:=by rfl) (hd:(x==("__debug__":Str))=false:=by decide) (he:starEach [.Constant (.str t) j p] X.env=(false,eval (.Constant (.str t) j p) X.env)::starEach [] X.env:=by rfl) (mY:(backTo lM (starEach [] X.env)).any (·.1)=false:=by rfl) :
  RS X n (.Raise (some (.Call (.Name x np) [.Constant (.str t) j p] [] lM)) none pos) P:=by
 intro pins s U H D I ⟨Z,G,R,hP⟩;have args:wpAny (model X.prog X.w) X.A (spliced (backTo lM (starEach [.Constant (.str t) j p] X.env))) (AP X pins U fun vs H1=>vs=[.str t]/\H1=H) X.xe s :=
  (gm (X:=X) (e:=.Constant (.str t) j p) (es:=[]) xq kD he) lM pins s U H _ I ⟨rfl,rfl⟩
 obtain ⟨tl,N,nm,q,bs,hdct,sn,sub,ab,col,dd,k0,k1,k2,k3,k5,mN,hC,hN,hni,T⟩:=O.obj;refine wpAny_Raise_call_subT (C:=C) (nm:=nm) (q:=q) (N:=N) (bs:=bs) (bm:=tl) (hdct:=hdct) (sn:=sn) (sub:=sub) (ab:=ab) (col:=col) (dd:=dd) (k0:=k0) (k1:=k1) (k2:=k2) (k3:=k3) (k5:=k5)
  EB (mN:=mN) (T.hasType EB.hasBase) (I.ok.hd YA) (by rw [he];show (false || (backTo lM (starEach [] X.env)).any (·.1))=false;rw [mY];rfl) hni (t8 I hg O.bound ⟨rfl,?_⟩ hd)
 rw [he] at args ⊢;refine Calls.evalArgs_plain (gy args fun us s2 ⟨vs,H1,I2,rv,e1,e2⟩=>?_);subst e1 e2;exact ⟨rfl,(by rw [<-rv.length];show 1<=sizeLine;decide),I2.bk _ _ hC,hN.keeps I2.bk,T.keeps I2.bk,fun h' ea hm=>W.made pins U _ s2 h' ea us I2 ⟨Z,G,R,hP⟩ hm⟩
def RZ {K:Frag}{G H:Hp}{ow:Ow}{i:Nat}{m:Str}{bU:List (Str×V)}{fs:List (Str×Fl)} (g5:uA K G H ow i bU fs) (hl:fs.lookup m=none):bU.lookup m=none:=by
 have hk:m∉fs.map (·.1):=fun z=>by
  obtain ⟨p,hp,e⟩:=ak.mp z;exact absurd hl (by intro hh;have:=aU.mp hh p hp;simp [e] at this)
 rw [<-g5.keys] at hk;exact aU.mpr fun p hp=>by
  have:p.1≠m:=fun z=>hk (ak.mpr ⟨p,hp,z⟩)
  simpa using fun z=>this z.symm
section
variable {X:Cx}{n:En}{Ce:Addr}{p pos:Pos}{f C:Addr}{fd:FuncData}{ps:List Str}{S:List Ar->Prop}{P:Ev->Prop}{k:Nat}{m:Str}{apos:Pos}
def sv (i:Nat) {y:Str}{op:Pos}{pl:Sem Bool} (W:E9 X n Ce P) (c:Au X.K C) (hm:Meth X.K C m f) (F:cM X.prog X.w X.K X.mg X.base (vV X.prog X.w) k f fd ps (vB X.K Ce S)) (hr:fG k X.A) (hb:Binds X.K fd ps [])
  (hN:X.N[i]?=some y:=by rfl) (hv:rX X.env.scope y:=by first | exact Or.inl rfl | exact Or.inr (Or.inl rfl) | exact Or.inr (Or.inr rfl)) (hd:(y==("__debug__":Str))=false:=by decide) (gL:(y==("__classdict__":Str))=false:=by decide)
  (ht:eval (.Call (.Attribute (.Name y op) m apos) [] [] pos) X.env=(do
   let ov <-eval (.Name y op) X.env
   standAt apos.atName
   let (f,first) <-holding [ov] (getMethod ov m pl)
   callWith pos f first (backTo pos (starEach [] X.env)) (backToKw pos (keywordEach [] X.env))):=by rfl) :
  RE X n (.Call (.Attribute (.Name y op) m apos) [] [] pos) (jD i C m S P fc):=by
 have hx:Passes (vV X.prog X.w) X (fun cls _ H'=>cls=.ref Ce/\∃Z' U' G',Rel X.K n Z' U' G' H'/\P Z'):=fun pins U H s e s' I ⟨ea,C',B,H',ee,O,ec,hR⟩=>by
  cases ec;subst ee;exact W.pass pins U H s ea B H' s' I O hR
 refine cN (Gj (pl:=pl) (fe hN hv hd gL) c hm F hr hb .nil hx ht) fun U H Q2 ⟨Z,G,R,h⟩=>?_
 unfold jD at h
 split at h
 ·rename_i h0 C' fs q
  obtain ⟨rfl,hl,nd,h1,h2⟩:=h;obtain ⟨a,dx,bU,g1,g2,g3,g4,ow,i',g5⟩:=R.sl i _ q;refine ⟨.ref a,g1,a,dx,bU,rfl,g3,RZ g5 hl,?_⟩;obtain ⟨KD,c1,c2,c3⟩:=R.enter (axs:=[.at i]) nd (.at g1 .nil);exact ⟨G,_,KD,R.sub,by simp,c1,c2,h1,fun G2 H2 ow' e2 w2 o2=>⟨rfl,_,U,G2,c3 G2 H2 _ ow' e2 w2 o2,h2⟩⟩
 ·exact h.elim
end
section
variable {prog:Program}{w:World}{A:Around}{E:Value->Shared->Prop}{s:Shared}
def R6 {a b:Addr}{m n:Int}{x y:Str}{t1 t2 t3 t4:Tok}{Q:Value->Shared->Prop} (hu:A.units+1<cLine) (ha:IsTup s.heap a #[.int m t1,.str x t2]) (hb:IsTup s.heap b #[.int n t3,.str y t4])
  (h:Q (.bool (klt [.inl m,.inr x] [.inl n,.inr y])) s):wpAny (model prog w) A (richCompare .Lt (.ref a) (.ref b)) Q E s:=by
 refine wpAny_richCompare_same_room (op:=.Lt) (T:="tuple") ha.typeIs hb.typeIs F.slot_tuple_lt (bI F.slot_tuple_lt ha.typeIs F.entry_tuple_lt ?_ (F.args_tuple_lt_2 _ _)) (by omega);show wpAny _ _ (isInstance (.ref b) (.type "tuple") >>= _) _ _ s;refine aa (wpAny_isInstance hb.typeIs isSubtype_tuple_tuple ?_);simp only [Bool.not_true,Bool.false_eq_true,if_false];refine aa (tupleItemsOf_ ha ?_);refine aa (tupleItemsOf_ hb ?_);refine aa ?_;show wpAny _ _ (forIn [(Value.int m t1,Value.int n t3),(Value.str x t2,Value.str y t4)] _ _) _ _ s;rw [List.forIn_cons];refine aa (aa (wpAny_eqBool_int ?_))
 by_cases e1:m=n
 ·subst e1
  have e2:klt [.inl m,.inr x] [.inl m,.inr y]=klt [.inr x] [.inr y]:=by
   show (if (Sum.inl m:Key)=.inl m then _ else _)=_;rw [if_pos rfl]
  rw [e2] at h;rw [beq_self_eq_true];simp only [Bool.not_true,Bool.false_eq_true,if_false];refine ag ?_;dsimp only;rw [List.forIn_cons];refine aa (aa (wpAny_eqBool_str ?_))
  by_cases e3:x=y
  ·subst e3
   have e4:klt [.inr x] [.inr x]=false:=by
    show (if (Sum.inr x:Key)=.inr x then _ else _)=_;rw [if_pos rfl];rfl
   rw [e4] at h;rw [decide_eq_true rfl];simp only [Bool.not_true,Bool.false_eq_true,if_false];refine ag ?_;dsimp only;rw [List.forIn_nil];exact ag (ag ⟨_,rfl,(fun z=>by cases z),h⟩)
  ·have e4:klt [.inr x] [.inr y]=decide (x.cps.toList<y.cps.toList):=by
    show (if (Sum.inr x:Key)=.inr y then _ else _)=_;rw [if_neg (fun z=>e3 (Sum.inr.inj z))];rfl
   rw [e4] at h;rw [decide_eq_false e3];simp only [Bool.not_false,if_true];refine aa (wpAny_rule (aa ?_));refine (lt_str (show _ from ?_));exact ag (ag (ag ⟨_,rfl,(fun z=>by cases z),h⟩))
 ·have e2:klt [.inl m,.inr x] [.inl n,.inr y]=decide (m<n):=by
   show (if (Sum.inl m:Key)=.inl n then _ else _)=_;rw [if_neg (fun z=>e1 (Sum.inl.inj z))];rfl
  rw [e2] at h;have e3:(m==n)=false:=by simpa using e1
  rw [e3];simp only [Bool.not_false,if_true];refine aa (wpAny_rule (aa ?_));refine (lt_int (show _ from ?_));exact ag (ag (ag ⟨_,rfl,(fun z=>by cases z),h⟩))
end
section
variable {prog:Program}{w:World}{A:Around}
def Qr (g h:Heap):Prop:=∀b o,g.get? b=some o->h.get? b=some o
def YB (prog:Program) (w:World) (A:Around) (g:Heap) (P:Nat->Value->Prop) (lt:Nat->Nat->Bool):Prop :=
 ∀i j u v (z:Shared) (Q E:Value->Shared->Prop),Qr g z.heap->P i u->P j v->Q (.bool (lt i j)) z->wpAny (model prog w) A (richCompare .Lt u v) Q E z
variable {R:Result->Shared->Prop}{I S:Addr}{fp wr:List Addr}{n:Nat}{P:Nat->Value->Prop}{St:Nat->Heap->Prop}{lt:Nat->Nat->Bool}{g:Heap}
private theorem Zj:(toString "min"++toString ".loop":String)="min.loop":=by decide
def Mx (W:Walks prog w A.in1 I fp wr n P St) (hc:YB prog w A.in1 g P lt) (hw:∀b∈wr,g.get? b=none) (nS:S∉fp) (gS:g.get? S=none) :
  ∀(k j:Nat) (z:Shared) (u:Value) (c:Nat),n=j+1+k->St (j+1) z.heap->P (argBest lt j) u->Qr g z.heap ->
  z.heap.get? S=some { cls:=.type "list",dict:=none,data:=.seq #[u,u] c,slots:=#[] } ->
  (∀v h t,P (argBest lt (n-1)) v->Qr g h->R (.ok (.ret v)) { z with heap:=h,toks:=t })->codeAny (model prog w) A (.builtin "min.loop" ⟨[.ref I,.none,.ref S],[]⟩) R z:=by
 have nw:S∉wr:=fun q=>nS (W.sub _ q)
 have up:∀{h h':Heap},(∀b o,b∉wr->h.get? b=some o->h'.get? b=some o)->Qr g h->Qr g h':=fun a y b o e=>a b o (fun m=>by rw [hw b m] at e;cases e) (y b o e)
 have Tq:∀{h:Heap}{f:Obj->Obj},Qr g h->Qr g (h.update S f):=fun y b o e=>(Heap.get?_update_other _ _ (fun m=>by rw [m,e] at gS;cases gS)).trans (y b o e)
 intro k
 induction k with
 | zero =>
  intro j z u c ek a p y hS r;refine bN F.entry_min_loop ?_;rw [Around.under_plainId F.plain_min_loop _];show wpAny _ _ (seqItems? (.ref S) >>= _) _ _ z;refine aa (wpAny_seqItems hS rfl ?_);show wpAny _ _ (tryCatch (pyNext (.ref I)) _ >>= _) _ _ z;refine aa (wpAny_tryCatch (W.done z _ _ (by rw [ek];exact a) fun h t hk=>?_));show wpAny _ _ (updateSeq S (fun _=>#[]) >>= _) _ _ _;refine aa ?_;refine wpAny_updateSeq (hk S _ nw hS) rfl (aa (wpAny_letGo (ag ?_)));exact r u _ t (by rw [ek];exact p) (Tq (up hk y))
 | succ k ih =>
  intro j z u c ek a p y hS r;refine bN F.entry_min_loop ?_;rw [Around.under_plainId F.plain_min_loop _];show wpAny _ _ (seqItems? (.ref S) >>= _) _ _ z;refine aa (wpAny_seqItems hS rfl ?_);show wpAny _ _ (tryCatch (pyNext (.ref I)) _ >>= _) _ _ z;refine aa (wpAny_tryCatch (W.item (j+1) z _ _ (by omega) a fun v h t q a' hk=>?_));have hS':=hk S _ nw hS;have y':=up hk y;show wpAny _ _ (tryCatch (holding [v,v] (richCompare .Lt v u >>= _)) _ >>= _) _ _ _;refine aa (wpAny_tryCatch (bW (aa (hc (j+1) (argBest lt j) v u _ _ _ y' q p ?_))));refine aa (bW (wpAny_truthy_bool ?_));refine aa (wpAny_letGo (ag ?_));cases b:lt (j+1) (argBest lt j) with
  | true =>
   simp only [if_true];refine aa ?_;refine wpAny_updateSeq hS' rfl (aa (wpAny_letGo ?_));rw [Zj];refine ag ⟨de F.plain_min_loop _,ih (j+1) _ v _ (by omega) (W.frame _ _ _ a' fun x hx o e=>?_) (by simp only [argBest,b,if_true];exact q) (Tq y') (b7 _ hS' rfl) fun v1 h1 t1 q1 y1=>r v1 h1 t1 q1 y1⟩;exact (Heap.get?_update_other _ _ fun (m:S=x)=>nS (m▸hx)).trans e
  | false =>
   simp only [Bool.false_eq_true,if_false];refine aa (wpAny_letGo ?_);rw [Zj];exact ag ⟨de F.plain_min_loop _,ih (j+1) _ u c (by omega) a' (by simp only [argBest,b,Bool.false_eq_true,if_false];exact p) y' hS' fun v1 h1 t1 q1 y1=>r v1 h1 t1 q1 y1⟩
def O8 {E:Value->Shared->Prop}{s:Shared}{l:Addr}{its:Array Value}{Q:Value->Shared->Prop} (hh:A.handled=none) (hl:s.heap.IsList l its) (hn:0<its.size) (hc:YB prog w A.in1 s.heap (fun i v=>its[i]?=some v) lt)
  (h:∀v h' t,its[argBest lt (its.size-1)]?=some v->Qr s.heap h'->Q v { s with heap:=h',toks:=t }):wpAny (model prog w) A (call (.builtin "min") [.ref l]) Q E s:=by
 have ll : l<s.heap.objs.size:=by have ⟨_,e,_⟩:=hl;exact az e
 refine call_function_tree F.kind_min F.plain_min F.entry_min (F.args_min1 _) ?_;refine aa (m:=Builtin.Builtins.bindParams "min" ["key","default"] 0 ⟨[],[]⟩) (ag ?_);refine aa (ag ?_);refine aa (wpAny_pyIter_list hl ?_);have W:=Walks.list (prog:=prog) (w:=w) (A:=A.in1) hh s.heap.objs.size l (aP ll) its;refine aa (aZ ?_);rw [Zj];refine ag ⟨de F.plain_min_loop _,?_⟩;have fr:∀m,s.heap.objs.size<=m->s.heap.get? m=none:=fun m hm=>by
  cases e:s.heap.get? m with
  | none=>rfl
  | some o=>exact absurd (az e) (Nat.not_lt_of_le hm)
 generalize eo:({ cls:=.type "list_iterator",data:=.fields #[.ref l,.int 0 0] }:Obj)=ob;have sz:(s.heap.push ob).objs.size=s.heap.objs.size+1:=Heap.size_push ..;have nS:(s.heap.push ob).objs.size∉[s.heap.objs.size,l]:=by
  rw [sz];intro m;rcases aE.mp m with m | m
  ·exact absurd m (Nat.succ_ne_self _)
  ·rw [List.mem_singleton] at m;exact absurd ll (by rw [<-m];exact Nat.not_lt_of_le (cf _))
 have y0:Qr s.heap ((s.heap.push ob).push { cls:=.type "list",data:=.seq #[] }):=fun b o e=>ai _ (ai _ e)
 refine bN F.entry_min_loop ?_;rw [Around.under_plainId F.plain_min_loop _];have h0:((s.heap.push ob).push { cls:=.type "list",data:=.seq #[] }).get? (s.heap.push ob).objs.size=some { cls:=.type "list",data:=.seq #[] }:=aB _ rfl;show wpAny _ _ (seqItems? (.ref (s.heap.push ob).objs.size) >>= _) _ _ _;refine aa (wpAny_seqItems h0 rfl ?_);show wpAny _ _ (tryCatch (pyNext (.ref s.heap.objs.size)) _ >>= _) _ _ _;have hi:((s.heap.push ob).push { cls:=.type "list",data:=.seq #[] }).IsListIter s.heap.objs.size l 0:=⟨ob,ai _ (aB _ (by subst eo;rfl)),by subst eo;rfl,by subst eo;rfl⟩;refine aa (wpAny_tryCatch (W.item 0 _ _ _ hn ⟨hi,(hl.push _).push _⟩ fun v h' t q a hk=>?_));have ni:(s.heap.push ob).objs.size∉[s.heap.objs.size]:=by rw [sz];simp
 have y1:Qr s.heap h':=fun b o e=>hk b o (fun m=>by rw [List.mem_singleton] at m;rw [m,fr _ (Nat.le_refl _)] at e;cases e) (y0 b o e)
 show wpAny _ _ (updateSeq (s.heap.push ob).objs.size (fun _=>#[v,v]) >>= _) _ _ _;refine aa ?_;refine wpAny_updateSeq (hk _ _ ni h0) rfl ?_;rw [Zj];have gS:s.heap.get? (s.heap.push ob).objs.size=none:=fr _ (by rw [sz];omega);refine ag ⟨de F.plain_min_loop _,Mx (g:=s.heap) W hc (fun b hb=>by rw [List.mem_singleton] at hb;rw [hb];exact fr _ (ao _)) nS gS (its.size-1) 0 _ v _ (by omega) (W.frame _ _ _ a fun x hx o e=>?_) q
  (fun b o e=>?_) (b7 _ (hk _ _ ni h0) rfl) fun v1 h1 t1 q1 y1=>h v1 h1 t1 q1 y1⟩
 ·exact (Heap.get?_update_other _ _ fun (m:(s.heap.push ob).objs.size=x)=>nS (m▸hx)).trans e
 ·exact (Heap.get?_update_other _ _ (fun m=>by rw [m,e] at gS;cases gS)).trans (y1 b o e)
end
def Fe (i:Nat) (te:fV):dA:=fun E Z=>match Z[i]? with
 | some (.ow _)=>te Z fun d Z1=>match d,Z1[i]? with
  | .lst m,some (.ow l)=>l.length+m.length<=sizeLine/\E.nx (Z1.set i (.ow (l++m)))
  | _,_=>False
 | _=>False
noncomputable def lW (p:Int×Str):List Key:=[.inl p.1,.inr p.2]
def DJ:RC:=fun ds Q=>match ds with
 | [.lst l]=>∃ns:List (Int×Str),l=ns.map (fun p=>tD (lW p))/\ns≠[]/\∀p∈ns,(∀q∈ns,klt (lW q) (lW p)=false)->Q (tD (lW p))
 | _=>False
theorem Hq (f:Nat->Int×Str):∀k,argBest (fun i j=>klt (lW (f i)) (lW (f j))) k<=k/\∀j,j<=k->klt (lW (f j)) (lW (f (argBest (fun i j=>klt (lW (f i)) (lW (f j))) k)))=false
 | 0=>⟨ao _,fun j hj=>by rw [Nat.le_zero.mp hj];exact zR _⟩
 | k+1=>by
  obtain ⟨h1,h2⟩:=Hq f k;unfold argBest;cases b:klt (lW (f (k+1))) (lW (f (argBest (fun i j=>klt (lW (f i)) (lW (f j))) k))) with
  | true =>
   simp only [if_true];refine ⟨ao _,fun j hj=>?_⟩;rcases Nat.lt_or_eq_of_le hj with z | rfl
   ·have B:=EW _ _ b
    exact Jo _ (lW (f (argBest (fun i j=>klt (lW (f i)) (lW (f j))) k))) _ rfl rfl B (h2 j (Nat.le_of_lt_succ z))
   ·exact zR _
  | false =>
   simp only [Bool.false_eq_true,if_false];refine ⟨Nat.le_succ_of_le h1,fun j hj=>?_⟩;rcases Nat.lt_or_eq_of_le hj with z | rfl
   ·exact h2 j (Nat.le_of_lt_succ z)
   ·exact b
section
variable {X:Cx}{e:Expr}{es:List Expr}{t:qN}{te:fV}{p pos pos' bp np:Pos}
def Tr (K:Frag):List V->Hp->VK->Prop:=fun xs H Q=>∃(p:Addr) (vs:List V) (ns:List (Int×Str)),xs=[.ref p]/\kC K H p vs/\vs.length=ns.length/\ns≠[] /\
 (∀i v,vs[i]?=some v->∃a,v=.ref a/\rE K H a [.int (ns.getD i (0,"")).1,.str (ns.getD i (0,"")).2]) /\
 ∀i v,vs[i]?=some v->(∀j,j<vs.length->klt (lW (ns.getD j (0,""))) (lW (ns.getD i (0,"")))=false)->Q v H
def My (hc:X.calm=true) (hu:X.A.units+2<cLine):fU X (.builtin "min") (Tr X.K):=by
 rintro pins s U H xs us Q I r ⟨p,vs,ns,rfl,hq,lk,FY,ht,q⟩;obtain ⟨u,rfl,ru⟩:=r.one;cases ru;obtain ⟨its,rv,pl,hz⟩:=I.list hq;have el:=rv.length;have lp:0<ns.length:=List.length_pos_iff.mpr FY;have tup:∀i v,its[i]?=some v->∃a t1 t2,v=.ref a/\IsTup s.heap a #[.int (ns.getD i (0,"")).1 t1,.str (ns.getD i (0,"")).2 t2]:=fun i v hv=>by
  have hi : i<its.length:=by obtain ⟨h,_⟩:=aK.mp hv;exact h
  obtain ⟨a,ea,hs⟩:=ht i (vs[i]'(by omega)) (aI _);obtain ⟨u,hu,ru⟩:=rv.get (aI (show i<vs.length by omega));rw [ea] at ru;have ru:u=.ref a:=ru;subst ru;rw [hv] at hu;cases hu;obtain ⟨ts,rt,tp,_⟩:=I.tuple hs;cases rt with | cons r1 rt=>cases rt with | cons r2 rt =>
   cases rt;obtain ⟨t1,rfl⟩:=r1;obtain ⟨t2,rfl⟩:=r2;exact ⟨a,t1,t2,rfl,tp⟩
 refine O8 (lt:=fun i j=>klt (lW (ns.getD i (0,""))) (lW (ns.getD j (0,"")))) (I.ok.hd hc) pl.isList (by simp;omega) (fun i j u v z Q E y hi hj h=>?_) fun v h' tk hv hk=>?_
 ·obtain ⟨a,t1,t2,rfl,o,g1,g2⟩:=tup i u (by simpa using hi)
  obtain ⟨b,t3,t4,rfl,o',k1,k2⟩:=tup j v (by simpa using hj);exact R6 hu ⟨o,y _ _ g1,g2⟩ ⟨o',y _ _ k1,k2⟩ h
 ·obtain ⟨h1,h2⟩:=Hq (fun i=>ns.getD i (0,"")) (its.length-1)
  rw [List.size_toArray] at hv;generalize argBest _ (its.length-1)=m at h1 h2 hv;have hv:its[m]?=some v:=by simpa using hv
  have hm : m<vs.length:=by obtain ⟨h,_⟩:=aK.mp hv;omega
  obtain ⟨u,hu,ru⟩:=rv.get (aI hm);rw [hv] at hu;cases hu;exact ⟨_,H,I.kept (t':=tk) hk,ru,q m _ (aI hm) fun j hj=>h2 j (by omega)⟩
def R7 {K:Frag}:oS K (Tr K) DJ:=fun G H xs ds Q Q2 s hd h k=>by
 unfold DJ at h
 split at h
 ·obtain ⟨ns,rfl,FY,q⟩:=h
  obtain ⟨v,rfl,d1⟩:=wo hd;obtain ⟨a,vs,rfl,ha,la⟩:=d1.lst_inv;have ll:=la.length;rw [List.length_map] at ll;have at':∀i v,vs[i]?=some v->∃p,ns[i]?=some p/\Den K G v (tD (lW p)):=fun i v hv=>by
   obtain ⟨d,hd,hx⟩:=la.Cj hv;rw [List.getElem?_map] at hd;cases w:ns[i]? with
   | none=>rw [w] at hd;cases hd
   | some p=>rw [w] at hd;cases hd;exact ⟨p,w,hx⟩
  refine ⟨a,vs,ns,rfl,s.seq ha,ll,FY,fun i v hv=>?_,fun i v hv hm=>?_⟩
  ·obtain ⟨p,w,hx⟩:=at' i v hv
   obtain ⟨b,ws,rfl,hb,lb⟩:=Den.kQ hx;refine ⟨b,rfl,?_⟩;rw [List.getD_eq_getElem?_getD,w];rw [xN lb] at hb;exact aX.tupS s hb
  ·obtain ⟨p,w,hx⟩:=at' i v hv
   rw [List.getD_eq_getElem?_getD,w] at hm;refine k _ G H _ (Ext.refl s) hx (q p (bf w) fun y hy=>?_);obtain ⟨j,hj,rfl⟩:=List.getElem_of_mem hy;have:=hm j (by omega);rwa [List.getD_eq_getElem?_getD,List.getElem?_eq_getElem hj] at this
 ·exact h.elim
def K8 (hc:X.calm=true) (hu:X.A.units+64<cLine) (hm:X.mg "min"=none) (ha:DA X (e::es) t) (hg:Gl X "min":=by rfl) (he:starEach (e::es) X.env=(false,eval e X.env)::starEach es X.env:=by rfl) (lL:(backTo pos (starEach es X.env)).any (·.1)=false:=by rfl):DE X (.Call (.Name "min" p) (e::es) [] pos) (bg DJ t) :=
 mZ (My hc (by omega)) R7 hm (by rfl) ha hg (by decide) (by decide) he lL
def O9 (i:Nat) {x:Str} (hN:X.N.Nodup) (he:DE X e te) (hi:X.N[i]?=some x:=by rfl) (hx:Loc X.env.scope x:=by first | exact Or.inl rfl | exact Or.inr rfl) (hv:rX X.env.scope x:=by first | exact Or.inl rfl | exact Or.inr (Or.inl rfl) | exact Or.inr (Or.inr rfl))
  (hd:(x==("__debug__":Str))=false:=by decide) (gL:(x==("__classdict__":Str))=false:=by decide) (hs:swapsWith (.BinOp (.Name x np) .Add e bp) (some (.Name x pos')) pos.line X.env=pure false:=by rfl)
  (hf:X.fn x=true\/X.env.scope.names.lookup x=some .local:=by first | exact .inl rfl | exact .inr rfl | assumption):DS X (.Assign [.Name x pos'] (.BinOp (.Name x np) .Add e bp) pos) (Fe i te) :=
 eR (xt (i:=i) hN hi hx (SS Kw (fe hi hv hd gL) he) hs hf) fun F U H hx=>hx.el fun n Z G E R h k=>by
  unfold Fe at h
  split at h
  ·rename_i l0 e0
   obtain ⟨p,vs,g1,g2,g3,g4,g5⟩:=R.sl i _ e0;refine ⟨.ref p,g1,n,Z,G,_,R,h,fun w G1 H1 y Z1 R1 s1 d1 h1=>?_⟩
   split at h1
   ·rename_i m l e1
    obtain ⟨q,ws,k1,k2,k3,k4,k5⟩:=R1.sl i _ e1;rw [g1] at k1;cases k1;obtain ⟨b,zs,rfl,hb,lb⟩:=d1.lst_inv;exact ⟨p,b,ws,zs,rfl,rfl,kC.of k2,R1.sub.seq hb,by rw [k5.length,lb.length];exact h1.1,fun r hr=>k.nx _ _ G1 _ (R1.own i hr (k5.append lb)) h1.2⟩
   ·exact h1.elim
  ·exact h.elim
end
def Ff (i:Nat) (t:qN):dA:=fun E Z=>t Z fun ds Z1=>sq ds fun d=>match d with
 | .lst l=>E.nx (Z1.set i (.ow l))
 | _=>False
def Hr (i:Nat) (t:dA):dA:=fun E Z=>match Z[i]? with
 | some (.ow l)=>t E (Z.set i (.sh (.lst l)))
 | some (.sh _)=>t E Z
 | _=>False
section
variable {X:Cx}{e:Expr}{es:List Expr}{t:qN}{ts:dA}{p pos pos' Be:Pos}
def Mz (i:Nat) {x:Str} (hN:X.N.Nodup) (hm:X.mg "sorted"=none) (ha:DA X (e::es) t) (hi:X.N[i]?=some x:=by rfl) (hx:Loc X.env.scope x:=by first | exact Or.inl rfl | exact Or.inr rfl)
  (hs:swapsWith (.Call (.Name "sorted" p) (e::es) [] pos) (some (.Name x pos')) Be.line X.env=pure false:=by rfl)
  (hf:X.fn x=true\/X.env.scope.names.lookup x=some .local:=by first | exact .inl rfl | exact .inr rfl | assumption)
  (hg:Gl X "sorted":=by rfl) (he:starEach (e::es) X.env=(false,eval e X.env)::starEach es X.env:=by rfl) (lL:(backTo pos (starEach es X.env)).any (·.1)=false:=by rfl) :
  DS X (.Assign [.Name x pos'] (.Call (.Name "sorted" p) (e::es) [] pos) Be) (Ff i t) :=
 eR (xt (i:=i) hN hi hx (oP (fU.or (fU.or Ba Bb) AQ) hg hm (by rfl) ha (by decide) (by decide) he lL) hs hf) fun F U H hx=>hx.el fun n Z G E R h k=>⟨n,Z,G,_,R,h,fun vs G1 H1 ds Z1 R1 s1 d1 h1 =>
  GX G1 H1 vs ds _ _ R1.sub d1 h1 fun r ws l hr dl q=>k.nx _ _ G1 _ (R1.own i hr dl) q⟩
def La (i:Nat) {st:Stmt} (h1:DS X st ts):DS X st (Hr i ts) :=
 eR h1 fun F U H hx=>hx.el fun n Z G E R h k=>by
  unfold Hr at h
  split at h
  ·rename_i l e
   obtain ⟨G',R',_⟩:=R.freeze e;exact ⟨n,_,G',E,R',h,k⟩
  ·exact ⟨n,Z,G,E,R,h,k⟩
  ·exact h.elim
end
end Dl
local macro_rules | `(tactic| simp! only [$as,*] $[$loc]?) => `(tactic| simp only [$as,*, Dl.uk, Dl.E1, Dl.wC, Dl.Ff, Dl.Hr, Dl.Ol, Dl.KI, Dl.KJ, Dl.KL, Dl.Om, Dl.A4, Dl.L7, Dl.Oq, Dl.zk, Dl.uj, Dl.WO, Dl.nH, Dl.RH, Dl.zl, Dl.He, Dl.K3, Dl.yF, Dl.K4, Dl.Vj, Dl.Zf, Dl.Vk, Dl.jD, Dl.fb, Dl.AS, Dl.Ob, Dl.fc, Dl.dk, Dl.aAt', Dl.aAt, Dl.held, Dl.kB, Dl.Rj, Dl.dX, Dl.rG, Dl.xC, Dl.uD, Dl.yz, Dl.KG, Dl.putAt, Dl.GG, Dl.Cw, Dl.Y8, Dl.dt, Dl.EK, Dl.slA, Dl.dO, Dl.UP, List.tail_cons, List.head?_cons, eq_self, decide_true, Bool.and_self, and_self, Dl.aS, Dl.cF, Dl.dN, Dl.dB, Dl.aY, Dl.au, Dl.dC, Dl.uC, Dl.nG, Dl.bq, Dl.av, Dl.cO, Dl.bg, Dl.QW, Dl.Cp, Dl.IQ, Dl.Ew, Dl.qP, Dl.dH, Dl.LM, Dl.LO, Dl.LP, Dl.wb, Dl.WJ, Dl.IK, Dl.Kr, Dl.Qo, Dl.lP, Dl.UB, Dl.Kv, Dl.wm, Dl.mS, Dl.LS, Dl.dZ, Dl.zi, Dl.AH, Dl.qQ, Dl.QV, Dl.Dg, Dl.uc, Dl.XF, Dl.Gv, Dl.EF, Dl.pS, Dl.Rc, Dl.LY, Dl.GC, Dl.KA, Dl.EJ, Dl.Rf, Dl.EH, Dl.Ct, Dl.oj, Dl.m4, Dl.we, Dl.gc, Dl.dq, List.map_cons, List.map_nil, List.length_cons, List.length_nil, List.cons_append, List.nil_append, List.replicate_zero, List.replicate_succ, Nat.reduceAdd, Nat.reduceSub, List.getElem?_cons_zero, List.getElem?_cons_succ, List.set_cons_zero, List.set_cons_succ, Bool.not_true, Bool.not_false, if_true, if_false, ite_true, ite_false, reduceCtorEq, Bool.false_eq_true, Dl.rF, Dl.zj, Dl.se, Dl.ue, Dl.jm, Dl.nJ, Option.some.injEq, Dl.LW, Dl.yv, Dl.yw, Dl.Gy, Dl.Gz, Dl.EA, Dl.Cq, Dl.Cr, Dl.AK, Dl.eS, Dl.eT, Dl.IW, Dl.NY, Dl.GA, Dl.Q0, Dl.Q3, Dl.NZ, Dl.N0, Dl.sj, Dl.Q4, Dl.N1, Dl.Q5, Dl.Q6, exists_eq_left', Dl.XI, Dl.XJ, Dl.XM, Dl.XN, false_and, exists_false, decide_eq_true_eq, Bool.not_eq_true, true_and, and_true, Bool.true_and, Bool.false_and, Bool.and_true, Bool.and_false, Dl.IU, Dl.Ex, beq_iff_eq, beq_self_eq_true, beq_eq_false_iff_ne, Bool.not_eq_true', ne_eq, ite_not, decide_eq_false_iff_not, Dl.sz0, Dl.XG, Dl.XH, Dl.sz3, Dl.sz4, Dl.O6, Dl.vA, Dl.E5, Dl.E6, Dl.E7, Dl.Bi, Dl.pDc, Dl.Fe, Dl.DJ] $[$loc]?)
theorem zX.DK (l:List PySem.Str) (h:l.Nodup:=by decide +kernel) : l.Nodup:=h
namespace zX
open PySem L2 Dl
theorem Bs:∀ns:List Int,D.Ks (ns.map D.int)=true
 | []=>rfl
 | _::r=>Bs r
def Sa {α:Type}{xs:List α}{i:Int} (f:α->D) (h0:0<=i) (h1:i<xs.length):vU (xs.map f) i=some (f (xs[i.toNat]'(by omega))):=by
 have e:i=((i.toNat:Nat):Int):=by omega
 have q:vU (xs.map f) ((i.toNat:Nat):Int)=some (f (xs[i.toNat]'(by omega))):=pK (by rw [List.getElem?_map,List.getElem?_eq_getElem (by omega)];rfl);rw [<-e] at q;exact q
noncomputable def cell (ns:List Int) (k:Int):Int:=if ns=[] then 7 * k else ns.getD (k % ns.length).toNat 0+6553 * (k / ns.length)
noncomputable def drawn (ns:List Int) (k m:Int):Int :=
 (((cell ns k % 2147483563 * 69069+104723 * (k+1)) % 2147483563 * ((cell ns k % 2147483563 * 69069+104723 * (k+1)) % 2147483563)+(cell ns k % 2147483563 * 69069+104723 * (k+1)) % 2147483563 / 3) % 2147483399 *
  (((cell ns k % 2147483563 * 69069+104723 * (k+1)) % 2147483563 * ((cell ns k % 2147483563 * 69069+104723 * (k+1)) % 2147483563)+(cell ns k % 2147483563 * 69069+104723 * (k+1)) % 2147483563 / 3) % 2147483399) +
  ((cell ns k % 2147483563 * 69069+104723 * (k+1)) % 2147483563 * ((cell ns k % 2147483563 * 69069+104723 * (k+1)) % 2147483563)+(cell ns k % 2147483563 * 69069+104723 * (k+1)) % 2147483563 / 3) % 2147483399 / 7) % 2147483647 / 11 % m
def lh {ns:List Int}{k m:Int} (hm:0<m):0<=drawn ns k m:=Int.emod_nonneg _ (by omega)
def lj {ns:List Int}{k m:Int} (hm:0<m):drawn ns k m<m:=Int.emod_lt_of_pos _ hm
noncomputable abbrev Bt (ns:List Int):D:=.lst (ns.map D.int)
def pZ:xA:=fun ds Q=>∃(ns:List Int) (k:Int),ds=[Bt ns,.int k]/\ns.length<=63/\0<=k/\Q (.int (cell ns k))
def JF:∀ds Q,pZ ds Q->ds.length=2:=by rintro ds Q ⟨ns,k,rfl,_⟩;rfl
def cz:xA:=fun ds Q=>∃(ns:List Int) (k m:Int),ds=[Bt ns,.int k,.int m]/\ns.length<=63/\0<=k/\0<m/\Q (.int (drawn ns k m))
def Ht:∀ds Q,cz ds Q->ds.length=3:=by rintro ds Q ⟨ns,k,m,rfl,_⟩;rfl
def p0:dA:=aS (dN (dB (aY dZ ((au 0)) ((uC (bq))))) (cO ((aY (mS mW fun i j=>.int (i * j)) (dC (.int 7)) ((au 1))))) (cF)) (cO ((aY (rF eA) ((aY (rF gE) ((au 0)) ((aY (mS (fun _ j=>0<j) fun i j=>.int (i % j)) ((au 1)) ((bg se ((av ((au 0)) (bq))))))))) ((aY (mS mW fun i j=>.int (i * j)) (dC (.int 6553)) ((aY (mS v7 fun i j=>.int (i / j)) ((au 1)) ((bg se ((av ((au 0)) (bq))))))))))))
def JG:∀ds Q,pZ ds Q->p0 { nx:=fun _=>Q .bX,rt:=fun d _=>Q d } (dq ["_law_script","_law_k"] ds):=by
 rintro ds Q ⟨ns,k,rfl,hl,hk,q⟩;have he:Co (Bt ns) (.lst []):=⟨Bs ns,rfl,by show min _ 1<=60;omega⟩;cases ns with
 | nil =>
  simp only [cell,if_true] at q;simp! only [p0];exact ⟨he,.inl (by decide),q⟩
 | cons n r =>
  have hp:(0:Int)<((n::r).length:Int):=by simp only [List.length_cons];omega
  have h0:0<=k % ((n::r).length:Int):=Int.emod_nonneg _ (by omega);have h1:k % ((n::r).length:Int)<((n::r).length:Int):=Int.emod_lt_of_pos _ hp;have e:vU ((n::r).map D.int) (k % (((n::r).map D.int).length:Int))=some (.int ((n::r).getD (k % ((n::r).length:Int)).toNat 0)):=by
   rw [List.length_map,Sa D.int h0 h1];rw [List.getD_eq_getElem?_getD,List.getElem?_eq_getElem (by omega)]
   rfl
  simp only [cell,if_neg (List.cons_ne_nil n r)] at q;have hs:((n::r).length:Int)<=63:=by omega
  simp! only [p0,List.length_map] at e q hs hp ⊢;exact ⟨he,hp,_,e,⟨hp,by omega⟩,.inl ⟨by decide,by decide⟩,_,rfl,q⟩
def sx:dA:=aS (dH 3 ((aY (mS (fun _ j=>0<j) fun i j=>.int (i % j)) ((aY (rF eA) ((aY (mS mW fun i j=>.int (i * j)) ((aY (mS (fun _ j=>0<j) fun i j=>.int (i % j)) ((bg pZ ((av ((au 0)) ((av ((au 1)) (bq))))))) (dC (.int 2147483563)))) (dC (.int 69069)))) ((aY (mS mW fun i j=>.int (i * j)) (dC (.int 104723)) ((aY (rF eA) ((au 1)) (dC (.int 1)))))))) (dC (.int 2147483563))))) (aS (dH 3 ((aY (mS (fun _ j=>0<j) fun i j=>.int (i % j)) ((aY (rF eA) ((aY (mS mW fun i j=>.int (i * j)) ((au 3)) ((au 3)))) ((aY (mS v7 fun i j=>.int (i / j)) ((au 3)) (dC (.int 3)))))) (dC (.int 2147483399))))) (cO ((aY (mS (fun _ j=>0<j) fun i j=>.int (i % j)) ((aY (mS v7 fun i j=>.int (i / j)) ((aY (mS (fun _ j=>0<j) fun i j=>.int (i % j)) ((aY (rF eA) ((aY (mS mW fun i j=>.int (i * j)) ((au 3)) ((au 3)))) ((aY (mS v7 fun i j=>.int (i / j)) ((au 3)) (dC (.int 7)))))) (dC (.int 2147483647)))) (dC (.int 11)))) ((au 2))))))
def JH {i m:Int} (h0:0<m) (h1:m<2 ^ 64):-(2 ^ 64)<i % m/\i % m<2 ^ 64:=by
 have a:=Int.emod_nonneg i (show m≠0 by omega);have b:=Int.emod_lt_of_pos i h0;omega
def Hu:∀ds Q,cz ds Q->sx { nx:=fun _=>Q .bX,rt:=fun d _=>Q d } (dq ["_law_script","_law_k","_law_many","_law_cell_here"] ds):=by
 rintro ds Q ⟨ns,k,m,rfl,hl,hk,hm,q⟩;simp! only [sx];refine ⟨ns,k,rfl,hl,hk,by decide,.inl (JH (by decide) (by decide)),.inl ⟨by decide,by decide⟩,by decide,.inl (JH (by decide) (by decide)),⟨by decide,by decide⟩,by decide,
  .inl (JH (by decide) (by decide)),⟨by decide,by decide⟩,by decide,⟨by decide,by decide⟩,hm,?_⟩
 exact q
def DL:xA:=fun ds Q=>∃ns:List Int,ds=[Bt ns]/\ns.length<=63/\Q (.bl true)
def YC:∀ds Q,DL ds Q->ds.length=1:=by rintro ds Q ⟨_,rfl,_⟩;rfl
def JI {lo:Int}{n i:Nat}{d:D} (h:(fC lo n)[i]?=some d):d=.int (lo+i)/\i<n:=by
 unfold fC at h;rw [List.getElem?_map] at h;cases q:(List.range n)[i]? with
 | none=>rw [q] at h;cases h
 | some j =>
  rw [q] at h;have hj:=aK.mp q;have ⟨h1,h2⟩:=hj;rw [List.length_range] at h1;rw [List.getElem_range] at h2;subst h2;exact ⟨(bt h).symm,h1⟩
noncomputable def oi:Option Int->D
 | none=>.bX
 | some s=>.int s
theorem cD:oi none=.bX:=rfl
theorem cE {s:Int}:oi (some s)=.int s:=rfl
end zX
namespace Rg
inductive Ck where
 | tm (size left:Int) (o:Option Int)
 | ev (b f:Int) (m:Option Int)
 | al (mi:Int) (days sdy:List Int)
noncomputable def iH (l:List Int):Prop:=l.Pairwise (·<·)
noncomputable def below (m:Option Int) (i:Int):Prop:=∀k,m=some k->i<k
noncomputable def rg:Ck->Int->Prop
 | .tm _ left o,t=>∃s,o=some s/\t=s+left
 | .ev b f m,t=>∃i,0<=i/\t=b+i * f/\below m i
 | .al mi days sdy,t=>0<=t/\t % 1440=mi/\t / 1440 % 7∈days/\t∉sdy
noncomputable def Ok:Ck->Prop
 | .tm size left o=>0<=left/\left<=100000000/\∀s,o=some s->0<=s/\s<=100000000
 | .ev b f m=>0<=b/\b<=100000000/\1<=f/\f<=100000000/\∀k,m=some k->0<=k/\k<=100000000
 | .al mi days sdy=>0<=mi/\mi<1440/\iH days/\(∀d∈days,0<=d/\d<7)/\iH sdy/\sdy.length<=1000/\∀t∈sdy,0<=t/\t<=100000000
def YD {c:Ck} (h:Ok c) {t:Int} (r:rg c t):0<=t:=by
 cases c with
 | tm size left o=>obtain ⟨s,e,rfl⟩:=r;have:=h.2.2 s e;have:=h.1;omega
 | ev b f m=>obtain ⟨i,hi,rfl,_⟩:=r;have:=Int.mul_nonneg hi (show (0 : Int)<=f by have:=h.2.2.1;omega);have:=h.1;omega
 | al mi days sdy=>exact r.1
structure cI (c:Ck) (a e:Int) (l:List Int):Prop where
 rise:iH l
 mem:∀t,t∈l<->a<t/\t<=e/\rg c t
structure fh (c:Ck) (now:Int) (r:Option Int):Prop where
 none:r=.none->∀t,now<t->¬rg c t
 some:∀t,r=.some t->now<t/\rg c t/\∀t',now<t'->t'<t->¬rg c t'
noncomputable def OA (c:Ck) (t n:Int):Prop:=∀l,cI c (-1) t l->n=l.length
theorem wI:∀{l m:List Int},iH l->iH m->(∀t,t∈l<->t∈m)->l=m
 | [],[],_,_,_=>rfl
 | [],y::m,_,_,h=>absurd ((h y).mpr aj) (by simp)
 | x::l,[],_,_,h=>absurd ((h x).mp aj) (by simp)
 | x::l,y::m,hl,hm,h=>by
  have hl':=aW.mp hl;have hm':=aW.mp hm;have e:x=y:=by
   rcases aE.mp ((h x).mp aj) with z | z
   ·exact z
   ·rcases aE.mp ((h y).mpr aj) with w | w
    ·exact w.symm
    ·have:=hl'.1 y w;have:=hm'.1 x z;omega
  subst e
  congr 1
  refine wI hl'.2 hm'.2 fun t=>⟨fun z=>?_,fun z=>?_⟩
  ·rcases aE.mp ((h t).mp (aw _ z)) with w | w
   ·have:=hl'.1 t z;omega
   ·exact w
  ·rcases aE.mp ((h t).mpr (aw _ z)) with w | w
   ·have:=hm'.1 t z;omega
   ·exact w
def cI.unique {c:Ck}{a e:Int}{l m:List Int} (h:cI c a e l) (k:cI c a e m):l=m:=wI h.rise k.rise fun t=>by rw [h.mem,k.mem]
def cI.append {c:Ck}{a b e:Int}{l m:List Int} (h:cI c a b l) (k:cI c b e m) (h1:a<=b) (h2:b<=e):cI c a e (l++m):=by
 refine ⟨List.pairwise_append.mpr ⟨h.rise,k.rise,fun x hx y hy=>?_⟩,fun t=>?_⟩
 ·have:=(h.mem x).mp hx;have:=(k.mem y).mp hy;omega
 ·rw [List.mem_append,h.mem,k.mem]
  constructor
  ·rintro (⟨x,y,z⟩ | ⟨x,y,z⟩)
   ·exact ⟨x,by omega,z⟩
   ·exact ⟨by omega,y,z⟩
  ·rintro ⟨x,y,z⟩
   by_cases q:t<=b
   ·exact .inl ⟨x,q,z⟩
   ·exact .inr ⟨by omega,y,z⟩
def cI.none {c:Ck}{a e:Int} (h:e<=a):cI c a e []:=⟨.nil,fun t=>⟨fun z=>absurd z (by simp),fun z=>by omega⟩⟩
def fh.rings {c:Ck}{a e t:Int}{l:List Int} (h:fh c a (.some t)) (hl:cI c t e l) (ht:t<=e):cI c a e (t::l):=by
 obtain ⟨h1,h2,h3⟩:=h.some t rfl;refine ⟨aW.mpr ⟨fun y hy=>((hl.mem y).mp hy).1,hl.rise⟩,fun y=>?_⟩;rw [List.mem_cons,hl.mem]
 constructor
 ·rintro (rfl | ⟨x,y,z⟩)
  ·exact ⟨h1,ht,h2⟩
  ·exact ⟨by omega,y,z⟩
 ·rintro ⟨x,y',z⟩
  rcases Int.lt_trichotomy y t with q | q | q
  ·exact absurd z (h3 y x q)
  ·exact .inl q
  ·exact .inr ⟨q,y',z⟩
def fh.nothing {c:Ck}{a e:Int}{r:Option Int} (h:fh c a r) (hr:∀t,r=.some t->e<t):cI c a e []:=by
 refine ⟨.nil,fun t=>⟨fun z=>absurd z (by simp),fun ⟨x,y,z⟩=>?_⟩⟩;cases r with
 | none=>exact absurd z (h.none rfl t x)
 | some u=>have:=hr u rfl;exact absurd z ((h.some u rfl).2.2 t x (by omega))
def fh.unique {c:Ck}{a:Int}{r q:Option Int} (h:fh c a r) (k:fh c a q):r=q:=by
 cases r with
 | none=>cases q with
  | none=>rfl
  | some u=>have:=k.some u rfl;exact absurd this.2.1 (h.none rfl u this.1)
 | some t=>cases q with
  | none=>have:=h.some t rfl;exact absurd this.2.1 (k.none rfl t this.1)
  | some u =>
   have h1:=h.some t rfl;have h2:=k.some u rfl;have:t=u:=by
    rcases Int.lt_trichotomy t u with z | z | z
    ·exact absurd h1.2.1 (h2.2.2 t h1.1 z)
    ·exact z
    ·exact absurd h2.2.1 (h1.2.2 u h2.1 z)
   rw [this]
def eL {l:List Int} (h:iH l) (p:Int->Bool):iH (l.filter p):=h.sublist dh
def Sb {size left:Int}{o:Option Int}{now:Int}:fh (.tm size left o) now (match o with | .none=>.none | .some s=>if s+left<=now then .none else .some (s+left)):=by
 cases o with
 | none=>exact ⟨fun _ t _ ⟨s,e,_⟩=>(nomatch e),fun t e=>(nomatch e)⟩
 | some s =>
  by_cases h:s+left<=now
  ·simp only [if_pos h]
   exact ⟨fun _ t ht ⟨s',e,z⟩=>by cases e;omega,fun t e=>nomatch e⟩
  ·simp only [if_neg h]
   exact ⟨fun e=>(nomatch e),fun t e=>by cases e;exact ⟨by omega,⟨s,rfl,rfl⟩,fun t' h1 h2 ⟨s',e,z⟩=>by cases e;omega⟩⟩
def Pa {size left:Int}{o:Option Int}{t:Int} (h:Ok (.tm size left o)):OA (.tm size left o) t (match o with | .none=>0 | .some s=>if s+left<=t then 1 else 0):=by
 intro l hl;cases o with
 | none =>
  have:l=[]:=hl.unique ⟨.nil,fun t=>⟨fun z=>absurd z (by simp),fun ⟨_,_,s,e,_⟩=>nomatch e⟩⟩;subst this;rfl
 | some s =>
  have h0:=h.2.2 s rfl;have h1:=h.1
  by_cases q:s+left<=t
  ·have:l=[s+left]:=hl.unique ⟨List.pairwise_singleton ..,fun u=>⟨fun z=>by rw [List.mem_singleton] at z;subst z;exact ⟨by omega,q,s,rfl,rfl⟩,fun ⟨_,_,s',e,z⟩=>by cases e;rw [z];exact bB.mpr rfl⟩⟩
   subst this;simp only [if_pos q];rfl
  ·have:l=[]:=hl.unique ⟨.nil,fun u=>⟨fun z=>absurd z (by simp),fun ⟨_,y,s',e,z⟩=>by cases e;omega⟩⟩
   subst this;simp only [if_neg q];rfl
noncomputable def cw (b f:Int) (m:Option Int) (t:Int):Int:=match m with
 | .none=>max 0 ((t-b) / f+1)
 | .some k=>min (max 0 ((t-b) / f+1)) k
def Vy {t b f i:Int} (hf:0<f):b+i * f<=t<->i<=(t-b) / f:=by
 rw [Int.le_ediv_iff_mul_le hf];omega
def fA {b f:Int}{m:Option Int}{t i:Int} (hf:0<f) (hi:0<=i):i<cw b f m t<->b+i * f<=t/\below m i:=by
 rw [Vy hf];unfold cw below;cases m with
 | none=>simp;omega
 | some k=>simp;omega
def o7 {b f:Int}{m:Option Int}{t:Int} (hm:∀k,m=some k->0<=k):0<=cw b f m t:=by
 unfold cw;cases m with
 | none=>simp;omega
 | some k=>have:=hm k rfl;simp;omega
noncomputable def listE (b f:Int) (i:Int) (n:Nat):List Int:=(List.range n).map fun j=>b+(i+(j:Nat)) * f
def Bu {b f i:Int}{n:Nat} (hf:0<f):iH (listE b f i n):=by
 unfold listE iH;rw [List.pairwise_map];refine bO.imp fun {x y} h=>?_
 have:(i+(x:Nat)) * f<(i+(y:Nat)) * f:=Int.mul_lt_mul_of_pos_right (by omega) hf;omega
def xU {b f i:Int}{n:Nat}{t:Int}:t∈listE b f i n<->∃j,i<=j/\j<i+n/\t=b+j * f:=by
 unfold listE;rw [List.mem_map]
 constructor
 ·rintro ⟨j,hj,rfl⟩
  rw [List.mem_range] at hj;exact ⟨i+(j:Nat),by omega,by omega,rfl⟩
 ·rintro ⟨j,h1,h2,rfl⟩
  exact ⟨(j-i).toNat,by rw [List.mem_range];omega,by rw [show i+((j-i).toNat:Int)=j by omega]⟩
def Hv {b f:Int}{m:Option Int}{a e:Int} (h:Ok (.ev b f m)):cI (.ev b f m) a e (listE b f (cw b f m a) (cw b f m e-cw b f m a).toNat):=by
 have ⟨h1,h2,h3,h4,h5⟩:=h;have hf:0<f:=by omega
 have na:=o7 (b:=b) (f:=f) (t:=a) fun k e=>(h5 k e).1
 refine ⟨Bu hf,fun t=>?_⟩;rw [xU]
 constructor
 ·rintro ⟨j,j1,j2,rfl⟩
  have k1:=fA (b:=b) (m:=m) (t:=e) hf (show 0<=j by omega);have k2:=fA (b:=b) (m:=m) (t:=a) hf (show 0<=j by omega);have k3:=k1.mp (by omega);refine ⟨?_,k3.1,j,by omega,rfl,k3.2⟩
  by_cases q:b+j * f<=a
  ·have:=k2.mpr ⟨q,k3.2⟩;omega
  ·omega
 ·rintro ⟨t1,t2,j,hj,rfl,hb⟩
  have k1:=(fA (b:=b) (m:=m) (t:=e) hf hj).mpr ⟨t2,hb⟩;have k2:¬j<cw b f m a:=fun z=>by have:=(fA (b:=b) (m:=m) (t:=a) hf hj).mp z;omega
  exact ⟨j,by omega,by omega,rfl⟩
def Pb {b f:Int}{m:Option Int}{t:Int} (h:Ok (.ev b f m)):OA (.ev b f m) t (cw b f m t):=by
 intro l hl;have e:=hl.unique (Hv h);have h0:cw b f m (-1)=0:=by
  have nn:=o7 (b:=b) (f:=f) (t:=-1) fun k e=>(h.2.2.2.2 k e).1
  by_cases q:0<cw b f m (-1)
  ·have:=(fA (b:=b) (m:=m) (t:=-1) (show 0<f by have:=h.2.2.1;omega) (Int.le_refl 0)).mp q
   have:=h.1;omega
  ·omega
 have nn:=o7 (b:=b) (f:=f) (t:=t) fun k e=>(h.2.2.2.2 k e).1
 rw [e,h0];simp only [listE,List.length_map,List.length_range];omega
def Lb {b f:Int}{m:Option Int}{now:Int} (h:Ok (.ev b f m)) :
  fh (.ev b f m) now (if m=.some (cw b f m now) then .none else .some (b+cw b f m now * f)):=by
 have ⟨h1,h2,h3,h4,h5⟩:=h;have hf:0<f:=by omega
 have nn:=o7 (b:=b) (f:=f) (t:=now) fun k e=>(h5 k e).1
 have all:∀j,0<=j->below m j->now<b+j * f->cw b f m now<=j:=fun j j0 jb jn=>by
  by_cases q:j<cw b f m now
  ·have:=(fA (b:=b) (m:=m) (t:=now) hf j0).mp q;omega
  ·omega
 by_cases q:m=.some (cw b f m now)
 ·rw [if_pos q]
  refine ⟨fun _ t ht ⟨j,j0,e,jb⟩=>?_,fun t e=>nomatch e⟩;have:=all j j0 jb (by omega);have:=jb _ q;omega
 ·rw [if_neg q]
  have bl:below m (cw b f m now):=fun k e=>by
   have:cw b f m now<=k:=by subst e;unfold cw;simp;omega
   have:cw b f m now≠k:=fun z=>q (e.trans (by rw [z]))
   omega
  refine ⟨fun e=>(nomatch e),fun t e=>?_⟩;cases e;refine ⟨?_,⟨_,nn,rfl,bl⟩,fun t' t1 t2 ⟨j,j0,e,jb⟩=>?_⟩
  ·by_cases z:b+cw b f m now * f<=now
   ·have:=(fA (b:=b) (m:=m) (t:=now) hf nn).mpr ⟨z,bl⟩;omega
   ·omega
  ·have h1:=all j j0 jb (by omega)
   have:cw b f m now * f<=j * f:=Int.mul_le_mul_of_nonneg_right h1 (by omega);omega
noncomputable def dg (mi t:Int):Int:=max 0 ((t-mi) / 1440+1)
def sy {mi t d:Int} (hd:0<=d):d * 1440+mi<=t<->d<dg mi t:=by unfold dg;omega
def sA {mi:Int}{days sdy:List Int}{t:Int} (h0:0<=mi) (h1:mi<1440):rg (.al mi days sdy) t<->∃d,0<=d/\t=d * 1440+mi/\d % 7∈days/\t∉sdy:=by
 constructor
 ·rintro ⟨a,b,c,e⟩
  exact ⟨t / 1440,by omega,by omega,c,e⟩
 ·rintro ⟨d,d0,rfl,dm,ds⟩
  exact ⟨by omega,by omega,by rw [show (d * 1440+mi) / 1440=d by omega];exact dm,ds⟩
noncomputable def week (days:List Int) (g:Int):List Int:=((List.range 7).map fun i=>g+(i:Nat)).filter fun d=>decide (d % 7∈days)
def wJ {days:List Int}{g d:Int}:d∈week days g<->g<=d/\d<g+7/\d % 7∈days:=by
 unfold week;rw [List.mem_filter,List.mem_map,decide_eq_true_eq]
 constructor
 ·rintro ⟨⟨i,hi,rfl⟩,h⟩
  rw [List.mem_range] at hi;exact ⟨by omega,by omega,h⟩
 ·rintro ⟨a,b,c⟩
  exact ⟨⟨(d-g).toNat,by rw [List.mem_range];omega,by omega⟩,c⟩
def MA {days:List Int}{g:Int}:iH (week days g):=by
 refine eL ?_ _;unfold iH;rw [List.pairwise_map];exact bO.imp fun {x y} h=>by omega
def MB {x:Int}{l:List Int} (h:iH (x::l)) {y:Int} (hy:y∈x::l):x<=y:=by
 rcases aE.mp hy with rfl | hy
 ·exact Int.le_refl _
 ·have:=(aW.mp h).1 y hy;omega
def Pc {mi:Int}{days:List Int}{now:Int} (h0:0<=mi) (h1:mi<1440) (hd:∀d∈days,0<=d/\d<7) :
  fh (.al mi days []) now ((week days (dg mi now)).head?.map fun d=>d * 1440+mi):=by
 have g0:0<=dg mi now:=by unfold dg;omega
 cases q:week days (dg mi now) with
 | nil =>
  refine ⟨fun _ t ht r=>?_,fun t e=>(nomatch e)⟩;obtain ⟨d,d0,rfl,dm,_⟩:=(sA h0 h1).mp r;have hg:¬d<dg mi now:=fun z=>by have:=(sy d0).mpr z;omega
  have:(dg mi now+(d-dg mi now) % 7)∈week days (dg mi now):=wJ.mpr ⟨by omega,by omega,by rw [show (dg mi now+(d-dg mi now) % 7) % 7=d % 7 by omega];exact dm⟩;rw [q] at this;simp at this
 | cons x l =>
  refine ⟨fun e=>(nomatch e),fun t e=>?_⟩;have et:t=x * 1440+mi:=(bt e).symm;subst et;have hx:x∈week days (dg mi now):=by rw [q];exact aj
  obtain ⟨x1,x2,x3⟩:=wJ.mp hx;refine ⟨?_,(sA h0 h1).mpr ⟨x,by omega,rfl,x3,by simp⟩,fun t' t1 t2 r=>?_⟩
  ·by_cases z:x * 1440+mi<=now
   ·have:=(sy (show 0<=x by omega)).mp z;omega
   ·omega
  ·obtain ⟨d,d0,rfl,dm,_⟩:=(sA h0 h1).mp r
   have hg:¬d<dg mi now:=fun z=>by have:=(sy d0).mpr z;omega
   have hm:d∈week days (dg mi now):=wJ.mpr ⟨by omega,by omega,dm⟩;have hr:=MA (days:=days) (g:=dg mi now);rw [q] at hm hr;have:=MB hr hm;omega
def Sd {mi:Int}{days sdy:List Int} (h:Ok (.al mi days sdy)) (hn:days≠[]) (now:Int):∃t,now<t/\rg (.al mi days sdy) t:=by
 have ⟨h0,h1,h2,h3,h4,h5,h6⟩:=h;obtain ⟨x,hx⟩:=List.exists_mem_of_ne_nil days hn;obtain ⟨x0,x1⟩:=h3 x hx;refine ⟨(7 * (max 0 now+100000001)+x) * 1440+mi,by omega,(sA h0 h1).mpr ⟨7 * (max 0 now+100000001)+x,by omega,rfl,?_,fun z=>?_⟩⟩
 ·rw [show (7 * (max 0 now+100000001)+x) % 7=x by omega];exact hx
 ·have:=h6 _ z;omega
structure wK (mi:Int) (days sdy:List Int) (now:Int) (r:Option Int):Prop where
 no:∀t,now<t->(∀u,r=.some u->t<u)->¬rg (.al mi days sdy) t
 set:∀u,r=.some u->now<u/\rg (.al mi days []) u
def vC {mi:Int}{days sdy:List Int}{t:Int}:rg (.al mi days sdy) t<->rg (.al mi days []) t/\t∉sdy:=by
 constructor
 ·rintro ⟨a,b,c,d⟩;exact ⟨⟨a,b,c,by simp⟩,d⟩
 ·rintro ⟨⟨a,b,c,_⟩,d⟩;exact ⟨a,b,c,d⟩
theorem wK.start {mi:Int}{days sdy:List Int}{now:Int}{r:Option Int} (h:fh (.al mi days []) now r):wK mi days sdy now r:=by
 refine ⟨fun t h1 h2 h3=>?_,fun u e=>⟨(h.some u e).1,(h.some u e).2.1⟩⟩;have h4:=(vC.mp h3).1;cases r with
 | none=>exact h.none rfl t h1 h4
 | some u=>exact (h.some u rfl).2.2 t h1 (h2 u rfl) h4
def wK.step {mi:Int}{days sdy:List Int}{now u:Int}{r:Option Int} (h:wK mi days sdy now (.some u)) (hs:u∈sdy) (k:fh (.al mi days []) u r):wK mi days sdy now r:=by
 obtain ⟨u1,u2⟩:=h.set u rfl;refine ⟨fun t t1 t2 t3=>?_,fun w e=>⟨by have:=(k.some w e).1;omega,(k.some w e).2.1⟩⟩;rcases Int.lt_trichotomy t u with z | z | z
 ·exact h.no t t1 (fun _ e=>by cases e;exact z) t3
 ·subst z;exact (vC.mp t3).2 hs
 ·exact (wK.start k).no t z t2 t3
def wK.fin {mi:Int}{days sdy:List Int}{now:Int}{r:Option Int} (h:wK mi days sdy now r) (hs:∀u,r=.some u->u∉sdy):fh (.al mi days sdy) now r:=by
 refine ⟨fun e t t1=>h.no t t1 (fun u z=>by rw [e] at z;cases z),fun u e=>?_⟩;obtain ⟨u1,u2⟩:=h.set u e;exact ⟨u1,vC.mpr ⟨u2,hs u e⟩,fun t t1 t2=>h.no t t1 fun w z=>by rw [e] at z;cases z;exact t2⟩
noncomputable def upTo (l:List Int) (t:Int):Nat:=(l.filter fun x=>decide (x<=t)).length
def zY {l:List Int}{t:Int}:upTo l t<=l.length:=bD ..
theorem wL:∀{l:List Int}{t:Int}{i:Nat}{x:Int},iH l->l[i]?=some x->(x<=t<->i<upTo l t)
 | [],_,_,_,_,e=>by simp at e
 | y::l,t,i,x,h,e=>by
  have h':=aW.mp h;unfold upTo
  by_cases q:y<=t
  ·rw [List.filter_cons_of_pos (by simpa using q),List.length_cons]
   cases i with
   | zero=>simp at e;subst e;exact ⟨fun _=>by omega,fun _=>q⟩
   | succ i =>
    have:=wL (t:=t) (i:=i) h'.2 (by simpa using e);unfold upTo at this;omega
  ·rw [List.filter_cons_of_neg (by simpa using q)]
   have hn:∀z∈l,¬z<=t:=fun z hz=>by have:=h'.1 z hz;omega
   have e0:(l.filter fun x=>decide (x<=t))=[]:=List.filter_eq_nil_iff.mpr fun z hz=>by simpa using hn z hz
   rw [e0];cases i with
   | zero=>simp at e;subst e;simp;omega
   | succ i=>have:=hn x (bf (i:=i) (by simpa using e));simp;omega
def MC {l:List Int}{t:Int} (h:iH l):l.take (upTo l t)=l.filter fun x=>decide (x<=t):=by
 induction l with
 | nil=>rfl
 | cons y l ih =>
  have h':=aW.mp h;unfold upTo at ih ⊢
  by_cases q:y<=t
  ·rw [List.filter_cons_of_pos (by simpa using q),List.length_cons,List.take_succ_cons,ih h'.2]
  ·rw [List.filter_cons_of_neg (by simpa using q)]
   have e0:(l.filter fun x=>decide (x<=t))=[]:=List.filter_eq_nil_iff.mpr fun z hz=>by have:=h'.1 z hz;simp;omega
   rw [e0];rfl
def JJ {l:List Int}{t:Int} (h:iH l):t∈l<->0<upTo l t/\l[upTo l t-1]?=some t:=by
 constructor
 ·intro ht
  obtain ⟨i,hi,e⟩:=List.mem_iff_getElem.mp ht;have e':l[i]?=some t:=by rw [List.getElem?_eq_getElem hi,e]
  have h1:=(wL h e').mp (Int.le_refl t);refine ⟨by omega,?_⟩;have h2:upTo l t-1<l.length:=by have:=zY (l:=l) (t:=t);omega
  have e2:l[upTo l t-1]?=some l[upTo l t-1]:=aI h2;have h3:=(wL h e2).mpr (show upTo l t-1<upTo l t by omega)
  by_cases q:i=upTo l t-1
  ·rw [<-q];exact e'
  ·have Qq:i<upTo l t-1:=by omega
   have:=List.pairwise_iff_getElem.mp h i (upTo l t-1) hi h2 Qq;omega
 ·rintro ⟨_,e⟩
  exact bf e
noncomputable def MD (days:List Int) (g:Nat):Nat:=((List.range g).filter fun d=>decide (((d:Nat):Int) % 7∈days)).length
def Se {days:List Int} (h:iH days) (r:Int):(days.filter fun x=>decide (x<=r)).length=(days.filter fun x=>decide (x<=r-1)).length+if r∈days then 1 else 0:=by
 induction days with
 | nil=>rfl
 | cons y l ih =>
  have h':=aW.mp h;have ih:=ih h'.2
  by_cases q:y<=r-1
  ·rw [List.filter_cons_of_pos (by simp;omega),List.filter_cons_of_pos (by simpa using q),List.length_cons,List.length_cons,ih]
   have:(r∈y::l)<->r∈l:=by simp;omega
   simp only [this];omega
  ·rw [List.filter_cons_of_neg (a:=y) (p:=fun x=>decide (x<=r-1)) (by simpa using q)]
   by_cases q2:y=r
   ·subst q2
    rw [List.filter_cons_of_pos (by simp),List.length_cons,ih];have:y∉l:=fun z=>by have:=h'.1 y z;omega
    simp [this]
   ·rw [List.filter_cons_of_neg (by simp;omega),ih]
    have:(r∈y::l)<->r∈l:=by simp;omega
    simp only [this]
theorem Lc {days:List Int} (h:iH days) (hd:∀d∈days,0<=d/\d<7):∀g:Nat,MD days g=g / 7 * days.length+upTo days (((g % 7:Nat):Int)-1)
 | 0=>by
  unfold MD upTo;have e0:(days.filter fun x=>decide (x<=((0 % 7:Nat):Int)-1))=[]:=List.filter_eq_nil_iff.mpr fun z hz=>by have:=hd z hz;simp;omega
  rw [e0];simp
 | g+1=>by
  have ih:=Lc h hd g;have e1:MD days (g+1)=MD days g+if ((g:Nat):Int) % 7∈days then 1 else 0:=by
   unfold MD;rw [List.range_succ,List.filter_append,List.length_append]
   by_cases q:((g:Nat):Int) % 7∈days
   ·simp [q]
   ·simp [q]
  rw [e1,ih];have hs:=Se h (((g % 7:Nat):Int));have ec:((g:Nat):Int) % 7=((g % 7:Nat):Int):=by omega
  rw [ec]
  by_cases q:g % 7=6
  ·have e2:(g+1) / 7=g / 7+1:=by omega
   have e3:(g+1) % 7=0:=by omega
   rw [e2,e3];have e4:upTo days (((0:Nat):Int)-1)=0:=by
    unfold upTo;have e0:(days.filter fun x=>decide (x<=((0:Nat):Int)-1))=[]:=List.filter_eq_nil_iff.mpr fun z hz=>by have:=hd z hz;simp;omega
    rw [e0];rfl
   have e5:(days.filter fun x=>decide (x<=((g % 7:Nat):Int))).length=days.length:=by
    have:(days.filter fun x=>decide (x<=((g % 7:Nat):Int)))=days:=List.filter_eq_self.mpr fun z hz=>by have:=hd z hz;simp;omega
    rw [this]
   rw [e4,Nat.add_mul,Nat.one_mul];unfold upTo;omega
  ·have e2:(g+1) / 7=g / 7:=by omega
   have e3:(g+1) % 7=g % 7+1:=by omega
   rw [e2,e3,show (((g % 7+1:Nat):Int)-1)=((g % 7:Nat):Int) by omega];unfold upTo;omega
def ME {mi:Int}{days:List Int}{t:Int} (h0:0<=mi) (h1:mi<1440) :
  cI (.al mi days []) (-1) t (((List.range (dg mi t).toNat).filter fun d=>decide (((d:Nat):Int) % 7∈days)).map fun d=>((d:Nat):Int) * 1440+mi):=by
 have g0:0<=dg mi t:=by unfold dg;omega
 refine ⟨?_,fun u=>?_⟩
 ·unfold iH
  rw [List.pairwise_map];exact (bO.sublist dh).imp fun {x y} h=>by omega
 ·rw [List.mem_map,sA h0 h1]
  constructor
  ·rintro ⟨d,hd,rfl⟩
   rw [List.mem_filter,List.mem_range,decide_eq_true_eq] at hd;have:=(sy (mi:=mi) (t:=t) (d:=(d:Nat)) (by omega)).mpr (by omega);exact ⟨by omega,this,(d:Nat),by omega,rfl,hd.2,by simp⟩
  ·rintro ⟨_,u2,d,d0,rfl,dm,_⟩
   have:=(sy d0).mp u2;refine ⟨d.toNat,?_,by rw [show ((d.toNat:Nat):Int)=d by omega]⟩;rw [List.mem_filter,List.mem_range,decide_eq_true_eq];exact ⟨by omega,by rw [show ((d.toNat:Nat):Int)=d by omega];exact dm⟩
noncomputable def isSet (mi:Int) (days:List Int) (t:Int):Bool:=decide (t % 1440=mi/\t / 1440 % 7∈days)
def Vz {mi:Int}{days sdy:List Int}{t:Int} (h:Ok (.al mi days sdy)) :
  OA (.al mi days sdy) t (dg mi t / 7 * days.length+upTo days (dg mi t % 7-1)-((sdy.take (upTo sdy t)).filter (isSet mi days)).length):=by
 have ⟨h0,h1,h2,h3,h4,h5,h6⟩:=h;intro l hl;have g0:0<=dg mi t:=by unfold dg;omega
 have S:=ME (days:=days) (t:=t) h0 h1;have len:((((List.range (dg mi t).toNat).filter fun d=>decide (((d:Nat):Int) % 7∈days)).map fun d=>((d:Nat):Int) * 1440+mi).length:Int)=dg mi t / 7 * days.length+upTo days (dg mi t % 7-1):=by
  have e:=Lc h2 h3 (dg mi t).toNat;unfold MD at e;rw [List.length_map,e,show (((dg mi t).toNat % 7:Nat):Int)=dg mi t % 7 by omega];have:(((dg mi t).toNat / 7:Nat):Int)=dg mi t / 7:=by omega
  rw [Int.natCast_add,Int.natCast_mul,this]
 rw [<-len];generalize ((List.range (dg mi t).toNat).filter fun d=>decide (((d:Nat):Int) % 7∈days)).map (fun d=>((d:Nat):Int) * 1440+mi)=L at S;have e1:l=L.filter fun u=>decide (u∉sdy):=hl.unique ⟨eL S.rise _,fun u=>by
  rw [List.mem_filter,S.mem,decide_eq_true_eq,vC (sdy:=sdy)];exact ⟨fun ⟨⟨a,b,c⟩,d⟩=>⟨a,b,c,d⟩,fun ⟨a,b,c,d⟩=>⟨⟨a,b,c⟩,d⟩⟩⟩
 have e2:L.filter (fun u=>decide (u∈sdy))=(sdy.take (upTo sdy t)).filter (isSet mi days):=by
  rw [MC h4];refine wI (eL S.rise _) (eL (eL h4 _) _) fun u=>?_
  rw [List.mem_filter,List.mem_filter,List.mem_filter,S.mem,decide_eq_true_eq,decide_eq_true_eq]
  constructor
  ·rintro ⟨⟨a,b,c,d,e,_⟩,f⟩
   exact ⟨⟨f,b⟩,by unfold isSet;rw [decide_eq_true_eq];exact ⟨d,e⟩⟩
  ·rintro ⟨⟨a,b⟩,c⟩
   unfold isSet at c;rw [decide_eq_true_eq] at c;have:=h6 u a;exact ⟨⟨by omega,b,by omega,c.1,c.2,by simp⟩,a⟩
 have e3:L.length=(L.filter fun u=>decide (u∈sdy)).length+(L.filter fun u=>decide (u∉sdy)).length:=by
  clear S e1 e2 len hl
  induction L with
  | nil=>rfl
  | cons x L ih =>
   by_cases q:x∈sdy
   ·rw [List.filter_cons_of_pos (by simpa using q),List.filter_cons_of_neg (by simpa using q)];simp only [List.length_cons];omega
   ·rw [List.filter_cons_of_neg (by simpa using q),List.filter_cons_of_pos (by simpa using q)];simp only [List.length_cons];omega
 rw [e1,<-e2];omega
end Rg
namespace zX
open PySem L2 Dl
def gA (items:List D) (F:D->Option D) {k:Nat}{ti:Er}{g:C9}{tt:qO}{te:fV}{Z:Ev}{Q:D->Ev->Prop} (h0:∀Q:List D->Ev->Prop,Q items Z->ti Z Q)
  (hF:∀d∈items,g d (oj Z++List.replicate k .no) fun Z2=>tt Z2 fun b Z3=>if b=true then te Z3 fun y _=>F d=some y else F d=none)
  (hl:(items.filterMap F).length<=sizeLine) (q:Q (.lst (items.filterMap F)) Z):iF k ti g tt te Z Q:=h0 _ ⟨F,hF,hl,q⟩
theorem JK {α β:Type}{g:α->Option β}{h:α->β}:∀{l:List α},(∀a∈l,g a=some (h a))->l.filterMap g=l.map h
 | [],_=>rfl
 | x::l,H=>by rw [List.filterMap_cons_some (H x List.mem_cons_self),JK fun a ha=>H a (List.mem_cons_of_mem _ ha)];rfl
theorem m6 {α:Type} [DecidableEq α]:∀{l m:List α},l.Nodup->(∀x∈l,x∈m)->l.length<=m.length
 | [],_,_,_=>bw _
 | x::l,m,h,hs=>by
  have h':=List.nodup_cons.mp h;have:=m6 (l:=l) (m:=m.erase x) h'.2 fun y hy=>(List.mem_erase_of_ne (fun z=>by subst z;exact h'.1 hy)).mpr (hs y (aw _ hy))
  rw [List.length_erase_of_mem (hs x List.mem_cons_self)] at this;have:0<m.length:=List.length_pos_of_mem (hs x aj);rw [List.length_cons];omega
def Hw {α:Type}{l:List α}{x:α} (h:l[l.length-1]?=some x):vU l (-1)=some x:=by
 have hl:l.length-1<l.length:=(aK.mp h).1;unfold vU S2;rw [if_neg (by decide),if_pos (by omega),show (-1+(l.length:Int)).toNat=l.length-1 by omega];exact h
end zX
namespace zX
open PySem L2 Dl Rg
noncomputable abbrev iL (l:List Int):List D:=l.map D.int
noncomputable def eM:Ck->D
 | .tm size left o=>.tup [.str "timer",.int size,.int left,oi o]
 | .ev b f m=>.tup [.str "every",.int b,.int f,oi m]
 | .al mi days sdy=>.tup [.str "alarm",.int mi,.tup (iL days),.tup (iL sdy)]
theorem Pd:(("every":Str)==("timer":Str))=false:=by decide +kernel
theorem Sf:(("alarm":Str)==("timer":Str))=false:=by decide +kernel
theorem Sg:(("alarm":Str)==("every":Str))=false:=by decide +kernel
theorem q_ta:(("timer":Str)==("alarm":Str))=false:=by decide +kernel
theorem q_ea:(("every":Str)==("alarm":Str))=false:=by decide +kernel
def uE {x y:Str} (h1:PyData.strOk x=true) (h2:PyData.strOk y=true):Co (.str x) (.str y):=⟨h1,h2,bw _⟩
theorem lq:PyData.strOk "timer"=true:=by decide +kernel
theorem m7:PyData.strOk "every"=true:=by decide +kernel
theorem sC:PyData.strOk "alarm"=true:=by decide +kernel
def Hx {l:List Int}{i:Nat}{x:Int} (h:l[i]?=some x):vU (iL l) (i:Int)=some (.int x):=pK (by rw [List.getElem?_map,h];rfl)
theorem lu {x:Int}:∀{l:List Int},inD (.int x) (iL l)=decide (x∈l)
 | []=>by simp [inD]
 | y::l=>by
  show (Cn (.int y) (.int x) || inD (.int x) (iL l))=_;rw [lu,yv]
  by_cases h:y=x
  ·subst h;simp
  ·have h1:(y==x)=false:=by simpa using h
   have h2:¬x=y:=fun z=>h z.symm
   simp [h1,h2]
def mT {x:Int}{l:List Int}:okIn (.int x) (iL l):=⟨rfl,Bs l,by show min _ 0<=60;omega⟩
def VA {l:List D}{n:Nat} (h:n<=l.length):cutD l none (some ((n:Nat):Int))=l.take n:=by
 unfold cutD HT.iN;simp only [List.drop_zero,Nat.sub_zero];rw [if_neg (by omega)]
 congr 1
 omega
theorem wM:∀{l:List Int}{a b:Int},iH l->(∀x∈l,a<=x/\x<b)->l.length<=(b-a).toNat
 | [],_,_,_,_=>bw _
 | x::l,a,b,h,hx=>by
  have h':=aW.mp h;have:=hx x aj;have:=wM (l:=l) (a:=x+1) (b:=b) h'.2 fun y hy=>⟨by have:=h'.1 y hy;omega,(hx y (aw _ hy)).2⟩
  rw [List.length_cons];omega
noncomputable def qR (p:Int->Bool):D->Option D
 | .int x=>if p x=true then some (.int x) else none
 | _=>none
def kG {p:Int->Bool}{x:Int} (h:p x=true):qR p (.int x)=some (.int x):=by show (if p x=true then some (D.int x) else none)=_;rw [if_pos h]
def jE {p:Int->Bool}{x:Int} (h:p x=false):qR p (.int x)=none:=by show (if p x=true then some (D.int x) else none)=_;rw [if_neg (by rw [h];exact Bool.false_ne_true)]
theorem gZ {p:Int->Bool}:∀{l:List Int},(iL l).filterMap (qR p)=iL (l.filter p)
 | []=>rfl
 | x::l=>by
  show (D.int x::iL l).filterMap (qR p)=_
  by_cases h:p x=true
  ·rw [List.filterMap_cons_some (kG h),List.filter_cons_of_pos h,gZ];rfl
  ·rw [List.filterMap_cons_none (jE (by simpa using h)),List.filter_cons_of_neg h,gZ]
noncomputable def Hy (g:Int->D):D->Option D
 | .int x=>some (g x)
 | _=>none
theorem ix {g:Int->D}:∀{l:List Int},(iL l).filterMap (Hy g)=l.map g
 | []=>rfl
 | x::l=>by
  show (D.int x::iL l).filterMap (Hy g)=_;rw [List.filterMap_cons_some (show Hy g (.int x)=some (g x) from rfl),ix];rfl
def dP {lo:Int}{n:Nat}:fC lo n=iL ((List.range n).map fun i=>lo+((i:Nat):Int)):=by
 unfold fC iL;rw [List.map_map];rfl
def iy:xA:=fun ds Q=>∃l t,ds=[.tup (iL l),.int t]/\iH l/\l.length<=100000/\Q (.int (upTo l t))
def lx:xA:=fun ds Q=>∃l t,ds=[.tup (iL l),.int t]/\iH l/\l.length<=100000/\Q (.bl (decide (t∈l)))
def jF:xA:=fun ds Q=>∃mi days sdy t,ds=[eM (.al mi days sdy),.int t]/\Q (.int (dg mi t))
def m8:xA:=fun ds Q=>∃mi days sdy t,ds=[eM (.al mi days sdy),.int t]/\Ok (.al mi days sdy)/\t<=1000000000000/\∀r,fh (.al mi days []) t r->(∀u,r=some u->u<=max 0 t+20000)->Q (oi r)
def gB:xA:=fun ds Q=>∃mi days sdy t,ds=[eM (.al mi days sdy),.int t]/\Ok (.al mi days sdy)/\t<=1000000000/\∀r,fh (.al mi days sdy) t r->Q (oi r)
def iY:xA:=fun ds Q=>∃size left o t,ds=[eM (.tm size left o),.int t]/\∀r,fh (.tm size left o) t r->Q (oi r)
def gC:xA:=fun ds Q=>∃b f m t,ds=[eM (.ev b f m),.int t]/\Ok (.ev b f m)/\Q (.int (cw b f m t))
def iZ:xA:=fun ds Q=>∃b f m t,ds=[eM (.ev b f m),.int t]/\Ok (.ev b f m)/\Q (oi (if m=some (cw b f m t) then none else some (b+cw b f m t * f)))
def ly:xA:=fun ds Q=>∃c t,ds=[eM c,.int t]/\Ok c/\t<=1000000000/\∀r,fh c t r->Q (oi r)
def mD:xA:=fun ds Q=>∃mi days sdy t,ds=[eM (.al mi days sdy),.int t]/\Q (.bl (isSet mi days t))
def i8:xA:=fun ds Q=>∃mi days sdy t,ds=[eM (.al mi days sdy),.int t]/\Ok (.al mi days sdy)/\∀n,OA (.al mi days sdy) t n->Q (.int n)
def mU:xA:=fun ds Q=>∃c t,ds=[eM c,.int t]/\Ok c/\∀n,OA c t n->Q (.int n)
def Fh:∀ds Q,iy ds Q->ds.length=2:=by rintro ds Q ⟨_,_,rfl,_⟩;rfl
def Hz:∀ds Q,lx ds Q->ds.length=2:=by rintro ds Q ⟨_,_,rfl,_⟩;rfl
def HA:∀ds Q,jF ds Q->ds.length=2:=by rintro ds Q ⟨_,_,_,_,rfl,_⟩;rfl
def JL:∀ds Q,m8 ds Q->ds.length=2:=by rintro ds Q ⟨_,_,_,_,rfl,_⟩;rfl
def zp:∀ds Q,gB ds Q->ds.length=2:=by rintro ds Q ⟨_,_,_,_,rfl,_⟩;rfl
def zq:∀ds Q,iY ds Q->ds.length=2:=by rintro ds Q ⟨_,_,_,_,rfl,_⟩;rfl
def zr:∀ds Q,gC ds Q->ds.length=2:=by rintro ds Q ⟨_,_,_,_,rfl,_⟩;rfl
def zt:∀ds Q,iZ ds Q->ds.length=2:=by rintro ds Q ⟨_,_,_,_,rfl,_⟩;rfl
def HB:∀ds Q,ly ds Q->ds.length=2:=by rintro ds Q ⟨_,_,rfl,_⟩;rfl
def Fi:∀ds Q,mD ds Q->ds.length=2:=by rintro ds Q ⟨_,_,_,_,rfl,_⟩;rfl
def zu:∀ds Q,i8 ds Q->ds.length=2:=by rintro ds Q ⟨_,_,_,_,rfl,_⟩;rfl
def MF:∀ds Q,mU ds Q->ds.length=2:=by rintro ds Q ⟨_,_,rfl,_⟩;rfl
def p6:dA:=aS (dH 2 (dC (.int 0))) (aS (dH 3 ((bg se ((av ((au 0)) (bq)))))) (aS (AG (dB (aY (wm fun i j=>.bl (decide (i<j))) ((au 2)) ((au 3)))) (aS (dH 4 ((aY (mS v7 fun i j=>.int (i / j)) ((aY (rF eA) ((au 2)) ((au 3)))) (dC (.int 2))))) (dN (dB (aY (wm fun i j=>.bl (decide (i<=j))) ((aY (rF gE) ((au 0)) ((au 4)))) ((au 1)))) (dH 2 ((aY (rF eA) ((au 4)) (dC (.int 1))))) (dH 3 ((au 4)))))) (cO ((au 2)))))
def Fj:∀ds Q,iy ds Q->p6 { nx:=fun _=>Q .bX,rt:=fun d _=>Q d } (dq ["rising","most","low","high","middle"] ds):=by
 rintro ds Q ⟨l,t,rfl,hr,hl,q⟩;simp! only [p6,List.length_map];refine ⟨fun m Z=>∃(lo hi:Nat) (s:Sl),Z=[.sh (.tup (iL l)),.sh (.int t),.sh (.int (lo:Nat)),.sh (.int (hi:Nat)),s]/\m=hi-lo/\lo<=upTo l t/\upTo l t<=hi/\hi<=l.length,⟨_,0,l.length,.no,rfl,rfl,bw _,zY,ao _⟩,?_⟩;rintro m Z ⟨lo,hi,s,rfl,rfl,h1,h2,h3⟩;simp! only [Dl.aS];refine ku (fun hc=>?_) (fun hc=>?_)
 ·have hm:(lo+hi) / 2<l.length:=by omega
  have hx:l[(lo+hi) / 2]?=some l[(lo+hi) / 2]:=aI hm;have hu:=wL (t:=t) hr hx;have he:((lo:Nat):Int)+((hi:Nat):Int)=((lo+hi:Nat):Int):=by omega
  refine ⟨⟨by decide,by decide⟩,.int l[(lo+hi) / 2],?_,?_⟩
  ·rw [show (((lo:Nat):Int)+((hi:Nat):Int)) / 2=(((lo+hi) / 2:Nat):Int) by omega]
   exact Hx hx
  ·simp! only [Dl.aS]
   refine ku (fun ID=>?_) (fun ID=>?_)
   ·have:=hu.mp ID
    exact ⟨_,(show hi-((lo+hi) / 2+1)<hi-lo by omega),(lo+hi) / 2+1,hi,_,by rw [show (((lo:Nat):Int)+((hi:Nat):Int)) / 2+1=(((lo+hi) / 2+1:Nat):Int) by omega],rfl,by omega,h2,h3⟩
   ·have:¬(lo+hi) / 2<upTo l t:=fun z=>ID (hu.mpr z)
    exact ⟨_,(show (lo+hi) / 2-lo<hi-lo by omega),lo,(lo+hi) / 2,_,by rw [show (((lo:Nat):Int)+((hi:Nat):Int)) / 2=(((lo+hi) / 2:Nat):Int) by omega],rfl,h1,by omega,by omega⟩
 ·rw [show lo=upTo l t by omega]
  exact q
def sE:dA:=aS (dH 2 ((bg iy ((av ((au 0)) ((av ((au 1)) (bq)))))))) (cO ((Kr ((aY (wm fun i j=>.bl (decide (j<i))) ((au 2)) (dC (.int 0)))) ((aY dZ ((aY (rF gE) ((au 0)) ((aY (wm fun i j=>.int (i-j)) ((au 2)) (dC (.int 1)))))) ((au 1)))))))
def HC:∀ds Q,lx ds Q->sE { nx:=fun _=>Q .bX,rt:=fun d _=>Q d } (dq ["rising","number","place"] ds):=by
 rintro ds Q ⟨l,t,rfl,hr,hl,q⟩;simp! only [sE];refine ⟨l,t,rfl,hr,hl,?_⟩;simp! only [Dl.aS];have hs:=JJ (t:=t) hr;refine ku (fun hc=>?_) (fun hc=>?_)
 ·have Qq:upTo l t-1<l.length:=by have:=zY (l:=l) (t:=t);omega
  have hx:l[upTo l t-1]?=some l[upTo l t-1]:=aI Qq;refine ⟨.int l[upTo l t-1],?_,?_⟩
  ·rw [show ((upTo l t:Nat):Int)-1=((upTo l t-1:Nat):Int) by omega]
   exact Hx hx
  ·simp! only [Dl.aS]
   have e:(l[upTo l t-1]==t)=decide (t∈l):=by
    rw [Bool.eq_iff_iff,beq_iff_eq,decide_eq_true_eq,hs,hx,Option.some.injEq];exact ⟨fun z=>⟨by omega,z⟩,fun z=>z.2⟩
   rw [e];exact q
 ·have e:decide (t∈l)=false:=cR fun z=>hc (by have:=(hs.mp z).1;omega)
  rw [e] at q;exact q
def sF:dA:=cO ((bg Cp ((av (dC (.int 0)) ((av ((aY (rF eA) ((aY (mS v7 fun i j=>.int (i / j)) ((aY (wm fun i j=>.int (i-j)) ((au 1)) ((aY (rF gE) ((au 0)) (dC (.int 1)))))) ((dC (.int 1440))))) (dC (.int 1)))) (bq)))))))
def HD:∀ds Q,jF ds Q->sF { nx:=fun _=>Q .bX,rt:=fun d _=>Q d } (dq ["clock","moment"] ds):=by
 rintro ds Q ⟨mi,days,sdy,t,rfl,q⟩;simp! only [sF,eM];exact ⟨⟨by decide,by decide⟩,q⟩
def i9:dA:=aS (dN (WJ (dB (aY AH ((aY (rF gE) ((au 0)) (dC (.int 3)))) (dC .bX))) (dB (aY (wm fun i j=>.bl (decide (i<=j))) ((aY (rF eA) ((aY (rF gE) ((au 0)) (dC (.int 3)))) ((aY (rF gE) ((au 0)) (dC (.int 2)))))) ((au 1))))) (cO (dC .bX)) (cF)) (cO ((aY (rF eA) ((aY (rF gE) ((au 0)) (dC (.int 3)))) ((aY (rF gE) ((au 0)) (dC (.int 2)))))))
def zv:∀ds Q,iY ds Q->i9 { nx:=fun _=>Q .bX,rt:=fun d _=>Q d } (dq ["clock","now"] ds):=by
 rintro ds Q ⟨size,left,o,t,rfl,q⟩;have q:=q _ Sb;cases o with
 | none=>simp! only [i9,eM,cD,cE];exact q
 | some s =>
  simp! only [i9,eM,cD,cE];refine ku (fun h=>?_) (fun h=>?_)
  ·simp only [if_pos h] at q;exact q
  ·simp only [if_neg h] at q;exact q
def ja:dA:=aS (dH 2 ((bg Cp ((av (dC (.int 0)) ((av ((aY (rF eA) ((aY (mS v7 fun i j=>.int (i / j)) ((aY (wm fun i j=>.int (i-j)) ((au 1)) ((aY (rF gE) ((au 0)) (dC (.int 1)))))) ((aY (rF gE) ((au 0)) (dC (.int 2)))))) (dC (.int 1)))) (bq)))))))) (cO ((Qo (dB (aY AH ((aY (rF gE) ((au 0)) (dC (.int 3)))) (dC .bX))) ((au 2)) ((bg IQ ((av ((au 2)) ((av ((aY (rF gE) ((au 0)) (dC (.int 3)))) (bq))))))))))
def zw:∀ds Q,gC ds Q->ja { nx:=fun _=>Q .bX,rt:=fun d _=>Q d } (dq ["clock","moment","rung"] ds):=by
 rintro ds Q ⟨b,f,m,t,rfl,ok,q⟩;have ⟨h1,h2,h3,h4,h5⟩:=ok;cases m with
 | none=>simp! only [ja,eM,cD,cE];exact ⟨⟨by omega,by omega⟩,q⟩
 | some k=>simp! only [ja,eM,cD,cE];exact ⟨⟨by omega,by omega⟩,q⟩
def jc:dA:=aS (dH 2 ((bg gC ((av ((au 0)) ((av ((au 1)) (bq)))))))) (aS (dN (wb (dB (aY qQ ((aY (rF gE) ((au 0)) (dC (.int 3)))) (dC .bX))) (dB (aY dZ ((au 2)) ((aY (rF gE) ((au 0)) (dC (.int 3))))))) (cO (dC .bX)) (cF)) (cO ((aY (rF eA) ((aY (rF gE) ((au 0)) (dC (.int 1)))) ((aY (mS mW fun i j=>.int (i * j)) ((au 2)) ((aY (rF gE) ((au 0)) (dC (.int 2))))))))))
def zx:∀ds Q,iZ ds Q->jc { nx:=fun _=>Q .bX,rt:=fun d _=>Q d } (dq ["clock","now","rung"] ds):=by
 rintro ds Q ⟨b,f,m,t,rfl,ok,q⟩;have mf:∀i:Int,mW i f:=fun i=>.inr ⟨by have:=ok.2.2.1;omega,by have:=ok.2.2.2.1;omega⟩
 cases m with
 | none =>
  simp! only [jc,eM,cD,cE];refine ⟨b,f,none,t,rfl,ok,?_⟩;simp! only [cD,cE];exact ⟨mf _,q⟩
 | some k =>
  simp! only [jc,eM,cD,cE];refine ⟨b,f,some k,t,rfl,ok,?_⟩;simp! only [cD,cE];refine ku (fun h=>?_) (fun h=>?_)
  ·rw [if_pos (congrArg some h.symm)] at q;exact q
  ·rw [if_neg fun z=>h (Option.some.inj z).symm] at q;exact ⟨mf _,q⟩
def p7:dA:=cO ((Kr ((aY dZ ((aY (mS (fun _ j=>0<j) fun i j=>.int (i % j)) ((au 1)) ((dC (.int 1440))))) ((aY (rF gE) ((au 0)) (dC (.int 1)))))) ((aY (zj false) ((aY (mS (fun _ j=>0<j) fun i j=>.int (i % j)) ((aY (mS v7 fun i j=>.int (i / j)) ((au 1)) ((dC (.int 1440))))) ((dC (.int 7))))) ((aY (rF gE) ((au 0)) (dC (.int 2))))))))
def Fm:∀ds Q,mD ds Q->p7 { nx:=fun _=>Q .bX,rt:=fun d _=>Q d } (dq ["clock","moment"] ds):=by
 rintro ds Q ⟨mi,days,sdy,t,rfl,q⟩;simp! only [p7,eM,lu];unfold isSet at q;refine ⟨by decide,?_⟩;refine ku (fun h=>?_) (fun h=>?_)
 ·refine ⟨⟨by decide,by decide⟩,by decide,mT,?_⟩
  simpa [h] using q
 ·simpa [h] using q
def lY:dA:=aS (dH 2 ((bg jF ((av ((au 0)) ((av ((au 1)) (bq)))))))) (aS (dH 3 ((aY (rF eA) ((aY (mS mW fun i j=>.int (i * j)) ((aY (mS v7 fun i j=>.int (i / j)) ((au 2)) ((dC (.int 7))))) ((bg se ((av ((aY (rF gE) ((au 0)) (dC (.int 2)))) (bq))))))) ((bg iy ((av ((aY (rF gE) ((au 0)) (dC (.int 2)))) ((av ((aY (wm fun i j=>.int (i-j)) ((aY (mS (fun _ j=>0<j) fun i j=>.int (i % j)) ((au 2)) ((dC (.int 7))))) (dC (.int 1)))) (bq)))))))))) (aS (dH 4 ((LY ((aY (rF gE) ((au 0)) (dC (.int 3)))) (uc) (Dg ((bg iy ((av ((aY (rF gE) ((au 0)) (dC (.int 3)))) ((av ((au 1)) (bq))))))))))) (cO ((aY (wm fun i j=>.int (i-j)) ((au 3)) ((bg se ((av ((iF 1 (jm ((au 4))) (gc 5) (nJ ((bg mD ((av ((au 0)) ((av ((au 5)) (bq)))))))) ((au 5)))) (bq))))))))))
def zy:∀ds Q,i8 ds Q->lY { nx:=fun _=>Q .bX,rt:=fun d _=>Q d } (dq ["clock","moment","days","set_for","still"] ds):=by
 rintro ds Q ⟨mi,days,sdy,t,rfl,ok,q⟩;have q:=q _ (Vz ok);obtain ⟨h0,h1,h2,h3,h4,h5,h6⟩:=id ok;have dl:days.length<=7:=by have:=wM h2 (a:=0) (b:=7) (fun x hx=>h3 x hx);omega
 simp! only [lY,eM,List.length_map];refine ⟨mi,days,sdy,t,rfl,?_⟩;simp! only [Dl.aS];refine ⟨⟨by decide,by decide⟩,.inr ⟨by omega,by omega⟩,by decide,days,_,rfl,h2,by omega,?_⟩;simp! only [Dl.aS];refine ⟨sdy,t,rfl,h4,by omega,?_⟩;simp! only [Dl.aS];rw [VA (by rw [List.length_map];exact zY),<-List.map_take];refine ⟨_,rfl,qR (isSet mi days),?_,?_,?_⟩
 ·intro d hd
  obtain ⟨x,hx,rfl⟩:=ak.mp hd;refine ⟨mi,days,sdy,x,rfl,?_⟩;simp! only [Dl.aS];refine ku (fun h=>kG h) (fun h=>jE (by simpa using h))
 ·refine ay (aJ ..) ?_
  rw [List.length_map,List.length_take];exact ay (Nat.min_le_right ..) (ay h5 (by decide))
 ·rw [gZ]
  refine ⟨_,rfl,?_⟩;rw [List.length_map];exact q
def vD:dA:=aS (dH 2 ((bg jF ((av ((au 0)) ((av ((au 1)) (bq)))))))) (aS (dH 3 ((iF 1 (we ((av ((au 2)) ((av ((aY (rF eA) ((au 2)) ((dC (.int 7))))) (bq)))))) (gc 4) (dB (aY (zj false) ((aY (mS (fun _ j=>0<j) fun i j=>.int (i % j)) ((au 4)) ((dC (.int 7))))) ((aY (rF gE) ((au 0)) (dC (.int 2)))))) ((au 4))))) (cO ((Qo (nJ ((au 3))) ((aY (rF eA) ((aY (mS mW fun i j=>.int (i * j)) ((aY (rF gE) ((au 3)) (dC (.int 0)))) ((dC (.int 1440))))) ((aY (rF gE) ((au 0)) (dC (.int 1)))))) (dC .bX)))))
def JM:∀ds Q,m8 ds Q->vD { nx:=fun _=>Q .bX,rt:=fun d _=>Q d } (dq ["clock","now","first","days"] ds):=by
 rintro ds Q ⟨mi,days,sdy,t,rfl,ok,ht,q⟩;obtain ⟨h0,h1,h2,h3,h4,h5,h6⟩:=id ok;have nx:=Pc (now:=t) h0 h1 h3;have g0:0<=dg mi t:=by unfold dg;omega
 have g1:dg mi t<=1000000000000:=by unfold dg;omega
 simp! only [vD,eM];refine ⟨mi,days,sdy,t,rfl,?_⟩;simp! only [iF];refine ⟨⟨by omega,by omega,by omega,by omega⟩,qR (fun d=>decide (d % 7∈days)),?_,?_,?_⟩
 ·intro d hd
  rw [dP] at hd;obtain ⟨x,hx,rfl⟩:=ak.mp hd;simp! only [lu];refine ⟨by decide,mT,?_⟩;refine ku (fun h=>kG (by simpa using h)) (fun h=>jE (by simpa using h))
 ·refine ay (aJ ..) ?_
  unfold fC;rw [List.length_map,List.length_range];exact ay (show _<=7 by omega) (by decide)
 ·have ew:(fC (dg mi t) (dg mi t+7-dg mi t).toNat).filterMap (qR fun d=>decide (d % 7∈days))=iL (week days (dg mi t)):=by
   rw [dP,gZ,show (dg mi t+7-dg mi t).toNat=7 by omega];rfl
  rw [ew];cases qw:week days (dg mi t) with
  | nil =>
   rw [qw] at nx;simp! only [iL,List.isEmpty_nil];exact q _ nx fun u e=>nomatch e
  | cons x l =>
   rw [qw] at nx;have hx:=wJ.mp (show x∈week days (dg mi t) by rw [qw];exact aj);simp! only [iL,List.isEmpty_cons];refine ⟨.inr ⟨by decide,by decide⟩,?_⟩;refine q _ nx fun u e=>?_
   have:u=x * 1440+mi:=(bt e).symm;subst this;have:dg mi t * 1440<=max 0 t+1440:=by unfold dg;omega
   omega
def lZ:dA:=aS (dH 2 ((bg m8 ((av ((au 0)) ((av ((au 1)) (bq)))))))) (aS (AG (wb (dB (aY qQ ((au 2)) (dC .bX))) (nJ ((bg lx ((av ((aY (rF gE) ((au 0)) (dC (.int 3)))) ((av ((au 2)) (bq))))))))) (dH 2 ((bg m8 ((av ((au 0)) ((av ((au 2)) (bq))))))))) (cO ((au 2))))
def DM {sdy:List Int}{u:Int} (hs:u∈sdy) {v:Int} (huv:u<v):(sdy.filter fun x=>decide (v<=x)).length<(sdy.filter fun x=>decide (u<=x)).length:=by
 induction sdy with
 | nil=>simp at hs
 | cons y l ih =>
  have mono:(l.filter fun x=>decide (v<=x)).length<=(l.filter fun x=>decide (u<=x)).length:=by
   have:(l.filter fun x=>decide (v<=x))=(l.filter fun x=>decide (u<=x)).filter fun x=>decide (v<=x):=by
    rw [List.filter_filter]
    congr 1
    funext x
    by_cases z:v<=x
    ·simp [z];omega
    ·simp [z]
   rw [this];exact bD ..
  rcases aE.mp hs with rfl | hs
  ·rw [List.filter_cons_of_neg (by simp;omega),List.filter_cons_of_pos (by simp),List.length_cons];omega
  ·have:=ih hs
   by_cases z:v<=y
   ·rw [List.filter_cons_of_pos (by simpa using z),List.filter_cons_of_pos (by simp;omega),List.length_cons,List.length_cons];omega
   ·rw [List.filter_cons_of_neg (by simpa using z)]
    by_cases z2:u<=y
    ·rw [List.filter_cons_of_pos (by simpa using z2),List.length_cons];omega
    ·rw [List.filter_cons_of_neg (by simpa using z2)];omega
def zA:∀ds Q,gB ds Q->lZ { nx:=fun _=>Q .bX,rt:=fun d _=>Q d } (dq ["clock","now","moment"] ds):=by
 rintro ds Q ⟨mi,days,sdy,t,rfl,ok,ht,q⟩;obtain ⟨h0,h1,h2,h3,h4,h5,h6⟩:=id ok;simp! only [lZ];refine ⟨mi,days,sdy,t,rfl,ok,by omega,fun r nx hr=>?_⟩;refine ⟨fun m Z=>∃r,Z=[.sh (eM (.al mi days sdy)),.sh (.int t),.sh (oi r)]/\wK mi days sdy t r/\(∀u,r=some u->u<=1000020000+200000000)/\m=match r with | none=>0 | some u=>(sdy.filter fun x=>decide (u<=x)).length,⟨_,r,rfl,.start nx,fun u e=>by have:=hr u e;omega,rfl⟩,?_⟩;rintro m Z ⟨r,rfl,inv,hb,rfl⟩;cases r with
 | none =>
  simp! only [cD,cE];exact q _ (inv.fin fun u e=>nomatch e)
 | some u =>
  simp! only [eM,cD,cE];refine ⟨sdy,u,rfl,h4,by omega,?_⟩;simp! only [cD,cE];refine ku (fun hs=>?_) (fun hs=>?_)
  ·have hu6:=h6 u hs
   refine ⟨mi,days,sdy,u,rfl,ok,by omega,fun r' nx' hr'=>?_⟩;refine ⟨_,?_,r',rfl,inv.step hs nx',fun w e=>by have:=hr' w e;omega,rfl⟩;cases r' with
   | none=>exact Nat.lt_of_le_of_lt (bw _) (DM hs (v:=u+1) (by omega))
   | some v=>exact DM hs (nx'.some v rfl).1
  ·exact q _ (inv.fin fun w e=>by cases e;exact hs)
def lB:dA:=aS (dN (dB (aY dZ ((aY (rF gE) ((au 0)) (dC (.int 0)))) (dC (.str "timer")))) (cO ((bg iY ((av ((au 0)) ((av ((au 1)) (bq)))))))) (cF)) (aS (dN (dB (aY dZ ((aY (rF gE) ((au 0)) (dC (.int 0)))) (dC (.str "every")))) (cO ((bg iZ ((av ((au 0)) ((av ((au 1)) (bq)))))))) (cF)) (cO ((bg gB ((av ((au 0)) ((av ((au 1)) (bq)))))))))
def HE:∀ds Q,ly ds Q->lB { nx:=fun _=>Q .bX,rt:=fun d _=>Q d } (dq ["clock","now"] ds):=by
 rintro ds Q ⟨c,t,rfl,ok,ht,q⟩;cases c with
 | tm size left o =>
  simp! only [lB,eM];exact ⟨uE lq lq,size,left,o,t,rfl,q⟩
 | ev b f m =>
  simp! only [lB,eM,Pd];exact ⟨uE m7 lq,uE m7 m7,b,f,m,t,rfl,ok,q _ (Lb ok)⟩
 | al mi days sdy =>
  simp! only [lB,eM,Sf,Sg];exact ⟨uE sC lq,uE sC m7,mi,days,sdy,t,rfl,ok,ht,q⟩
def mV:dA:=aS (dN (dB (aY dZ ((aY (rF gE) ((au 0)) (dC (.int 0)))) (dC (.str "timer")))) (cO ((Qo (wb (dB (aY qQ ((aY (rF gE) ((au 0)) (dC (.int 3)))) (dC .bX))) (dB (aY (wm fun i j=>.bl (decide (i<=j))) ((aY (rF eA) ((aY (rF gE) ((au 0)) (dC (.int 3)))) ((aY (rF gE) ((au 0)) (dC (.int 2)))))) ((au 1))))) (dC (.int 1)) (dC (.int 0))))) (cF)) (aS (dN (dB (aY dZ ((aY (rF gE) ((au 0)) (dC (.int 0)))) (dC (.str "every")))) (cO ((bg gC ((av ((au 0)) ((av ((au 1)) (bq)))))))) (cF)) (cO ((bg i8 ((av ((au 0)) ((av ((au 1)) (bq)))))))))
def MG:∀ds Q,mU ds Q->mV { nx:=fun _=>Q .bX,rt:=fun d _=>Q d } (dq ["clock","moment"] ds):=by
 rintro ds Q ⟨c,t,rfl,ok,q⟩;cases c with
 | tm size left o =>
  have q:=q _ (Pa ok);cases o with
  | none =>
   simp! only [mV,eM,cD,cE];exact ⟨uE lq lq,q⟩
  | some s =>
   simp! only [mV,eM,cD,cE];refine ⟨uE lq lq,?_⟩;refine ku (fun h=>?_) (fun h=>?_)
   ·simp only [if_pos h] at q;exact q
   ·simp only [if_neg h] at q;exact q
 | ev b f m =>
  simp! only [mV,eM,Pd];exact ⟨uE m7 lq,uE m7 m7,b,f,m,t,rfl,ok,q _ (Pb ok)⟩
 | al mi days sdy =>
  simp! only [mV,eM,Sf,Sg];exact ⟨uE sC lq,uE sC m7,mi,days,sdy,t,rfl,ok,q⟩
end zX
namespace Rg
structure jY (c:Ck) (now:Int) (r:Option Int):Prop where
 none:r=.none->∀t,t<=now->¬rg c t
 some:∀t,r=.some t->t<=now/\rg c t/\∀t',t<t'->t'<=now->¬rg c t'
def jY.unique {c:Ck}{now:Int}{r s:Option Int} (h:jY c now r) (k:jY c now s):r=s:=by
 cases r with
 | none=>cases s with
  | none=>rfl
  | some v=>obtain ⟨a,b,_⟩:=k.some v rfl;exact absurd b (h.none rfl v a)
 | some u=>obtain ⟨a,b,c⟩:=h.some u rfl;cases s with
  | none=>exact absurd b (k.none rfl u a)
  | some v =>
   obtain ⟨a',b',c'⟩:=k.some v rfl;rcases Int.lt_trichotomy u v with z | z | z
   ·exact absurd b' (c v z a')
   ·rw [z]
   ·exact absurd b (c' u z a)
noncomputable def uW (days:List Int) (g:Int):List Int:=((List.range (g-max 0 (g-7)).toNat).map fun i=>max 0 (g-7)+((i:Nat):Int)).filter fun d=>decide (d % 7∈days)
def xV {days:List Int}{g d:Int}:d∈uW days g<->max 0 (g-7)<=d/\d<g/\d % 7∈days:=by
 unfold uW;rw [List.mem_filter,List.mem_map,decide_eq_true_eq]
 constructor
 ·rintro ⟨⟨i,hi,rfl⟩,h⟩
  rw [List.mem_range] at hi;exact ⟨by omega,by omega,h⟩
 ·rintro ⟨a,b,c⟩
  exact ⟨⟨(d-max 0 (g-7)).toNat,by rw [List.mem_range];omega,by omega⟩,c⟩
def JN {days:List Int}{g:Int}:iH (uW days g):=by
 refine eL ?_ _;unfold iH;rw [List.pairwise_map];exact bO.imp fun {x y} h=>by omega
def DN {x:Int}{l:List Int} (h:iH (l++[x])) {y:Int} (hy:y∈l++[x]):y<=x:=by
 rcases cS.mp hy with hy | hy
 ·have:=(List.pairwise_append.mp h).2.2 y hy x (by simp);omega
 ·simp at hy;omega
def Pe {mi:Int}{days:List Int}{now:Int} (h0:0<=mi) (h1:mi<1440) :
  (uW days (dg mi now)=[]/\jY (.al mi days []) now .none)\/∃l x,uW days (dg mi now)=l++[x]/\jY (.al mi days []) now (.some (x * 1440+mi)):=by
 have g0:0<=dg mi now:=by unfold dg;omega
 rcases List.eq_nil_or_concat (uW days (dg mi now)) with q | ⟨l,x,q⟩
 ·refine .inl ⟨q,⟨fun _ t ht r=>?_,fun t e=>(nomatch e)⟩⟩
  obtain ⟨d,d0,rfl,dm,_⟩:=(sA h0 h1).mp r;have hg:d<dg mi now:=(sy d0).mp ht;have:(dg mi now-1-(dg mi now-1-d) % 7)∈uW days (dg mi now):=xV.mpr ⟨by omega,by omega,by rw [show (dg mi now-1-(dg mi now-1-d) % 7) % 7=d % 7 by omega];exact dm⟩;rw [q] at this;simp at this
 ·rw [List.concat_eq_append] at q
  refine .inr ⟨l,x,q,⟨fun e=>(nomatch e),fun t e=>?_⟩⟩;have et:t=x * 1440+mi:=(bt e).symm;subst et;have hx:x∈uW days (dg mi now):=by rw [q];simp
  obtain ⟨x1,x2,x3⟩:=xV.mp hx;refine ⟨(sy (by omega)).mpr x2,(sA h0 h1).mpr ⟨x,by omega,rfl,x3,by simp⟩,fun t' t1 t2 r=>?_⟩;obtain ⟨d,d0,rfl,dm,_⟩:=(sA h0 h1).mp r;have hg:d<dg mi now:=(sy d0).mp t2;have hm:d∈uW days (dg mi now):=xV.mpr ⟨by omega,hg,dm⟩;have hr:=JN (days:=days) (g:=dg mi now);rw [q] at hm hr;have:=DN hr hm;omega
structure wN (mi:Int) (days sdy:List Int) (now:Int) (r:Option Int):Prop where
 no:∀t,t<=now->(∀u,r=.some u->u<t)->¬rg (.al mi days sdy) t
 set:∀u,r=.some u->u<=now/\rg (.al mi days []) u
theorem wN.start {mi:Int}{days sdy:List Int}{now:Int}{r:Option Int} (h:jY (.al mi days []) now r):wN mi days sdy now r:=by
 refine ⟨fun t h1 h2 h3=>?_,fun u e=>⟨(h.some u e).1,(h.some u e).2.1⟩⟩;have h4:=(vC.mp h3).1;cases r with
 | none=>exact h.none rfl t h1 h4
 | some u=>exact (h.some u rfl).2.2 t (h2 u rfl) h1 h4
def wN.step {mi:Int}{days sdy:List Int}{now u:Int}{r:Option Int} (h:wN mi days sdy now (.some u)) (hs:u∈sdy) (k:jY (.al mi days []) (u-1) r):wN mi days sdy now r:=by
 obtain ⟨u1,u2⟩:=h.set u rfl;refine ⟨fun t t1 t2 t3=>?_,fun w e=>⟨by have:=(k.some w e).1;omega,(k.some w e).2.1⟩⟩;rcases Int.lt_trichotomy t u with z | z | z
 ·exact (wN.start k).no t (by omega) t2 t3
 ·subst z;exact (vC.mp t3).2 hs
 ·exact h.no t t1 (fun _ e=>by cases e;exact z) t3
def wN.fin {mi:Int}{days sdy:List Int}{now:Int}{r:Option Int} (h:wN mi days sdy now r) (hs:∀u,r=.some u->u∉sdy):jY (.al mi days sdy) now r:=by
 refine ⟨fun e t t1=>h.no t t1 (fun u z=>by rw [e] at z;cases z),fun u e=>?_⟩;obtain ⟨u1,u2⟩:=h.set u e;exact ⟨u1,vC.mpr ⟨u2,hs u e⟩,fun t t1 t2=>h.no t t2 fun w z=>by rw [e] at z;cases z;exact t1⟩
def Sh {size left:Int}{o:Option Int}{now:Int}:jY (.tm size left o) now (match o with | .none=>.none | .some s=>if s+left<=now then .some (s+left) else .none):=by
 cases o with
 | none=>exact ⟨fun _ t _ ⟨s,e,_⟩=>(nomatch e),fun t e=>(nomatch e)⟩
 | some s =>
  dsimp only
  by_cases h:s+left<=now
  ·rw [if_pos h]
   exact ⟨fun e=>(nomatch e),fun t e=>by cases e;exact ⟨h,⟨s,rfl,rfl⟩,fun t' t1 _ ⟨s',e,e2⟩=>by cases e;omega⟩⟩
  ·rw [if_neg h]
   exact ⟨fun _ t ht ⟨s',e,e2⟩=>by cases e;omega,fun t e=>(nomatch e)⟩
def Ld {b f:Int}{m:Option Int}{now:Int} (h:Ok (.ev b f m)):jY (.ev b f m) now (if cw b f m now=0 then .none else .some (b+(cw b f m now-1) * f)):=by
 obtain ⟨o1,o2,o3,o4,o5⟩:=id h;have hf:0<f:=by omega
 have nn:=o7 (b:=b) (f:=f) (m:=m) (t:=now) fun k e=>(o5 k e).1
 by_cases z:cw b f m now=0
 ·rw [if_pos z]
  refine ⟨fun _ t ht ⟨i,i0,ie,ib⟩=>?_,fun t e=>(nomatch e)⟩;have:=(fA (b:=b) (m:=m) (t:=now) hf i0).mpr ⟨by omega,ib⟩;omega
 ·rw [if_neg z]
  have hle:=(fA (b:=b) (m:=m) (t:=now) hf (show 0<=cw b f m now-1 by omega)).mp (by omega);refine ⟨fun e=>(nomatch e),fun t e=>?_⟩;cases e;refine ⟨hle.1,⟨_,by omega,rfl,hle.2⟩,fun t' t1 t2 ⟨i,i0,ie,ib⟩=>?_⟩;have h3:=(fA (b:=b) (m:=m) (t:=now) hf i0).mpr ⟨by omega,ib⟩;have:i * f<=(cw b f m now-1) * f:=Int.mul_le_mul_of_nonneg_right (by omega) (by omega);omega
end Rg
namespace zX
open PySem L2 Dl Rg
def Bv {sdy:List Int}{u:Int} (hs:u∈sdy) {v:Int} (huv:v<u):(sdy.filter fun x=>decide (x<=v)).length<(sdy.filter fun x=>decide (x<=u)).length:=by
 induction sdy with
 | nil=>simp at hs
 | cons y l ih =>
  have mono:(l.filter fun x=>decide (x<=v)).length<=(l.filter fun x=>decide (x<=u)).length:=by
   have:(l.filter fun x=>decide (x<=v))=(l.filter fun x=>decide (x<=u)).filter fun x=>decide (x<=v):=by
    rw [List.filter_filter]
    congr 1
    funext x
    by_cases z:x<=v
    ·simp [z];omega
    ·simp [z]
   rw [this];exact bD ..
  rcases aE.mp hs with rfl | hs
  ·rw [List.filter_cons_of_neg (by simp;omega),List.filter_cons_of_pos (by simp),List.length_cons];omega
  ·have:=ih hs
   by_cases z:y<=v
   ·rw [List.filter_cons_of_pos (by simpa using z),List.filter_cons_of_pos (by simp;omega),List.length_cons,List.length_cons];omega
   ·rw [List.filter_cons_of_neg (by simpa using z)]
    by_cases z2:y<=u
    ·rw [List.filter_cons_of_pos (by simpa using z2),List.length_cons];omega
    ·rw [List.filter_cons_of_neg (by simpa using z2)];omega
def nh:xA:=fun ds Q=>∃mi days sdy t,ds=[eM (.al mi days sdy),.int t]/\Ok (.al mi days sdy)/\t<=1000000000000/\∀r,jY (.al mi days []) t r->Q (oi r)
def jd:xA:=fun ds Q=>∃mi days sdy t,ds=[eM (.al mi days sdy),.int t]/\Ok (.al mi days sdy)/\t<=1000000000/\∀r,jY (.al mi days sdy) t r->Q (oi r)
def JO:∀ds Q,nh ds Q->ds.length=2:=by rintro ds Q ⟨_,_,_,_,rfl,_⟩;rfl
def zB:∀ds Q,jd ds Q->ds.length=2:=by rintro ds Q ⟨_,_,_,_,rfl,_⟩;rfl
def vE:dA:=aS (dH 2 ((bg jF ((av ((au 0)) ((av ((au 1)) (bq)))))))) (aS (dH 3 ((iF 1 (we ((av ((bg Cp ((av (dC (.int 0)) ((av ((aY (wm fun i j=>.int (i-j)) ((au 2)) ((dC (.int 7))))) (bq))))))) ((av ((au 2)) (bq)))))) (gc 4) (dB (aY (zj false) ((aY (mS (fun _ j=>0<j) fun i j=>.int (i % j)) ((au 4)) ((dC (.int 7))))) ((aY (rF gE) ((au 0)) (dC (.int 2)))))) ((au 4))))) (cO ((Qo (nJ ((au 3))) ((aY (rF eA) ((aY (mS mW fun i j=>.int (i * j)) ((aY (rF gE) ((au 3)) ((XF Gv (dC (.int 1)))))) ((dC (.int 1440))))) ((aY (rF gE) ((au 0)) (dC (.int 1)))))) (dC .bX)))))
def JP:∀ds Q,nh ds Q->vE { nx:=fun _=>Q .bX,rt:=fun d _=>Q d } (dq ["clock","now","gone","days"] ds):=by
 rintro ds Q ⟨mi,days,sdy,t,rfl,ok,ht,q⟩;obtain ⟨h0,h1,h2,h3,h4,h5,h6⟩:=id ok;have nx:=Pe (days:=days) (now:=t) h0 h1;have g0:0<=dg mi t:=by unfold dg;omega
 have g1:dg mi t<=1000000000000:=by unfold dg;omega
 simp! only [vE,eM];refine ⟨mi,days,sdy,t,rfl,?_⟩;simp! only [iF];refine ⟨⟨by omega,by omega,by omega,by omega⟩,qR (fun d=>decide (d % 7∈days)),?_,?_,?_⟩
 ·intro d hd
  rw [dP] at hd;obtain ⟨x,hx,rfl⟩:=ak.mp hd;simp! only [lu];refine ⟨by decide,mT,?_⟩;refine ku (fun h=>kG (by simpa using h)) (fun h=>jE (by simpa using h))
 ·refine ay (aJ ..) ?_
  unfold fC;rw [List.length_map,List.length_range];exact ay (show _<=7 by omega) (by decide)
 ·have ew:(fC (max 0 (dg mi t-7)) (dg mi t-max 0 (dg mi t-7)).toNat).filterMap (qR fun d=>decide (d % 7∈days))=iL (uW days (dg mi t)):=by
   rw [dP,gZ];rfl
  rw [ew];rcases nx with ⟨qw,nx⟩ | ⟨l,x,qw,nx⟩
  ·rw [qw]
   simp! only [iL,List.isEmpty_nil];exact q _ nx
  ·rw [qw]
   have ne:(iL (l++[x])).isEmpty=false:=by simp [iL]
   simp! only [ne];refine ⟨_,Hw (l:=iL (l++[x])) (x:=.int x) (by simp [iL]),?_⟩;simp! only [Dl.aS];exact ⟨.inr ⟨by decide,by decide⟩,q _ nx⟩
def ma:dA:=aS (dH 2 ((bg nh ((av ((au 0)) ((av ((au 1)) (bq)))))))) (aS (AG (wb (dB (aY qQ ((au 2)) (dC .bX))) (nJ ((bg lx ((av ((aY (rF gE) ((au 0)) (dC (.int 3)))) ((av ((au 2)) (bq))))))))) (dH 2 ((bg nh ((av ((au 0)) ((av ((aY (wm fun i j=>.int (i-j)) ((au 2)) (dC (.int 1)))) (bq))))))))) (cO ((au 2))))
def zC:∀ds Q,jd ds Q->ma { nx:=fun _=>Q .bX,rt:=fun d _=>Q d } (dq ["clock","now","moment"] ds):=by
 rintro ds Q ⟨mi,days,sdy,t,rfl,ok,ht,q⟩;obtain ⟨h0,h1,h2,h3,h4,h5,h6⟩:=id ok;simp! only [ma];refine ⟨mi,days,sdy,t,rfl,ok,by omega,fun r nx=>?_⟩;refine ⟨fun m Z=>∃r,Z=[.sh (eM (.al mi days sdy)),.sh (.int t),.sh (oi r)]/\wN mi days sdy t r/\m=match r with | none=>0 | some u=>(sdy.filter fun x=>decide (x<=u)).length,⟨_,r,rfl,.start nx,rfl⟩,?_⟩;rintro m Z ⟨r,rfl,inv,rfl⟩;cases r with
 | none =>
  simp! only [cD,cE];exact q _ (inv.fin fun u e=>nomatch e)
 | some u =>
  have hu:=(inv.set u rfl).1;simp! only [eM,cD,cE];refine ⟨sdy,u,rfl,h4,by omega,?_⟩;simp! only [cD,cE];refine ku (fun hs=>?_) (fun hs=>?_)
  ·refine ⟨mi,days,sdy,u-1,rfl,ok,by omega,fun r' nx'=>?_⟩
   refine ⟨_,?_,r',rfl,inv.step hs nx',rfl⟩;cases r' with
   | none=>exact Nat.lt_of_le_of_lt (bw _) (Bv hs (v:=u-1) (by omega))
   | some v=>exact Bv hs (by have:=(nx'.some v rfl).1;omega)
  ·exact q _ (inv.fin fun w e=>by cases e;exact hs)
def jG (c:Ck) (a e:Int):∃l,cI c a e l:=by
 classical
 refine ⟨((List.range (e-a).toNat).map fun i=>a+1+((i:Nat):Int)).filter fun t=>decide (rg c t),eL ?_ _,fun t=>?_⟩
 ·unfold iH
  rw [List.pairwise_map];exact bO.imp fun {x y} h=>by omega
 ·rw [List.mem_filter,List.mem_map,decide_eq_true_eq]
  constructor
  ·rintro ⟨⟨i,hi,rfl⟩,h⟩
   rw [List.mem_range] at hi;exact ⟨by omega,by omega,h⟩
  ·rintro ⟨x,y,z⟩
   exact ⟨⟨(t-a-1).toNat,by rw [List.mem_range];omega,by omega⟩,z⟩
def Pf {c:Ck}{a e n m:Int}{l:List Int} (hm:OA c a m) (hn:OA c e n) (hl:cI c a e l) (h1:-1<=a) (h2:a<=e):n-m=l.length:=by
 obtain ⟨l0,r0⟩:=jG c (-1) a;have e1:=hm l0 r0;have e2:=hn _ (r0.append hl h1 h2);rw [List.length_append] at e2;omega
def DQ {c:Ck}{a e:Int}{l:List Int} (h:cI c a e l):l.length<=(e-a).toNat:=by
 have:=wM h.rise (a:=a+1) (b:=e+1) fun x hx=>by have:=(h.mem x).mp hx;omega
 omega
def lC:xA:=fun ds Q=>∃c t,ds=[eM c,.int t]/\Ok c/\t<=1000000000/\∀r,jY c t r->Q (oi r)
def iz:xA:=fun ds Q=>∃mi days sdy u e,ds=[eM (.al mi days sdy),.int u,.int e]/\Ok (.al mi days sdy)/\rg (.al mi days sdy) u/\u<=e/\e<=10000000/\∀l,cI (.al mi days sdy) (u-1) e l->Q (.lst (iL l))
def zZ:xA:=fun ds Q=>∃c a e,ds=[eM c,.int a,.int e]/\Ok c/\a<=10000000/\e<=10000000/\∀l,cI c a e l->Q (.lst (iL l))
def p8:xA:=fun ds Q=>∃c a e,ds=[eM c,.int a,.int e]/\Ok c/\-1<=a/\a<=e/\∀l,cI c a e l->Q (.int l.length)
def HF:∀ds Q,lC ds Q->ds.length=2:=by rintro ds Q ⟨_,_,rfl,_⟩;rfl
def xW:∀ds Q,iz ds Q->ds.length=3:=by rintro ds Q ⟨_,_,_,_,_,rfl,_⟩;rfl
def Si:∀ds Q,zZ ds Q->ds.length=3:=by rintro ds Q ⟨_,_,_,rfl,_⟩;rfl
def JQ:∀ds Q,p8 ds Q->ds.length=3:=by rintro ds Q ⟨_,_,_,rfl,_⟩;rfl
def lD:dA:=aS (dN (dB (aY dZ ((aY (rF gE) ((au 0)) (dC (.int 0)))) (dC (.str "alarm")))) (cO ((bg jd ((av ((au 0)) ((av ((au 1)) (bq)))))))) (cF)) (aS (dH 2 ((bg mU ((av ((au 0)) ((av ((au 1)) (bq)))))))) (aS (dN (dB (aY dZ ((au 2)) (dC (.int 0)))) (cO (dC .bX)) (cF)) (aS (dN (dB (aY dZ ((aY (rF gE) ((au 0)) (dC (.int 0)))) (dC (.str "timer")))) (cO ((aY (rF eA) ((aY (rF gE) ((au 0)) (dC (.int 3)))) ((aY (rF gE) ((au 0)) (dC (.int 2))))))) (cF)) (cO ((aY (rF eA) ((aY (rF gE) ((au 0)) (dC (.int 1)))) ((aY (mS mW fun i j=>.int (i * j)) ((aY (wm fun i j=>.int (i-j)) ((au 2)) (dC (.int 1)))) ((aY (rF gE) ((au 0)) (dC (.int 2))))))))))))
def HG:∀ds Q,lC ds Q->lD { nx:=fun _=>Q .bX,rt:=fun d _=>Q d } (dq ["clock","now","rung"] ds):=by
 rintro ds Q ⟨c,t,rfl,ok,ht,q⟩;cases c with
 | al mi days sdy =>
  simp! only [lD,eM];exact ⟨uE sC sC,mi,days,sdy,t,rfl,ok,ht,q⟩
 | ev b f m =>
  simp! only [lD,eM,q_ea,Pd];refine ⟨uE m7 sC,.ev b f m,t,rfl,ok,fun n hn=>?_⟩;obtain ⟨l0,r0⟩:=jG (.ev b f m) (-1) t;have en:n=cw b f m t:=(hn l0 r0).trans (Pb ok l0 r0).symm;subst en;have la:=q _ (Ld (now:=t) ok);simp! only [Dl.aS];refine ku (fun h=>?_) fun h=>?_
  ·rw [if_pos h] at la;exact la
  ·rw [if_neg h] at la
   exact ⟨uE m7 lq,.inr ⟨by have:=ok.2.2.1;omega,by have:=ok.2.2.2.1;omega⟩,la⟩
 | tm size left o =>
  simp! only [lD,eM,q_ta];refine ⟨uE lq sC,.tm size left o,t,rfl,ok,fun n hn=>?_⟩;obtain ⟨l0,r0⟩:=jG (.tm size left o) (-1) t;have en:=(hn l0 r0).trans (Pa ok l0 r0).symm;have la:=q _ (Sh (size:=size) (left:=left) (o:=o) (now:=t));cases o with
  | none =>
   have en:n=0:=en;subst en;simp! only [Dl.aS];exact la
  | some s =>
   dsimp only at en la
   by_cases h:s+left<=t
   ·rw [if_pos h] at en la
    subst en;simp! only [cD,cE];rw [if_neg (by decide)];exact ⟨uE lq lq,la⟩
   ·rw [if_neg h] at en la
    subst en;simp! only [cD,cE];exact la
def kH:dA:=aS (LM 3 (bq)) (aS (dH 4 ((au 1))) (aS (AG (dB (aY (wm fun i j=>.bl (decide (i<=j))) ((au 4)) ((au 2)))) (aS (LP 3 ((au 4))) (dH 4 ((bg gB ((av ((au 0)) ((av ((au 4)) (bq)))))))))) (LO 3 (cO ((au 3))))))
def xX:∀ds Q,iz ds Q->kH { nx:=fun _=>Q .bX,rt:=fun d _=>Q d } (dq ["clock","first","end","told","moment"] ds):=by
 rintro ds Q ⟨mi,days,sdy,u,e,rfl,ok,hu,hue,he,q⟩;have u0:=YD ok hu;have hn:days≠[]:=fun z=>by subst z;exact absurd hu.2.2.1 (by simp)
 simp! only [kH];refine ⟨fun m Z=>∃l w,Z=[.sh (eM (.al mi days sdy)),.sh (.int u),.sh (.int e),.ow (iL l),.sh (.int w)]/\m=(e+1-w).toNat/\cI (.al mi days sdy) (u-1) (w-1) l/\rg (.al mi days sdy) w/\u<=w/\(∀x∈l,x<=e),⟨_,[],u,rfl,rfl,.none (by omega),hu,Int.le_refl _,fun x hx=>absurd hx (by simp)⟩,?_⟩;rintro m Z ⟨l,w,rfl,rfl,hl,hw,huw,hle⟩;simp! only [Dl.aS];have len:l.length<=10000001:=by
  have:=wM hl.rise (a:=u) (b:=e+1) fun x hx=>by have:=(hl.mem x).mp hx;have:=hle x hx;omega
  omega
 refine ku (fun hc=>?_) (fun hc=>?_)
 ·refine ⟨by rw [List.length_map];exact Nat.lt_of_le_of_lt len (by decide),mi,days,sdy,w,rfl,ok,by omega,fun r nx=>?_⟩
  cases r with
  | none =>
   obtain ⟨t,t1,t2⟩:=Sd ok hn w;exact absurd t2 (nx.none rfl t t1)
  | some v =>
   obtain ⟨v1,v2,v3⟩:=nx.some v rfl;refine ⟨_,(show (e+1-v).toNat<(e+1-w).toNat by omega),l++[w],v,?_,rfl,?_,v2,by omega,fun x hx=>?_⟩
   ·rw [show iL (l++[w])=iL l++[.int w] by simp [iL]];rfl
   ·refine hl.append ?_ (by omega) (by omega)
    refine ⟨List.pairwise_singleton ..,fun t=>?_⟩;rw [List.mem_singleton]
    constructor
    ·rintro rfl;exact ⟨by omega,by omega,hw⟩
    ·rintro ⟨t1,t2,t3⟩
     by_cases z:t=w
     ·exact z
     ·exact absurd t3 (v3 t (by omega) (by omega))
   ·rcases cS.mp hx with hx | hx
    ·exact hle x hx
    ·rw [List.mem_singleton] at hx;omega
 ·refine q l ⟨hl.rise,fun t=>?_⟩
  rw [hl.mem]
  constructor
  ·rintro ⟨a,b,c⟩;exact ⟨a,hle t ((hl.mem t).mpr ⟨a,b,c⟩),c⟩
  ·rintro ⟨a,b,c⟩;exact ⟨a,by omega,c⟩
def Fn:dA:=aS (dH 3 ((bg ly ((av ((au 0)) ((av ((au 1)) (bq)))))))) (aS (dN (WJ (dB (aY AH ((au 3)) (dC .bX))) (dB (aY (wm fun i j=>.bl (decide (j<i))) ((au 3)) ((au 2))))) (cO ((uC (bq)))) (cF)) (aS (dN (dB (aY dZ ((aY (rF gE) ((au 0)) (dC (.int 0)))) (dC (.str "timer")))) (cO ((uC ((av ((au 3)) (bq)))))) (cF)) (aS (dN (dB (aY dZ ((aY (rF gE) ((au 0)) (dC (.int 0)))) (dC (.str "every")))) (cO ((EH ((av ((au 3)) ((av ((aY (rF eA) ((bg lC ((av ((au 0)) ((av ((au 2)) (bq))))))) (dC (.int 1)))) ((av ((aY (rF gE) ((au 0)) (dC (.int 2)))) (bq)))))))))) (cF)) (cO ((bg iz ((av ((au 0)) ((av ((au 3)) ((av ((au 2)) (bq)))))))))))))
def MH {b f i:Int}{n:Nat}:sf (b+i * f) f n=listE b f i n:=by
 unfold sf listE;refine df fun j _=>?_
 rw [Int.add_mul];omega
def Sj:∀ds Q,zZ ds Q->Fn { nx:=fun _=>Q .bX,rt:=fun d _=>Q d } (dq ["clock","start","end","first"] ds):=by
 rintro ds Q ⟨c,a,e,rfl,ok,ha,he,q⟩;simp! only [Fn];refine ⟨c,a,rfl,ok,by omega,fun r nx=>?_⟩;cases r with
 | none =>
  simp! only [cD,cE];exact q [] (nx.nothing fun t e=>nomatch e)
 | some u =>
  obtain ⟨u1,u2,u3⟩:=nx.some u rfl;simp! only [cD,cE];refine ku (fun h=>q [] (nx.nothing fun t z=>by cases z;exact h)) (fun h=>?_);cases c with
  | tm size left o =>
   simp! only [eM];refine ⟨uE lq lq,q [u] (nx.rings ⟨.nil,fun t=>⟨fun z=>absurd z (by simp),fun ⟨t1,t2,t3⟩=>?_⟩⟩ (by omega))⟩;have ⟨s,e1,e2⟩:=u2;have ⟨s',e3,e4⟩:=t3;rw [e1] at e3;cases e3;omega
  | ev b f m =>
   have Zk:=nx.unique (Lb ok);obtain ⟨o1,o2,o3,o4,o5⟩:=id ok;have hf:0<f:=by omega
   have FY:¬m=some (cw b f m a):=fun z=>by rw [if_pos z] at Zk;cases Zk
   rw [if_neg FY] at Zk;cases Zk;have na:=o7 (b:=b) (f:=f) (m:=m) (t:=a) fun k e=>(o5 k e).1
   have ⟨i,i0,ie,ib⟩:=u2;have Qq:cw b f m a<cw b f m e:=by
    have h2:i<cw b f m e:=(fA hf i0).mpr ⟨by omega,ib⟩;have h3:cw b f m a<=i:=by
     by_cases z:i<cw b f m a
     ·have:=(fA (t:=a) hf i0).mp z;omega
     ·omega
    omega
   have hle:=(fA (b:=b) (m:=m) (t:=e) hf (show 0<=cw b f m e-1 by omega)).mp (by omega);have hmul:cw b f m a * f<=(cw b f m e-1) * f:=Int.mul_le_mul_of_nonneg_right (by omega) (by omega);have hpos:0<=cw b f m a * f:=Int.mul_nonneg na (by omega);simp! only [eM,Pd];refine ⟨uE m7 lq,uE m7 m7,.ev b f m,e,rfl,ok,by omega,fun r hr=>?_⟩;rw [hr.unique (Ld ok),if_neg (by omega)];simp! only [cD,cE];have cnt:AN (b+cw b f m a * f) (b+(cw b f m e-1) * f+1) f=(cw b f m e-cw b f m a).toNat:=by
    unfold AN;rw [if_pos (by omega)];have:b+(cw b f m e-1) * f+1-(b+cw b f m a * f)-1=(cw b f m e-1-cw b f m a) * f:=by rw [Int.sub_mul (cw b f m e-1)];omega
    rw [this,Int.mul_ediv_cancel _ (by omega)]
    congr 1;omega
   have small:(cw b f m e-cw b f m a).toNat<=2 ^ 24:=by
    have h4:(cw b f m e-1) * 1<=(cw b f m e-1) * f:=Int.mul_le_mul_of_nonneg_left o3 (by omega);have:cw b f m e-1<=10000000:=by omega
    have:(2:Nat) ^ 24=16777216:=by decide
    omega
   refine ⟨hf,by omega,by omega,by omega,by omega,by omega,by rw [cnt];exact small,?_⟩;rw [cnt,MH];exact q _ (Hv ok)
  | al mi days sdy =>
   simp! only [eM,Sf,Sg];refine ⟨uE sC lq,uE sC m7,mi,days,sdy,u,e,rfl,ok,u2,by omega,he,fun l hl=>q l ?_⟩;refine ⟨hl.rise,fun t=>?_⟩;rw [hl.mem]
   constructor
   ·rintro ⟨x,y,z⟩;exact ⟨by omega,y,z⟩
   ·rintro ⟨x,y,z⟩
    refine ⟨?_,y,z⟩
    by_cases w:t<u
    ·exact absurd z (u3 t x w)
    ·omega
def vF:dA:=cO ((bg Cp ((av (dC (.int 0)) ((av ((aY (wm fun i j=>.int (i-j)) ((bg mU ((av ((au 0)) ((av ((au 2)) (bq))))))) ((bg mU ((av ((au 0)) ((av ((au 1)) (bq))))))))) (bq)))))))
def JR:∀ds Q,p8 ds Q->vF { nx:=fun _=>Q .bX,rt:=fun d _=>Q d } (dq ["clock","start","end"] ds):=by
 rintro ds Q ⟨c,a,e,rfl,ok,ha,hae,q⟩;simp! only [vF];refine ⟨c,e,rfl,ok,fun n hn=>⟨c,a,rfl,ok,fun m hm=>?_⟩⟩;simp! only [Dl.aS];obtain ⟨l,hl⟩:=jG c a e;have:=Pf hm hn hl ha hae;rw [this,show max 0 ((l.length:Nat):Int)=(l.length:Nat) by omega];exact q l hl
def Qs:Ck->Prop
 | .tm size left o=>0<=size/\size<40/\0<=left/\left<40/\∀s,o=some s->0<=s/\s<9
 | .ev b f m=>0<=b/\b<40/\1<=f/\f<=12/\∀k,m=some k->0<=k/\k<9
 | .al mi days sdy=>0<=mi/\mi<40/\iH days/\(∀d∈days,0<=d/\d<7)/\iH sdy/\sdy.length<=3/\∀t∈sdy,0<=t/\t<=20000
def Qs.ok {c:Ck} (h:Qs c):Ok c:=by
 cases c with
 | tm size left o=>obtain ⟨a,b,c,d,e⟩:=h;exact ⟨c,by omega,fun s z=>by have:=e s z;omega⟩
 | ev b f m=>obtain ⟨a,b,c,d,e⟩:=h;exact ⟨a,by omega,c,by omega,fun s z=>by have:=e s z;omega⟩
 | al mi days sdy=>obtain ⟨a,b,c,d,e,f,g⟩:=h;exact ⟨a,by omega,c,d,e,by omega,fun t z=>by have:=g t z;omega⟩
def Bw (n:Nat):iH ((List.range n).map fun i=>0+((i:Nat):Int)):=by
 unfold iH;rw [List.pairwise_map];exact bO.imp fun {x y} h=>by omega
noncomputable def Bx (ns:List Int) (k:Int):List Int:=(List.range (drawn ns (k+4) 4).toNat).map fun i=>drawn ns (k+12+(0+((i:Nat):Int))) 14 * 1440+drawn ns (k+1) 40
noncomputable def Pg (ns:List Int) (k:Int):List Int:=((List.range 7).map fun i=>0+((i:Nat):Int)).filter fun d=>decide (drawn ns (k+5+d) 3=0)
noncomputable def yI (ns:List Int) (k:Int):Option Int:=if drawn ns (k+4) 2=0 then none else some (drawn ns (k+3) 9)
def yJ (ns:List Int) (k:Int) (c:Ck):Prop:=(drawn ns k 3=0/\c=.tm (drawn ns (k+1) 40) (drawn ns (k+2) 40) (yI ns k))\/(drawn ns k 3=1/\c=.ev (drawn ns (k+1) 40) (1+drawn ns (k+2) 12) (yI ns k)) \/
 (drawn ns k 3≠0/\drawn ns k 3≠1/\∃ms,iH ms/\(∀t,t∈ms<->t∈Bx ns k)/\c=.al (drawn ns (k+1) 40) (Pg ns k) ms)
def yJ.unique {ns:List Int}{k:Int}{c d:Ck} (h:yJ ns k c) (g:yJ ns k d):c=d:=by
 rcases h with ⟨h1,h2⟩ | ⟨h1,h2⟩ | ⟨h1,h2,ms,h3,h4,h5⟩ <;> rcases g with ⟨g1,g2⟩ | ⟨g1,g2⟩ | ⟨g1,g2,ns',g3,g4,g5⟩
 ·rw [h2,g2]
 ·omega
 ·exact absurd h1 g1
 ·omega
 ·rw [h2,g2]
 ·exact absurd h1 g2
 ·exact absurd g1 h1
 ·exact absurd g1 h2
 ·rw [h5,g5,wI h3 g3 fun t=>(h4 t).trans (g4 t).symm]
def HH {ns:List Int}{k:Int}:∀s,yI ns k=some s->0<=s/\s<9:=fun s e=>by
 unfold yI at e
 split at e
 ·cases e
 ·cases e;exact ⟨lh (by decide),lj (by decide)⟩
def yJ.drn {ns:List Int}{k:Int}{c:Ck} (h:yJ ns k c):Qs c:=by
 have o0:=lh (ns:=ns) (k:=k+1) (m:=40) (by decide);have o1:=lj (ns:=ns) (k:=k+1) (m:=40) (by decide);rcases h with ⟨h1,rfl⟩ | ⟨h1,rfl⟩ | ⟨h1,h2,ms,h3,h4,rfl⟩
 ·exact ⟨o0,o1,lh (by decide),lj (by decide),HH⟩
 ·have a0:=lh (ns:=ns) (k:=k+2) (m:=12) (by decide)
  have a1:=lj (ns:=ns) (k:=k+2) (m:=12) (by decide);exact ⟨o0,o1,by omega,by omega,HH⟩
 ·have n40:=lh (ns:=ns) (k:=k+4) (m:=4) (by decide)
  have n41:=lj (ns:=ns) (k:=k+4) (m:=4) (by decide);refine ⟨o0,o1,eL (Bw 7) _,fun d hd=>?_,h3,?_,fun t ht=>?_⟩
  ·unfold Pg at hd
   rw [List.mem_filter] at hd;obtain ⟨i,hi,rfl⟩:=ak.mp hd.1;rw [List.mem_range] at hi;omega
  ·have nd:ms.Nodup:=h3.imp fun {a b} h=>by omega
   refine ay (m6 nd fun t ht=>(h4 t).mp ht) ?_;unfold Bx;rw [List.length_map,List.length_range];omega
  ·obtain ⟨i,hi,rfl⟩:=ak.mp ((h4 t).mp ht)
   have h1:=lh (ns:=ns) (k:=k+12+(0+((i:Nat):Int))) (m:=14) (by decide);have h2:=lj (ns:=ns) (k:=k+12+(0+((i:Nat):Int))) (m:=14) (by decide);omega
open Classical in
noncomputable def MI (ns:List Int) (k:Int):Ck:=if h:∃c,yJ ns k c then choose h else .tm 0 0 none
def Fo {ns:List Int}{k:Int}{c:Ck} (h:yJ ns k c):c=MI ns k:=by
 unfold MI;rw [dif_pos ⟨c,h⟩];exact h.unique (cK (⟨c,h⟩:∃c,yJ ns k c))
def Ph (ns:List Int) (k:Int):Qs (MI ns k):=by
 unfold MI
 split
 ·rename_i h;exact (cK h).drn
 ·exact ⟨by decide,by decide,by decide,by decide,fun s e=>nomatch e⟩
def om {ns:List Int}{k m:Int}{Q:D->Prop} (hl:ns.length<=63) (hk:0<=k) (hm:0<m) (q:∀x,x=drawn ns k m->0<=x->x<m->Q (.int x)):cz [Bt ns,.int k,.int m] Q :=
 ⟨ns,k,m,rfl,hl,hk,hm,q _ rfl (lh hm) (lj hm)⟩
def nN:xA:=fun ds Q=>∃ns k,ds=[Bt ns,.int k]/\ns.length<=63/\0<=k/\Q (eM (MI ns k))
def HI:∀ds Q,nN ds Q->ds.length=2:=by rintro ds Q ⟨_,_,rfl,_⟩;rfl
def uX:dA:=cO ((nG ((av (dC (.str "alarm")) ((av ((au 3)) ((av ((au 5)) ((av ((bg ue ((av ((bg uk ((av ((au 6)) (bq))))) (bq))))) (bq)))))))))))
def uY:dA:=aS (dH 6 ((iF 1 (m4 ((av ((bg cz ((av ((au 0)) ((av ((aY (rF eA) ((au 1)) (dC (.int 4)))) ((av (dC (.int 4)) (bq))))))))) (bq)))) (gc 7) (Ct) ((aY (rF eA) ((aY (mS mW fun i j=>.int (i * j)) ((bg cz ((av ((au 0)) ((av ((aY (rF eA) ((aY (rF eA) ((au 1)) (dC (.int 12)))) ((au 7)))) ((av (dC (.int 14)) (bq))))))))) (dC (.int 1440)))) ((au 3))))))) (uX)
def uZ:dA:=aS (dH 5 ((bg ue ((av ((iF 1 (m4 ((av (dC (.int 7)) (bq)))) (gc 7) (dB (aY dZ ((bg cz ((av ((au 0)) ((av ((aY (rF eA) ((aY (rF eA) ((au 1)) (dC (.int 5)))) ((au 7)))) ((av (dC (.int 3)) (bq))))))))) (dC (.int 0)))) ((au 7)))) (bq)))))) (uY)
def u4:dA:=aS (dN (dB (aY dZ ((au 2)) (dC (.int 1)))) (cO ((nG ((av (dC (.str "every")) ((av ((au 3)) ((av ((aY (rF eA) (dC (.int 1)) ((bg cz ((av ((au 0)) ((av ((aY (rF eA) ((au 1)) (dC (.int 2)))) ((av (dC (.int 12)) (bq))))))))))) ((av ((au 4)) (bq)))))))))))) (cF)) (uZ)
def u5:dA:=aS (dN (dB (aY dZ ((au 2)) (dC (.int 0)))) (cO ((nG ((av (dC (.str "timer")) ((av ((au 3)) ((av ((bg cz ((av ((au 0)) ((av ((aY (rF eA) ((au 1)) (dC (.int 2)))) ((av (dC (.int 40)) (bq))))))))) ((av ((au 4)) (bq)))))))))))) (cF)) (u4)
def u6:dA:=aS (dH 4 ((aY (rF gE) ((uC ((av (dC .bX) ((av ((bg cz ((av ((au 0)) ((av ((aY (rF eA) ((au 1)) (dC (.int 3)))) ((av (dC (.int 9)) (bq))))))))) (bq))))))) ((bg cz ((av ((au 0)) ((av ((aY (rF eA) ((au 1)) (dC (.int 4)))) ((av (dC (.int 2)) (bq)))))))))))) (u5)
def u7:dA:=aS (dH 3 ((bg cz ((av ((au 0)) ((av ((aY (rF eA) ((au 1)) (dC (.int 1)))) ((av (dC (.int 40)) (bq)))))))))) (u6)
def sH:dA:=aS (dH 2 ((bg cz ((av ((au 0)) ((av ((au 1)) ((av (dC (.int 3)) (bq)))))))))) (u7)
def YE {x:D}{z:Int} (h0:0<=z) (h1:z<2):vU [D.bX,x] z=some (if z=0 then D.bX else x):=by
 by_cases h:z=0
 ·subst h;rfl
 ·have:z=1:=by omega
  subst this;rfl
def HJ:∀ds Q,nN ds Q->sH { nx:=fun _=>Q .bX,rt:=fun d _=>Q d } (dq ["_law_script","_law_at","_law_way","_law_one","_law_last","_law_days","_law_still"] ds):=by
 rintro ds Q ⟨ns,k,rfl,hl,hk,q⟩;simp! only [sH,u7,u6,u5];refine om hl hk (by decide) fun way ew w0 w1=>?_
 refine om hl (by omega) (by decide) fun one Sk o0 o1=>?_
 refine om hl (by omega) (by decide) fun la ela l0 l1=>?_
 refine om hl (by omega) (by decide) fun z ez z0 z1=>?_
 simp! only [Dl.aS];refine ⟨_,YE z0 z1,?_⟩;have eo:(if z=0 then D.bX else D.int la)=oi (yI ns k):=by
  unfold yI;rw [<-ez,<-ela]
  by_cases h:z=0
  ·rw [if_pos h,if_pos h];rfl
  ·rw [if_neg h,if_neg h];rfl
 rw [eo];refine ku (fun hw=>?_) (fun hw=>?_)
 ·refine om hl (by omega) (by decide) fun left el a0 a1=>?_
  have:=Fo (ns:=ns) (k:=k) (c:=.tm one left (yI ns k)) (.inl ⟨by omega,by rw [Sk,el]⟩);rw [<-this] at q;exact q
 simp! only [u4];refine ku (fun hw2=>?_) (fun hw2=>?_)
 ·refine om hl (by omega) (by decide) fun far el a0 a1=>?_
  simp! only [Dl.aS];have:=Fo (ns:=ns) (k:=k) (c:=.ev one (1+far) (yI ns k)) (.inr (.inl ⟨by omega,by rw [Sk,el]⟩));rw [<-this] at q;exact q
 simp! only [uZ,uY];refine gA (fC 0 7) (qR fun d=>decide (drawn ns (k+5+d) 3=0)) (fun Q h=>?_) (fun d hd=>?_) ?_ ?_
 ·simp! only [Dl.aS]
  exact ⟨by decide,by decide,h⟩
 ·rw [dP] at hd
  obtain ⟨x,hx,rfl⟩:=ak.mp hd;obtain ⟨i,hi,rfl⟩:=ak.mp hx;simp! only [Dl.aS];refine ⟨ns,_,_,rfl,hl,by omega,by decide,?_⟩;simp! only [Dl.aS];exact ku (fun h=>kG (by simpa using h)) (fun h=>jE (by simpa using h))
 ·refine ay (aJ ..) ?_
  simp only [fC,List.length_map,List.length_range]
  decide
 rw [dP,gZ];simp! only [Dl.aS];obtain ⟨n4,e4⟩ : ∃n,n=drawn ns (k+4) 4:=⟨_,rfl⟩;have n40:0<=n4:=by rw [e4];exact lh (by decide)
 have n41:n4<4:=by rw [e4];exact lj (by decide)
 refine gA (fC 0 n4.toNat) (Hy fun j=>.int (drawn ns (k+12+j) 14 * 1440+one)) (fun Q h=>?_) (fun d hd=>?_) ?_ ?_
 ·simp! only [Dl.aS]
  refine ⟨ns,_,_,rfl,hl,by omega,by decide,?_⟩;simp! only [<-e4];exact ⟨by omega,by omega,h⟩
 ·rw [dP] at hd
  obtain ⟨x,hx,rfl⟩:=ak.mp hd;obtain ⟨i,hi,rfl⟩:=ak.mp hx;simp! only [Dl.aS];refine ⟨ns,_,_,rfl,hl,by omega,by decide,?_⟩;simp! only [Dl.aS];exact ⟨.inr ⟨by decide,by decide⟩,rfl⟩
 ·refine ay (aJ ..) ?_
  simp only [fC,List.length_map,List.length_range];exact ay (show n4.toNat<=4 by omega) (by decide)
 rw [dP,ix];have es:List.map (fun j=>D.int (drawn ns (k+12+j) 14 * 1440+one)) ((List.range n4.toNat).map fun i=>0+((i:Nat):Int))=iL ((List.range n4.toNat).map fun i=>drawn ns (k+12+(0+((i:Nat):Int))) 14 * 1440+one):=by
  unfold iL;rw [List.map_map,List.map_map];rfl
 rw [es];have esl:((List.range n4.toNat).map fun i=>drawn ns (k+12+(0+((i:Nat):Int))) 14 * 1440+one)=Bx ns k:=by rw [e4,Sk];rfl
 have Tj:(Bx ns k).length<=3:=by rw [<-esl,List.length_map,List.length_range];omega
 rw [esl];simp! only [uX];refine ⟨Bx ns k,xF _,by omega,fun ms r1 r2=>?_⟩;have:=Fo (ns:=ns) (k:=k) (c:=.al one (Pg ns k) ms) (.inr (.inr ⟨by omega,by omega,ms,r1,r2,by rw [Sk]⟩));rw [<-this] at q;exact q
end zX
namespace zX
open PySem L2 Dl
def okAt (o:Option Int) (now:Int):Prop:=∀s,o=some s->s<=now
def hI:xA:=fun ds Q=>∃o now,ds=[oi o,.int now]/\okAt o now/\Q .bX
def By:∀ds Q,hI ds Q->ds.length=2:=by rintro ds Q ⟨_,_,rfl,_⟩;rfl
def jZ:dA:=dN (wb (dB (aY qQ ((au 0)) (dC .bX))) (dB (aY (wm fun i j=>.bl (decide (i<j))) ((au 1)) ((au 0))))) (lP) (cF)
def Bz:∀ds Q,hI ds Q->jZ { nx:=fun _=>Q .bX,rt:=fun d _=>Q d } (dq ["earlier","now"] ds):=by
 rintro ds Q ⟨o,now,rfl,h,q⟩;cases o with
 | none=>simp! only [jZ,cD,cE];exact q
 | some s =>
  have:=h s rfl;simp! only [jZ,cD,cE];rw [if_neg (by simpa using this)];exact q
end zX
namespace zX
open PySem L2 Dl Rg
theorem uo (i:Nat):([i]:List Nat).Nodup=True:=eq_true (by simp)
def dz {n:Nat} (h:n<=10000000):n<sizeLine:=by rw [sizeLine_eq];omega
structure Hs where
 re:Int
 cl:List (Str×Ck)
 sl:Bool
noncomputable def kc (p:Str×Ck):Key×D:=(Sum.inr p.1,eM p.2)
noncomputable def Hs.fs (h:Hs):List (Str×Fl):=[("reached",.sh (.int h.re)),("clocks",.dc (h.cl.map kc)),("asleep",.sh (.bl h.sl))]
noncomputable def Hs.fz (h:Hs) (q:Nat):List (Str×Fl):=[("reached",.sh (.int h.re)),("clocks",.fz q (h.cl.map kc)),("asleep",.sh (.bl h.sl))]
section
variable (h:Hs) (q:Nat)
theorem Hs.Pj:h.fs.lookup ("reached":Str)=some (.sh (.int h.re)):=rfl
theorem Hs.Fp:h.fs.lookup ("clocks":Str)=some (.dc (h.cl.map kc)):=rfl
theorem Hs.Pl:h.fs.lookup ("asleep":Str)=some (.sh (.bl h.sl)):=rfl
theorem Hs.VB:(h.fz q).lookup ("reached":Str)=some (.sh (.int h.re)):=rfl
theorem Hs.MJ:(h.fz q).lookup ("clocks":Str)=some (.fz q (h.cl.map kc)):=rfl
theorem Hs.ET:(h.fs.length<999)=True:=eq_true (by show 3<999;decide)
theorem Hs.YF (l:List (Str×Ck)):fN "clocks" (.dc (l.map kc)) h.fs=Hs.fs { h with cl:=l }:=rfl
theorem Hs.VC:fN "clocks" (.fz q (h.cl.map kc)) h.fs=h.fz q:=rfl
theorem Hs.Pm:fN "clocks" (.dc (h.cl.map kc)) (h.fz q)=h.fs:=rfl
theorem Hs.YG (x:Int):fN "reached" (.sh (.int x)) h.fs=Hs.fs { h with re:=x }:=rfl
theorem Hs.CC:h.fs.lookup ("refuse_asleep":Str)=none:=rfl
theorem Hs.Pn:h.fs.lookup ("refuse_unknown":Str)=none:=rfl
theorem Hs.Ts:h.fs.lookup ("put":Str)=none:=rfl
theorem Hs.JS:h.fs.lookup ("drop":Str)=none:=rfl
theorem Hs.Le:h.fs.lookup ("clock":Str)=none:=rfl
theorem Hs.JT:h.fs.lookup ("tick":Str)=none:=rfl
theorem Hs.YH:h.fs.lookup ("next_due":Str)=none:=rfl
theorem Hs.Lf:h.fs.lookup ("sleep":Str)=none:=rfl
theorem Hs.JU:h.fs.lookup ("wake":Str)=none:=rfl
theorem Hs.Lg:h.fs.lookup ("names":Str)=none:=rfl
theorem Hs.HL:h.fs.lookup ("moment":Str)=none:=rfl
theorem Hs.YI (x:Bool):fN "asleep" (.sh (.bl x)) h.fs=Hs.fs { h with sl:=x }:=rfl
end
noncomputable def p9 (l:List (Str×Ck)) (x:Str):Option Ck:=(l.find? fun p=>decide (p.1=x)).map (·.2)
noncomputable def zD (l:List (Str×Ck)) (x:Str) (c:Ck):List (Str×Ck):=if (l.any fun p=>decide (p.1=x))=true then l.map (fun p=>if p.1=x then (p.1,c) else p) else l++[(x,c)]
noncomputable def yK (l:List (Str×Ck)) (x:Str):List (Str×Ck):=l.filter fun p=>decide (p.1≠x)
def Aa {x y:Str}:((Sum.inr x:Key)=Sum.inr y)<->x=y:=⟨fun h=>by injection h,fun h=>by rw [h]⟩
theorem j6 (x:Str):∀l:List (Str×Ck),lV (l.map kc) (.inr x)=(p9 l x).map eM
 | []=>rfl
 | p::r=>by
  by_cases h:p.1=x
  ·simp [lV,p9,kc,h]
  ·have ih:=j6 x r
   have h':¬(Sum.inr p.1:Key)=.inr x:=fun z=>h (Aa.mp z)
   unfold lV at ih ⊢;unfold p9 at ih ⊢;rw [List.map_cons,List.find?_cons_of_neg (by simpa [kc] using h'),List.find?_cons_of_neg (by simpa using h)];exact ih
theorem Po (x:Str):∀l:List (Str×Ck),((l.map kc).any fun kv=>decide (kv.1=.inr x))=l.any fun p=>decide (p.1=x)
 | []=>rfl
 | p::r=>by
  rw [List.map_cons,List.any_cons,List.any_cons,Po x r]
  congr 1
  exact decide_eq_decide.mpr Aa
def Lh (x:Str) (c:Ck) (l:List (Str×Ck)):putD (l.map kc) (.inr x) (eM c)=(zD l x c).map kc:=by
 unfold putD zD;rw [Po]
 split
 ·rw [List.map_map,List.map_map]
  refine df fun p _=>?_
  show (if (kc p).1=Sum.inr x then _ else _)=kc (if p.1=x then _ else _);have e:(kc p).1=Sum.inr x<->p.1=x:=Aa
  by_cases h:p.1=x
  ·rw [if_pos h,if_pos (e.mpr h)];rfl
  ·rw [if_neg h,if_neg (fun z=>h (e.mp z))]
 ·rw [List.map_append];rfl
theorem BA (x:Str):∀l:List (Str×Ck),Dr (l.map kc) (.inr x)=(yK l x).map kc
 | []=>rfl
 | p::r=>by
  have ih:=BA x r;unfold Dr at ih ⊢;unfold yK at ih ⊢
  by_cases h:p.1=x
  ·rw [List.map_cons,List.filter_cons_of_neg (by simpa [kc] using h),List.filter_cons_of_neg (by simpa using h)];exact ih
  ·have h':¬(Sum.inr p.1:Key)=.inr x:=fun z=>h (Aa.mp z)
   rw [List.map_cons,List.filter_cons_of_pos (by simpa [kc] using h'),List.filter_cons_of_pos (by simpa using h),List.map_cons,ih]
noncomputable def cW (c:Ck) (a e:Int):List Int:=Classical.choose (jG c a e)
def iA (c:Ck) (a e:Int):cI c a e (cW c a e):=cK (jG c a e)
def xY {c:Ck}{a e:Int}{l:List Int} (h:cI c a e l):l=cW c a e:=h.unique (iA c a e)
open Classical in
noncomputable def eD (c:Ck) (t:Int):Option Int:=if h:∃r,fh c t r then choose h else none
def HM {c:Ck}{t:Int}{r:Option Int} (h:fh c t r):r=eD c t:=by
 unfold eD;rw [dif_pos ⟨r,h⟩];exact h.unique (cK (⟨r,h⟩:∃r,fh c t r))
def KS (ms:List (List Key)):Prop:=ms.Pairwise fun a b=>klt b a=false
noncomputable def eP (cl:List (Str×Ck)) (a e:Int):List (List Key):=cl.flatMap fun p=>(cW p.2 a e).map fun t=>[.inl t,.inr p.1]
noncomputable def nO (a e:Int) (p:Str×Ck):Option (List Key):=(cW p.2 a e).getLast?.map fun t=>[.inr p.1,.inl t,.inl ((cW p.2 a e).length:Nat)]
noncomputable def iO (cl:List (Str×Ck)) (a e:Int):List (List Key):=cl.filterMap (nO a e)
def BC {cl:List (Str×Ck)}{a e:Int}:∀k∈eP cl a e,A7 k=[false,true]:=fun k hk=>by
 obtain ⟨p,_,hk⟩:=List.mem_flatMap.mp hk;obtain ⟨t,_,rfl⟩:=ak.mp hk
 rfl
def BD {cl:List (Str×Ck)}{a e:Int}:∀k∈iO cl a e,A7 k=[true,false,false]:=fun k hk=>by
 obtain ⟨p,_,hk⟩:=bC.mp hk;unfold nO at hk;cases q:(cW p.2 a e).getLast? with
 | none=>rw [q] at hk;cases hk
 | some t=>rw [q] at hk;cases hk;rfl
theorem xZ {sh:List Bool}:∀{l m:List (List Key)},l.Perm m->(∀k∈l,A7 k=sh)->KS l->KS m->l=m
 | [],m,h,_,_,_=>by rw [List.nil_perm.mp h]
 | a::l,[],h,_,_,_=>by cases h.length_eq
 | a::l,b::m,h,hs,h1,h2=>by
  have g1:=aW.mp h1;have g2:=aW.mp h2;have sa:A7 a=sh:=hs a aj;have sb:A7 b=sh:=hs b (h.mem_iff.mpr aj);have e:a=b:=by
   rcases aE.mp (h.mem_iff.mp (aj (a:=a) (l:=l))) with z | z
   ·exact z
   ·rcases aE.mp (h.mem_iff.mpr (aj (a:=b) (l:=m))) with w | w
    ·exact w.symm
    ·exact Ox a b (sa.trans sb.symm) (g2.1 a z) (g1.1 b w)
  subst e;rw [xZ (List.Perm.cons_inv h) (fun k hk=>hs k (List.mem_cons_of_mem _ hk)) g1.2 g2.2]
def JV {cl cm:List (Str×Ck)} (h:cl.Perm cm) (a e:Int):(eP cl a e).Perm (eP cm a e):=h.flatMap_right _
def JW {cl cm:List (Str×Ck)} (h:cl.Perm cm) (a e:Int):(iO cl a e).Perm (iO cm a e):=h.filterMap _
def x5 (cl cm:List (Str×Ck)) (a e:Int):eP (cl++cm) a e=eP cl a e++eP cm a e:=List.flatMap_append ..
def uq (cl cm:List (Str×Ck)) (a e:Int):iO (cl++cm) a e=iO cl a e++iO cm a e:=List.filterMap_append ..
def MK {cl:List (Str×Ck)}{a e:Int}:(eP cl a e).length<=cl.length * (e-a).toNat:=by
 induction cl with
 | nil=>simp [eP]
 | cons p r ih =>
  have e1:eP (p::r) a e=((cW p.2 a e).map fun t=>[.inl t,.inr p.1])++eP r a e:=by unfold eP;rw [List.flatMap_cons]
  have:=DQ (iA p.2 a e);rw [e1,List.length_append,List.length_map,List.length_cons,Nat.add_mul];omega
def mE (C:Nat):Ca:=fun as Q=>∃now:Int,as=[.o C [],.v (.int now)]/\Q .bX [.o C (Hs.fs ⟨now,[],false⟩),.v (.int now)]
def bV (C:Nat):Ca:=fun as Q=>∃h:Hs,as=[.o C h.fs]/\h.sl=false/\Q .bX [.o C h.fs]
def dI (C:Nat):Ca:=fun as Q=>∃(h:Hs) (x:Str) (c:Ck),as=[.o C h.fs,.v (.str x)]/\p9 h.cl x=some c/\Q .bX [.o C h.fs,.v (.str x)]
def hV (C:Nat):Ca:=fun as Q=>∃(h:Hs) (x:Str) (c:Ck),as=[.o C h.fs,.v (.str x),.v (eM c)]/\h.sl=false/\h.cl.length<1000/\Q .bX [.o C (Hs.fs { h with cl:=zD h.cl x c }),.v (.str x),.v (eM c)]
def iP (C:Nat):Ca:=fun as Q=>∃(h:Hs) (x:Str) (c:Ck),as=[.o C h.fs,.v (.str x)]/\p9 h.cl x=some c/\Q (eM c) [.o C h.fs,.v (.str x)]
def iB (C:Nat):Ca:=fun as Q=>∃(h:Hs) (x:Str) (c:Ck),as=[.o C h.fs,.v (.str x)]/\h.sl=false/\p9 h.cl x=some c/\Q .bX [.o C (Hs.fs { h with cl:=yK h.cl x }),.v (.str x)]
def iC (C:Nat):Ca:=fun as Q=>∃(h:Hs) (now:Int),as=[.o C h.fs,.v (.int now)]/\h.sl=false/\h.re<=now/\now<=10000000/\now<=h.re+10000/\h.cl.length<=100/\(∀p∈h.cl,Ok p.2)/\(eP h.cl h.re now).length<64 /\
 ∀ms,ms.Perm (eP h.cl h.re now)->KS ms->Q (.lst (ms.map tD)) [.o C (Hs.fs { h with re:=now }),.v (.int now)]
def mF (C:Nat):Ca:=fun as Q=>∃(h:Hs) (now:Int),as=[.o C h.fs,.v (.int now)]/\h.sl=true/\-1<=h.re/\h.re<=now/\now<=10000000/\h.cl.length<=60/\(∀p∈h.cl,Ok p.2) /\
 ∀ms,ms.Perm (iO h.cl h.re now)->KS ms->Q (.lst (ms.map tD)) [.o C (Hs.fs { h with re:=now,sl:=false }),.v (.int now)]
def fS (C:Nat):Ca:=fun as Q=>∃h:Hs,as=[.o C h.fs]/\h.sl=false/\Q .bX [.o C (Hs.fs { h with sl:=true })]
def j7 (C:Nat):Ca:=fun as Q=>∃h:Hs,as=[.o C h.fs]/\Q (.int h.re) [.o C h.fs]
def kU (C:Nat):Ca:=fun as Q=>∃h:Hs,as=[.o C h.fs]/\h.cl.length<60/\∀ms:List Str,ms.Perm (h.cl.map (·.1))->Il ms->Q (.lst (ms.map .str)) [.o C h.fs]
noncomputable def Fq (cl:List (Str×Ck)) (t m:Int):List Str:=(cl.filter fun p=>decide (eD p.2 t=some m)).map (·.1)
def gk (C:Nat):Ca:=fun as Q=>∃h:Hs,as=[.o C h.fs]/\h.re<=10000000/\h.cl.length<60/\(∀p∈h.cl,Ok p.2)/\((∀p∈h.cl,eD p.2 h.re=none)->Q .bX [.o C h.fs]) /\
 ∀m,(∃p∈h.cl,eD p.2 h.re=some m)->(∀p∈h.cl,∀u,eD p.2 h.re=some u->m<=u)->∀ns:List Str,ns.Perm (Fq h.cl h.re m)->Il ns->Q (.tup [.int m,.lst (ns.map .str)]) [.o C h.fs]
def Fs (C:Nat):∀as Q,mE C as Q->as.length=2:=by rintro as Q ⟨_,rfl,_⟩;rfl
def rJ (C:Nat):∀as Q,bV C as Q->as.length=1:=by rintro as Q ⟨_,rfl,_⟩;rfl
def qb (C:Nat):∀as Q,dI C as Q->as.length=2:=by rintro as Q ⟨_,_,_,rfl,_⟩;rfl
def HN (C:Nat):∀as Q,hV C as Q->as.length=3:=by rintro as Q ⟨_,_,_,rfl,_⟩;rfl
def CD (C:Nat):∀as Q,iP C as Q->as.length=2:=by rintro as Q ⟨_,_,_,rfl,_⟩;rfl
def Ft (C:Nat):∀as Q,iB C as Q->as.length=2:=by rintro as Q ⟨_,_,_,rfl,_⟩;rfl
def Fu (C:Nat):∀as Q,iC C as Q->as.length=2:=by rintro as Q ⟨_,_,rfl,_⟩;rfl
def Fv (C:Nat):∀as Q,mF C as Q->as.length=2:=by rintro as Q ⟨_,_,rfl,_⟩;rfl
def CF (C:Nat):∀as Q,fS C as Q->as.length=1:=by rintro as Q ⟨_,rfl,_⟩;rfl
def BE (C:Nat):∀as Q,j7 C as Q->as.length=1:=by rintro as Q ⟨_,rfl,_⟩;rfl
def CG (C:Nat):∀as Q,kU C as Q->as.length=1:=by rintro as Q ⟨_,rfl,_⟩;rfl
def x6 (C:Nat):∀as Q,gk C as Q->as.length=1:=by rintro as Q ⟨_,rfl,_⟩;rfl
def qc (af:Nat):dA:=aS (yz af 0 "reached" ((au 1))) (aS (Ol af 0 "clocks") (yz af 0 "asleep" (dC (.bl false))))
def Fw (C:Nat):∀(hs:Nat->Nat) as Q,mE C as Q->qc C { nx:=fun Z=>Q .bX (dO hs 0 as Z),rt:=fun d Z=>Q d (dO hs 0 as Z) } (dt ["self","now"] hs as):=by
 rintro hs as Q ⟨now,rfl,q⟩;simp! only [qc];exact ⟨by decide,(by show (1:Nat)<999;decide),(by show (2:Nat)<999;decide),q⟩
def gO (af:Nat):dA:=dN (nJ ((dX ((uD af 0 "asleep"))))) (lP) (cF)
def rK (C:Nat):∀(hs:Nat->Nat) as Q,bV C as Q->gO C { nx:=fun Z=>Q .bX (dO hs 0 as Z),rt:=fun d Z=>Q d (dO hs 0 as Z) } (dt ["self"] hs as):=by
 rintro hs as Q ⟨h,rfl,hs',q⟩;simp! only [gO,Hs.Pl,hs'];exact q
def gr (af:Nat):dA:=dN (Om false af 0 "clocks" ((rG 1))) (lP) (cF)
def qe (C:Nat):∀(hs:Nat->Nat) as Q,dI C as Q->gr C { nx:=fun Z=>Q .bX (dO hs 0 as Z),rt:=fun d Z=>Q d (dO hs 0 as Z) } (dt ["self","name"] hs as):=by
 rintro hs as Q ⟨h,x,c,rfl,hc,q⟩;simp! only [gr,Hs.Fp];rw [j6,hc];simp! only [Option.map_some,Option.isSome_some];exact q
def sI (af:Nat):dA:=aS (qP ((fb 0 af "refuse_asleep" (bV af) (fc)))) (KJ af 0 "clocks" ((rG 2)) ((rG 1)))
def HP (C:Nat):∀(hs:Nat->Nat) as Q,hV C as Q->sI C { nx:=fun Z=>Q .bX (dO hs 0 as Z),rt:=fun d Z=>Q d (dO hs 0 as Z) } (dt ["self","name","clock"] hs as):=by
 rintro hs as Q ⟨h,x,c,rfl,hs',hl,q⟩;simp! only [sI,Hs.CC,uo];refine ⟨h,rfl,hs',?_⟩;simp! only [Hs.Fp];refine ⟨by rw [List.length_map];exact dz (by omega),?_⟩;rw [Lh,Hs.YF];exact q
def oo (af:Nat):dA:=aS (qP ((fb 0 af "refuse_unknown" (dI af) ((dk ((au 1)) (fc)))))) (cO ((dX ((KI af 0 "clocks" ((rG 1)))))))
def CH (C:Nat):∀(hs:Nat->Nat) as Q,iP C as Q->oo C { nx:=fun Z=>Q .bX (dO hs 0 as Z),rt:=fun d Z=>Q d (dO hs 0 as Z) } (dt ["self","name"] hs as):=by
 rintro hs as Q ⟨h,x,c,rfl,hc,q⟩;simp! only [oo,Hs.Pn,uo];refine ⟨h,x,c,rfl,hc,?_⟩;simp! only [Hs.Fp];exact ⟨_,_,rfl,by rw [j6,hc];rfl,q⟩
def qf (af:Nat):dA:=aS (qP ((fb 0 af "refuse_asleep" (bV af) (fc)))) (aS (qP ((fb 0 af "refuse_unknown" (dI af) ((dk ((au 1)) (fc)))))) (KL af 0 "clocks" ((rG 1))))
def Fx (C:Nat):∀(hs:Nat->Nat) as Q,iB C as Q->qf C { nx:=fun Z=>Q .bX (dO hs 0 as Z),rt:=fun d Z=>Q d (dO hs 0 as Z) } (dt ["self","name"] hs as):=by
 rintro hs as Q ⟨h,x,c,rfl,hs',hc,q⟩;simp! only [qf,Hs.Pn,Hs.CC,uo];refine ⟨h,rfl,hs',?_⟩;simp! only [Hs.Pn,uo];refine ⟨h,x,c,rfl,hc,?_⟩;simp! only [Hs.Fp];refine ⟨_,_,rfl,by rw [j6,hc];rfl,?_⟩;rw [BA,Hs.YF];exact q
def oq (af:Nat):dA:=aS (qP ((fb 0 af "refuse_asleep" (bV af) (fc)))) (yz af 0 "asleep" (dC (.bl true)))
def CI (C:Nat):∀(hs:Nat->Nat) as Q,fS C as Q->oq C { nx:=fun Z=>Q .bX (dO hs 0 as Z),rt:=fun d Z=>Q d (dO hs 0 as Z) } (dt ["self"] hs as):=by
 rintro hs as Q ⟨h,rfl,hs',q⟩;simp! only [oq,Hs.CC,uo];refine ⟨h,rfl,hs',?_⟩;simp! only [Hs.ET,Hs.YI];exact q
def nj (af:Nat):dA:=cO ((dX ((uD af 0 "reached"))))
def BF (C:Nat):∀(hs:Nat->Nat) as Q,j7 C as Q->nj C { nx:=fun Z=>Q .bX (dO hs 0 as Z),rt:=fun d Z=>Q d (dO hs 0 as Z) } (dt ["self"] hs as):=by
 rintro hs as Q ⟨h,rfl,q⟩;simp! only [nj,Hs.Pj];exact q
def ou (af:Nat):dA:=cO ((E1 af 0 "clocks"))
def CJ (C:Nat):∀(hs:Nat->Nat) as Q,kU C as Q->ou C { nx:=fun Z=>Q .bX (dO hs 0 as Z),rt:=fun d Z=>Q d (dO hs 0 as Z) } (dt ["self"] hs as):=by
 rintro hs as Q ⟨h,rfl,hl,q⟩;simp! only [ou,Hs.Fp];refine ⟨h.cl.map (·.1),?_,by rw [List.length_map];omega,fun ms p1 p2=>q ms p1 p2⟩;rw [List.map_map,List.map_map];rfl
def x8 {cl:List (Str×Ck)}{j:Nat}{d:D} (h:(jV (cl.map kc))[j]?=some d):∃p,cl[j]?=some p/\d=.tup [.str p.1,eM p.2]:=by
 unfold jV at h;rw [List.getElem?_map,List.getElem?_map] at h;cases e:cl[j]? with
 | none=>rw [e] at h;cases h
 | some p=>rw [e] at h;cases h;exact ⟨p,rfl,rfl⟩
def x9 (cl:List (Str×Ck)):(jV (cl.map kc)).length=cl.length:=by simp [jV]
def take_snoc {α:Type}{l:List α}{j:Nat}{p:α} (h:l[j]?=some p):l.take (j+1)=l.take j++[p]:=by rw [List.take_add_one,h];rfl
def ya (p:Str×Ck) (a e:Int):eP [p] a e=(cW p.2 a e).map fun t=>[.inl t,.inr p.1]:=by unfold eP;rw [List.flatMap_cons,List.flatMap_nil,List.append_nil]
def ur (p:Str×Ck) (a e:Int):iO [p] a e=(nO a e p).toList:=by
 unfold iO;cases q:nO a e p <;> simp [List.filterMap_cons,q]
def sJ (af:Nat):dA:=cO ((bg sq ((av ((au 2)) (bq)))))
def sL (af:Nat):dA:=LO 2 (aS (yz af 0 "reached" ((au 1))) ((sJ af)))
def sM (af:Nat):dA:=aS (WO af 0 "clocks" (Cm (uj af 0 "clocks") (pS 3 4) (Rc 2 ((iF 1 (jm ((bg zZ ((av ((au 4)) ((av ((dX ((uD af 0 "reached")))) ((av ((au 1)) (bq)))))))))) (gc 5) (Ct) ((nG ((av ((au 5)) ((av ((au 3)) (bq)))))))))))) ((sL af))
def sN (af:Nat):dA:=aS (LM 2 (bq)) ((sM af))
def sO (af:Nat):dA:=aS (qP ((bg hI ((av ((dX ((uD af 0 "reached")))) ((av ((au 1)) (bq)))))))) ((sN af))
def qg (af:Nat):dA:=aS (qP ((fb 0 af "refuse_asleep" (bV af) (fc)))) ((sO af))
def Fy (C:Nat):∀(hs:Nat->Nat) as Q,iC C as Q->qg C { nx:=fun Z=>Q .bX (dO hs 0 as Z),rt:=fun d Z=>Q d (dO hs 0 as Z) } (dt ["self","now","told","name","clock"] hs as):=by
 rintro hs as Q ⟨h,now,rfl,Tj,Tt,YJ,hgap,Zd,dD,yy,q⟩;simp! only [qg,sO,sN,sM,sL,sJ,Hs.CC,uo];refine ⟨h,rfl,Tj,?_⟩;simp! only [Hs.Pj];refine ⟨some h.re,now,rfl,fun s e=>by cases e;exact Tt,?_⟩;simp! only [Hs.Fp,Hs.VC];intro fq;refine Ey (fun j Z=>∃(s3 s4:Sl),Z=[.ob (some (hs 0)) C (h.fz fq),.sh (.int now),.ow ((eP (h.cl.take j) h.re now).map tD),s3,s4]/\Ta s3=true/\Ta s4=true) (jV (h.cl.map kc)) _ (fun Q h1=>?_) ⟨.no,.no,rfl,rfl,rfl⟩ ?_ ?_
 ·simp! only [Hs.MJ];exact h1
 ·rintro j d Z hj ⟨s3,s4,rfl,n3,n4⟩
  obtain ⟨p,hp,rfl⟩:=x8 hj;have Zl:=dD p (bf hp);simp! only [Dl.aS];have hl:=iA p.2 h.re now;have lr:=DQ hl;have small:(eP (h.cl.take (j+1)) h.re now).length<=1000000:=by
   have:=MK (cl:=h.cl.take (j+1)) (a:=h.re) (e:=now);have l1:(h.cl.take (j+1)).length<=100:=by rw [List.length_take];omega
   have:(h.cl.take (j+1)).length * (now-h.re).toNat<=100 * 10000:=Nat.mul_le_mul l1 (by omega);omega
  rw [take_snoc hp,x5,ya,List.length_append,List.length_map] at small;refine gA (iL (cW p.2 h.re now)) (Hy fun t=>tD [.inl t,.inr p.1]) (fun Q h1=>?_) (fun d hd=>?_) ?_ ?_
  ·simp! only [Hs.VB]
   refine ⟨p.2,h.re,now,rfl,Zl,by omega,YJ,fun l' hl'=>?_⟩;simp! only [Dl.aS];rw [xY hl'];exact h1
  ·obtain ⟨t,_,rfl⟩:=ak.mp hd
   simp! only [Dl.aS]
   rfl
  ·rw [ix,List.length_map]
   exact bj (dz (by omega))
  ·rw [ix]
   simp! only [List.length_map];refine ⟨by have:=dz (n:=(eP (h.cl.take j) h.re now).length+(cW p.2 h.re now).length) (by omega);omega,.sh (.str p.1),.sh (eM p.2),?_,rfl,rfl⟩;rw [take_snoc hp,x5,ya,List.map_append,List.map_map]
   rfl
 ·rintro Z ⟨s3,s4,rfl,n3,n4⟩
  rw [x9,List.take_length];refine ⟨by simp! only [Hs.MJ],?_,?_⟩
  ·simp! only [Hs.Pm]
   simp only [Oo,List.all_cons,List.all_nil,n3,n4];rfl
  ·simp! only [Hs.Pm,Hs.ET,Hs.YG]
   exact ⟨eP h.cl h.re now,[false,true],rfl,BC,by decide,yy,fun ms hp hso=>q ms hp hso⟩
def JX {c:Ck}{a e:Int}{l:List Int}{t:Int} (hl:cI c a e l) (ht:l.getLast?=some t):jY c e (some t):=by
 obtain ⟨ys,rfl⟩:=List.getLast?_eq_some_iff.mp ht;have hm:=(hl.mem t).mp (by simp);refine ⟨fun z=>(nomatch z),fun u z=>?_⟩;cases z;refine ⟨hm.2.1,hm.2.2,fun t' t1 t2 r=>?_⟩;have:=DN hl.rise ((hl.mem t').mpr ⟨by omega,t2,r⟩);omega
def sP (af:Nat):dA:=cO ((bg sq ((av ((au 2)) (bq)))))
def sQ (af:Nat):dA:=aS (yz af 0 "asleep" (dC (.bl false))) ((sP af))
def sR (af:Nat):dA:=LO 2 (aS (yz af 0 "reached" ((au 1))) ((sQ af)))
def sS (af:Nat):dA:=aS (WO af 0 "clocks" (Cm (uj af 0 "clocks") (pS 3 4) (aS (dH 5 ((bg p8 ((av ((au 4)) ((av ((dX ((uD af 0 "reached")))) ((av ((au 1)) (bq)))))))))) (dN (dB (aY (wm fun i j=>.bl (decide (j<i))) ((au 5)) (dC (.int 0)))) (LP 2 ((nG ((av ((au 3)) ((av ((bg lC ((av ((au 4)) ((av ((au 1)) (bq))))))) ((av ((au 5)) (bq)))))))))) (cF))))) ((sR af))
def sT (af:Nat):dA:=aS (LM 2 (bq)) ((sS af))
def sU (af:Nat):dA:=aS (qP ((bg hI ((av ((dX ((uD af 0 "reached")))) ((av ((au 1)) (bq)))))))) ((sT af))
def qh (af:Nat):dA:=aS (dN (IK (nJ ((dX ((uD af 0 "asleep")))))) (lP) (cF)) ((sU af))
def Fz (C:Nat):∀(hs:Nat->Nat) as Q,mF C as Q->qh C { nx:=fun Z=>Q .bX (dO hs 0 as Z),rt:=fun d Z=>Q d (dO hs 0 as Z) } (dt ["self","now","told","name","clock","many"] hs as):=by
 rintro hs as Q ⟨h,now,rfl,Tj,hre0,Tt,YJ,Zd,dD,q⟩;simp! only [qh,sU,sT,sS,sR,sQ,sP,Hs.Pl,Tj];simp! only [Hs.Pj];refine ⟨some h.re,now,rfl,fun s e=>by cases e;exact Tt,?_⟩;simp! only [Hs.Fp,Hs.VC];intro fq;refine Ey (fun j Z=>∃(s3 s4 s5:Sl),Z=[.ob (some (hs 0)) C (h.fz fq),.sh (.int now),.ow ((iO (h.cl.take j) h.re now).map tD),s3,s4,s5]/\Ta s3=true/\Ta s4=true/\Ta s5=true) (jV (h.cl.map kc)) _ (fun Q h1=>?_) ⟨.no,.no,.no,rfl,rfl,rfl,rfl⟩ ?_ ?_
 ·simp! only [Hs.MJ];exact h1
 ·rintro j d Z hj ⟨s3,s4,s5,rfl,n3,n4,n5⟩
  obtain ⟨p,hp,rfl⟩:=x8 hj;have Zl:=dD p (bf hp);simp! only [Hs.VB];refine ⟨p.2,h.re,now,rfl,Zl,hre0,Tt,fun l hl=>?_⟩;have el:=xY hl;subst el;have ej:j<h.cl.length:=(aK.mp hp).1;have wl:(iO (h.cl.take j) h.re now).length<=100:=by
   refine ay (aJ _ _) ?_;rw [List.length_take];omega
  simp! only [Dl.aS];cases ql:(cW p.2 h.re now).getLast? with
  | none =>
   have e0:cW p.2 h.re now=[]:=List.getLast?_eq_none_iff.mp ql;have ew:nO h.re now p=none:=by unfold nO;rw [ql];rfl
   rw [e0];rw [if_neg (by simp)];refine ⟨.sh (.str p.1),.sh (eM p.2),.sh (.int (([]:List Int).length:Nat)),?_,rfl,rfl,rfl⟩;rw [take_snoc hp,uq,ur,ew];simp
  | some t =>
   have ew:nO h.re now p=some [.inr p.1,.inl t,.inl ((cW p.2 h.re now).length:Nat)]:=by unfold nO;rw [ql];rfl
   have pos:0<(cW p.2 h.re now).length:=by
    cases z:cW p.2 h.re now with
    | nil=>rw [z] at ql;cases ql
    | cons _ _=>simp
   rw [if_pos (by omega)];refine ⟨p.2,now,rfl,Zl,by omega,fun r hr=>?_⟩;rw [hr.unique (JX (iA _ _ _) ql)];simp! only [cD,cE];refine ⟨by rw [List.length_map];exact dz (by omega),.sh (.str p.1),.sh (eM p.2),.sh (.int ((cW p.2 h.re now).length:Nat)),?_,rfl,rfl,rfl⟩;rw [take_snoc hp,uq,ur,ew,List.map_append]
   rfl
 ·rintro Z ⟨s3,s4,s5,rfl,n3,n4,n5⟩
  rw [x9,List.take_length];refine ⟨by simp! only [Hs.MJ],?_,?_⟩
  ·simp! only [Hs.Pm]
   simp only [Oo,List.all_cons,List.all_nil,n3,n4,n5];rfl
  ·simp! only [Hs.Pm,Hs.ET,Hs.YG,Hs.YI]
   exact ⟨iO h.cl h.re now,[true,false,false],rfl,BD,by decide,Nat.lt_of_le_of_lt (aJ _ _) (by omega),fun ms hp hso=>q ms hp hso⟩
def DR (items:List D) (F:D->Option D) {k:Nat}{ti:Er}{g:C9}{tt:qO}{te:fV}{Z:Ev}{Q:D->Ev->Prop} (h0:∀Q:List D->Ev->Prop,Q items Z->ti Z Q)
  (hF:∀d∈items,∀as:Nat->Nat,g d (nH as 0 Z++List.replicate k .no) fun Z2=>tt Z2 fun b Z3=>if b=true then te Z3 fun y Z4=>Z4.take Z.length=nH as 0 Z/\F d=some y else Z3.take Z.length=nH as 0 Z/\F d=none)
  (hl:(items.filterMap F).length<=sizeLine) (q:Q (.lst (items.filterMap F)) Z):Bd k ti g tt te Z Q:=h0 _ ⟨F,hF,hl,q⟩
theorem JY:∀{l m:List Int},iL l=iL m->l=m
 | [],[],_=>rfl
 | [],_::_,h=>by cases h
 | _::_,[],h=>by cases h
 | x::l,y::m,h=>by
  rw [iL,List.map_cons,iL,List.map_cons] at h;injection h with h1 h2
  injection h1 with h1
  rw [h1,JY h2]
theorem Pp:∀{a b:Option Int},oi a=oi b->a=b
 | none,none,_=>rfl
 | none,some _,h=>by cases h
 | some _,none,h=>by cases h
 | some x,some y,h=>by
  have h:D.int x=D.int y:=h;injection h with h;rw [h]
theorem Tu:¬(("every":Str)=("timer":Str)):=by decide +kernel
theorem Tv:¬(("alarm":Str)=("timer":Str)):=by decide +kernel
theorem Tw:¬(("alarm":Str)=("every":Str)):=by decide +kernel
theorem Sm:∀{c d:Ck},eM c=eM d->c=d
 | .tm a b o,.tm a' b' o',h=>by
  simp only [eM,D.tup.injEq,List.cons.injEq,D.int.injEq,and_true,true_and] at h;have ⟨h1,h2,h3⟩:=h;rw [h1,h2,Pp h3]
 | .ev a b o,.ev a' b' o',h=>by
  simp only [eM,D.tup.injEq,List.cons.injEq,D.int.injEq,and_true,true_and] at h;have ⟨h1,h2,h3⟩:=h;rw [h1,h2,Pp h3]
 | .al a b o,.al a' b' o',h=>by
  simp only [eM,D.tup.injEq,List.cons.injEq,D.int.injEq,and_true,true_and] at h;have ⟨h1,h2,h3⟩:=h;rw [h1,JY h2,JY h3]
 | .tm _ _ _,.ev _ _ _,h=>by simp only [eM,D.tup.injEq,List.cons.injEq,D.str.injEq] at h;exact absurd h.1.symm Tu
 | .tm _ _ _,.al _ _ _,h=>by simp only [eM,D.tup.injEq,List.cons.injEq,D.str.injEq] at h;exact absurd h.1.symm Tv
 | .ev _ _ _,.tm _ _ _,h=>by simp only [eM,D.tup.injEq,List.cons.injEq,D.str.injEq] at h;exact absurd h.1 Tu
 | .ev _ _ _,.al _ _ _,h=>by simp only [eM,D.tup.injEq,List.cons.injEq,D.str.injEq] at h;exact absurd h.1.symm Tw
 | .al _ _ _,.tm _ _ _,h=>by simp only [eM,D.tup.injEq,List.cons.injEq,D.str.injEq] at h;exact absurd h.1 Tv
 | .al _ _ _,.ev _ _ _,h=>by simp only [eM,D.tup.injEq,List.cons.injEq,D.str.injEq] at h;exact absurd h.1 Tw
open Classical in
noncomputable def Sn (d:D):Ck:=if h:∃c,eM c=d then choose h else .tm 0 0 none
theorem Li (c:Ck):Sn (eM c)=c:=by
 unfold Sn;rw [dif_pos ⟨c,rfl⟩];exact Sm (cK (⟨c,rfl⟩:∃c',eM c'=eM c))
noncomputable def So (t:Int):D->Option D
 | .tup [.str x,c]=>some (.tup [oi (eD (Sn c) t),.str x])
 | _=>none
noncomputable def YK:D->Option D
 | .tup [.int m,.str x]=>some (.tup [.int m,.str x])
 | _=>none
noncomputable def YL:D->Option D
 | .tup [.int m,_]=>some (.int m)
 | _=>none
noncomputable def Pq (f:Int):D->Option D
 | .tup [.int m,.str x]=>if m=f then some (.str x) else none
 | _=>none
noncomputable def fi (cl:List (Str×Ck)) (t:Int):List (Int×Str):=cl.filterMap fun p=>(eD p.2 t).map fun m=>(m,p.1)
noncomputable abbrev JZ (r:Int×Str):D:=.tup [.int r.1,.str r.2]
def Pr (cl:List (Str×Ck)) (t:Int):((jV (cl.map kc)).filterMap (So t))=cl.map fun p=>.tup [oi (eD p.2 t),.str p.1]:=by
 unfold jV;rw [List.map_map,List.filterMap_map];refine JK fun p _=>?_
 show So t (.tup [.str p.1,eM p.2])=_;show some (D.tup [oi (eD (Sn (eM p.2)) t),.str p.1])=_;rw [Li]
def HQ (cl:List (Str×Ck)) (t:Int):(cl.map fun p=>D.tup [oi (eD p.2 t),.str p.1]).filterMap YK=(fi cl t).map JZ:=by
 unfold fi
 induction cl with
 | nil=>rfl
 | cons p r ih =>
  rw [List.map_cons,List.filterMap_cons,List.filterMap_cons];cases eD p.2 t with
  | none=>exact ih
  | some m=>show _::_=_;rw [ih];rfl
def Lj (l:List (Int×Str)):(l.map JZ).filterMap YL=(l.map (·.1)).map D.int:=by
 rw [List.filterMap_map,List.map_map];exact JK fun r _=>rfl
theorem HR (f:Int) (r:Int×Str):Pq f (JZ r)=if r.1=f then some (.str r.2) else none:=rfl
def J0 (f:Int) (l:List (Int×Str)):(l.map JZ).filterMap (Pq f)=((l.filter fun r=>decide (r.1=f)).map (·.2)).map D.str:=by
 induction l with
 | nil=>rfl
 | cons r l ih =>
  rw [List.map_cons,List.filterMap_cons,HR]
  by_cases h:r.1=f
  ·rw [List.filter_cons_of_pos (by simpa using h),List.map_cons,List.map_cons,<-ih,if_pos h]
  ·rw [List.filter_cons_of_neg (by simpa using h),<-ih,if_neg h]
def hW {cl:List (Str×Ck)}{t m:Int}{x:Str}:(m,x)∈fi cl t<->∃p∈cl,eD p.2 t=some m/\p.1=x:=by
 unfold fi;rw [List.mem_filterMap]
 constructor
 ·rintro ⟨p,hp,e⟩
  cases q:eD p.2 t with
  | none=>rw [q] at e;cases e
  | some u=>rw [q] at e;cases e;exact ⟨p,hp,q,rfl⟩
 ·rintro ⟨p,hp,q,rfl⟩
  exact ⟨p,hp,by rw [q];rfl⟩
def vG (cl:List (Str×Ck)) (t m:Int):((fi cl t).filter fun r=>decide (r.1=m)).map (·.2)=Fq cl t m:=by
 unfold fi Fq
 induction cl with
 | nil=>rfl
 | cons p r ih =>
  rw [List.filterMap_cons];cases q:eD p.2 t with
  | none=>rw [List.filter_cons_of_neg (by rw [q];simp)];exact ih
  | some u =>
   by_cases h:u=m
   ·subst h
    rw [List.filter_cons_of_pos (p:=fun p:Str×Ck=>decide (eD p.2 t=some u)) (by rw [q];simp)];show (List.filter _ ((u,p.1)::_)).map _=_;rw [List.filter_cons_of_pos (by simp),List.map_cons,List.map_cons,ih]
   ·rw [List.filter_cons_of_neg (p:=fun p:Str×Ck=>decide (eD p.2 t=some m)) (by rw [q];simp;exact h)]
    show (List.filter _ ((u,p.1)::_)).map _=_;rw [List.filter_cons_of_neg (by simpa using h),ih]
def kI (af:Nat):dA:=aS (WO af 0 "clocks" (dH 1 ((Bd 2 (uj af 0 "clocks") (pS 4 5) (Ct) ((nG ((av ((bg ly ((av ((au 5)) ((av ((dX ((uD af 0 "reached")))) (bq))))))) ((av ((au 4)) (bq))))))))))) (aS (dH 2 ((iF 1 (jm ((au 1))) (gc 4) (dB (aY qQ ((aY (rF gE) ((au 4)) (dC (.int 0)))) (dC .bX))) ((au 4))))) (aS (dN (IK (nJ ((au 2)))) (cO (dC .bX)) (cF)) (aS (dH 3 ((bg GC ((av ((iF 2 (jm ((au 2))) (pS 4 5) (Ct) ((au 4)))) (bq)))))) (cO ((nG ((av ((au 3)) ((av ((bg wC ((av ((iF 2 (jm ((au 2))) (pS 4 5) (dB (aY dZ ((au 4)) ((au 3)))) ((au 5)))) (bq))))) (bq)))))))))))
def yb (C:Nat):∀(hs:Nat->Nat) as Q,gk C as Q->kI C { nx:=fun Z=>Q .bX (dO hs 0 as Z),rt:=fun d Z=>Q d (dO hs 0 as Z) } (dt ["self","rows","dues","first"] hs as):=by
 rintro hs as Q ⟨h,rfl,Tt,hl,dD,qn,q⟩;have big:∀n,n<=100->n<=sizeLine:=fun n hn=>bj (dz (by omega))
 have ld:(fi h.cl h.re).length<=60:=ay (aJ _ _) (by omega);simp! only [kI,Hs.Fp,Hs.VC];intro fq;refine DR (jV (h.cl.map kc)) (So h.re) (fun Q h1=>?_) (fun d hd as=>?_) ?_ ?_
 ·simp! only [Hs.MJ];exact h1
 ·obtain ⟨j,hj⟩:=List.getElem?_of_mem hd
  obtain ⟨p,hp,rfl⟩:=x8 hj;simp! only [Hs.VB];refine ⟨p.2,h.re,rfl,dD p (bf hp),by omega,fun r hr=>?_⟩;have er:=HM hr;simp! only [So,Li,<-er]
  first | exact ⟨rfl,rfl⟩ | rfl
 ·refine ay (aJ _ _) ?_
  rw [x9];exact big _ (by omega)
 ·rw [Pr]
  simp! only [Hs.MJ,Hs.Pm];refine ⟨?_,?_⟩
  ·simp only [Oo,List.all_cons,List.all_nil];rfl
  refine gA (h.cl.map fun p=>.tup [oi (eD p.2 h.re),.str p.1]) YK (fun Q h1=>?_) (fun d hd=>?_) ?_ ?_
  ·simp! only [Dl.aS];exact h1
  ·obtain ⟨p,hp,rfl⟩:=ak.mp hd
   cases eD p.2 h.re with
   | none=>simp! only [cD,cE];rfl
   | some m=>simp! only [cD,cE];rfl
  ·rw [HQ,List.length_map];exact big _ (by omega)
  ·rw [HQ]
   by_cases qd:fi h.cl h.re=[]
   ·rw [qd]
    simp! only [List.isEmpty_nil];refine qn fun p hp=>?_
    cases z:eD p.2 h.re with
    | none=>rfl
    | some m =>
     have:=hW.mpr ⟨p,hp,z,rfl⟩;rw [qd] at this;cases this
   ·have FY:((fi h.cl h.re).map JZ).isEmpty=false:=by
     cases z:fi h.cl h.re with
     | nil=>exact absurd z qd
     | cons _ _=>rfl
    simp! only [FY];refine gA ((fi h.cl h.re).map JZ) YL (fun Q h1=>?_) (fun d hd=>?_) ?_ ?_
    ·simp! only [Dl.aS];exact h1
    ·obtain ⟨r,hr,rfl⟩:=ak.mp hd
     simp! only [Dl.aS];rfl
    ·rw [Lj,List.length_map,List.length_map];exact big _ (by omega)
    ·rw [Lj]
     refine ⟨_,rfl,(fi h.cl h.re).map (·.1),xF _,fun z=>qd (List.map_eq_nil_iff.mp z),by rw [List.length_map];omega,fun m hm Pt=>?_⟩;simp! only [Dl.aS];refine gA ((fi h.cl h.re).map JZ) (Pq m) (fun Q h1=>?_) (fun d hd=>?_) ?_ ?_
     ·simp! only [Dl.aS];exact h1
     ·obtain ⟨r,hr,rfl⟩:=ak.mp hd
      simp! only [Dl.aS];rw [HR];refine ku (fun z=>?_) fun z=>?_
      ·rw [if_pos z]
      ·rw [if_neg z]
     ·rw [J0,List.length_map,List.length_map]
      exact big _ (ay (bD ..) (by omega))
     ·rw [J0,vG]
      simp! only [Dl.aS];refine ⟨_,rfl,?_,fun ns hn ht=>?_⟩
      ·rw [<-vG,List.length_map]
       exact Nat.lt_of_le_of_lt (bD ..) (by omega)
      ·obtain ⟨r,hr,er⟩:=ak.mp hm
       obtain ⟨mm,x⟩:=r;cases er;obtain ⟨p,hp,hn1,_⟩:=hW.mp hr;refine q mm ⟨p,hp,hn1⟩ (fun p' hp' u hu=>Pt u (ak.mpr ⟨(u,p'.1),hW.mpr ⟨p',hp',hu,rfl⟩,rfl⟩)) ns hn ht
mutual
theorem sV:∀d:D,Cn d d=true
 | .bX=>rfl
 | .bl b=>beq_self_eq_true b
 | .int i=>beq_self_eq_true i
 | .str x=>beq_self_eq_true x
 | .tup l=>uu l
 | .lst l=>uu l
 | .pt _=>rfl
theorem uu:∀l:List D,wj l l=true
 | []=>rfl
 | d::r=>by show (Cn d d&&wj r r)=true;rw [sV d,uu r];rfl
end
theorem wO:∀{l:List D},(∀d∈l,d.ok=true)->D.Ks l=true
 | [],_=>rfl
 | d::r,h=>by show (D.ok d&&D.Ks r)=true;rw [h d List.mem_cons_self,wO fun e he=>h e (List.mem_cons_of_mem _ he)];rfl
theorem sW {n:Nat}:∀{l:List D},(∀d∈l,d.dep<=n)->D.sd l<=n
 | [],_=>bw _
 | d::r,h=>by show max (D.dep d) (D.sd r)<=n;exact Nat.max_le.mpr ⟨h d aj,sW fun e he=>h e (aw _ he)⟩
def YM:Key->Prop
 | .inl _=>True
 | .inr x=>PyData.strOk x=true
def Tz {k:Key} (h:YM k):(dK k).ok=true/\(dK k).dep=0:=by
 cases k with
 | inl i=>exact ⟨rfl,rfl⟩
 | inr x=>exact ⟨h,rfl⟩
def TB {k:List Key} (h:∀x∈k,YM x):(tD k).ok=true/\(tD k).dep<=1:=by
 refine ⟨wO fun d hd=>?_,?_⟩
 ·obtain ⟨x,hx,rfl⟩:=ak.mp hd;exact (Tz (h x hx)).1
 ·show D.sd (k.map dK)+1<=1
  have:=sW (n:=0) (l:=k.map dK) fun d hd=>by obtain ⟨x,hx,rfl⟩:=ak.mp hd;exact Nat.le_of_eq (Tz (h x hx)).2
  omega
def FA {l:List (List Key)} (h:∀k∈l,∀x∈k,YM x):(D.lst (l.map tD)).ok=true/\(D.lst (l.map tD)).dep<=2:=by
 refine ⟨wO fun d hd=>?_,?_⟩
 ·obtain ⟨k,hk,rfl⟩:=ak.mp hd;exact (TB (h k hk)).1
 ·show D.sd (l.map tD)+1<=2
  have:=sW (n:=1) (l:=l.map tD) fun d hd=>by obtain ⟨k,hk,rfl⟩:=ak.mp hd;exact (TB (h k hk)).2
  omega
def FC {l:List Str} (h:∀x∈l,PyData.strOk x=true):(D.lst (l.map D.str)).ok=true/\(D.lst (l.map D.str)).dep<=1:=by
 refine ⟨wO fun d hd=>?_,?_⟩
 ·obtain ⟨x,hx,rfl⟩:=ak.mp hd;exact h x hx
 ·show D.sd (l.map D.str)+1<=1
  have:=sW (n:=0) (l:=l.map D.str) fun d hd=>by obtain ⟨x,hx,rfl⟩:=ak.mp hd;exact ao _
  omega
noncomputable abbrev Due:=Option (Int×List Str)
noncomputable def Sq:Due->D
 | none=>.bX
 | some r=>.tup [.int r.1,.lst (r.2.map .str)]
def Sr {r:Due} (h:∀v,r=some v->∀x∈v.2,PyData.strOk x=true):(Sq r).ok=true/\(Sq r).dep<=2:=by
 cases r with
 | none=>exact ⟨rfl,bw _⟩
 | some v =>
  obtain ⟨h1,h2⟩:=FC (h v rfl);refine ⟨?_,?_⟩
  ·show (true&&(D.ok (.lst (v.2.map .str))&&true))=true
   rw [h1];rfl
  ·show max 0 (max (D.dep (.lst (v.2.map .str))) 0)+1<=2
   omega
def Ss {d e:D}{n:Nat} (h1:d.ok=true) (h2:e.ok=true) (h3:d.dep<=n) (hn:n<=60):Co d e:=⟨h1,h2,ay (Nat.min_le_left ..) (ay h3 hn)⟩
theorem qi:∀{l m:List Str},l.Perm m->Il l->Il m->l=m
 | [],m,h,_,_=>by rw [List.nil_perm.mp h]
 | a::l,[],h,_,_=>by cases h.length_eq
 | a::l,b::m,h,h1,h2=>by
  have g1:=aW.mp h1;have g2:=aW.mp h2;have e:a=b:=by
   rcases aE.mp (h.mem_iff.mp (aj (a:=a) (l:=l))) with z | z
   ·exact z
   ·rcases aE.mp (h.mem_iff.mpr (aj (a:=b) (l:=m))) with w | w
    ·exact w.symm
    ·have e:a.cps.toList=b.cps.toList:=List.le_antisymm (g1.1 b w) (g2.1 a z)
     cases a;cases b;simp at e;simp [e]
  subst e;rw [qi (List.Perm.cons_inv h) g1.2 g2.2]
def yL (cl:List (Str×Ck)) (t:Int) (r:Due):Prop:=(r=none/\∀p∈cl,eD p.2 t=none) \/
 ∃m ns,r=some (m,ns)/\(∃p∈cl,eD p.2 t=some m)/\(∀p∈cl,∀u,eD p.2 t=some u->m<=u)/\ns.Perm (Fq cl t m)/\Il ns
def DU {cl cm:List (Str×Ck)} (h:cl.Perm cm) (t m:Int):(Fq cl t m).Perm (Fq cm t m):=(h.filter _).map _
def yL.unique {cl cm:List (Str×Ck)}{t:Int}{r s:Due} (hp:cl.Perm cm) (h:yL cl t r) (g:yL cm t s):r=s:=by
 rcases h with ⟨rfl,h⟩ | ⟨m,ns,rfl,⟨p,hp1,Y9⟩,h2,h3,h4⟩ <;> rcases g with ⟨rfl,g⟩ | ⟨k,ms,rfl,⟨q,hq1,hq2⟩,g2,g3,g4⟩
 ·rfl
 ·have:=h q (hp.mem_iff.mpr hq1);rw [hq2] at this;cases this
 ·have:=g p (hp.mem_iff.mp hp1);rw [Y9] at this;cases this
 ·have e:m=k:=by
   have a:=h2 q (hp.mem_iff.mpr hq1) k hq2;have b:=g2 p (hp.mem_iff.mp hp1) m Y9;omega
  subst e;rw [qi (h3.trans ((DU hp t m).trans g3.symm)) h4 g4]
def J2 (l:List Str):∃ms:List Str,ms.Perm l/\Il ms:=by
 induction l with
 | nil=>exact ⟨[],.nil,.nil⟩
 | cons x r ih =>
  have ⟨ms,h1,h2⟩:=ih;refine ⟨(ms.filter fun y=>decide (y.cps.toList<x.cps.toList))++x::(ms.filter fun y=>!decide (y.cps.toList<x.cps.toList)),?_,?_⟩
  ·refine List.perm_middle.trans (List.Perm.cons _ (List.Perm.trans ?_ h1))
   exact List.filter_append_perm _ ms
  ·refine List.pairwise_append.mpr ⟨h2.sublist dh,aW.mpr ⟨fun y hy=>?_,h2.sublist dh⟩,fun a ha b hb=>?_⟩
   ·have:=(cC.mp hy).2
    simpa using this
   ·have ha:=(cC.mp ha).2
    have ha:a.cps.toList<x.cps.toList:=by simpa using ha
    rcases aE.mp hb with rfl | hb
    ·exact fun z=>List.lt_irrefl _ (List.lt_trans ha z)
    ·have hb:=(cC.mp hb).2
     have hb:¬b.cps.toList<x.cps.toList:=by simpa using hb
     exact fun z=>hb (List.lt_trans z ha)
theorem BG:∀(l:List Int),l≠[]->∃m∈l,∀x∈l,m<=x
 | [],h=>absurd rfl h
 | [a],_=>⟨a,aj,fun x hx=>Int.le_of_eq (bB.mp hx).symm⟩
 | a::b::r,_=>by
  obtain ⟨m,h1,h2⟩:=BG (b::r) (by simp)
  by_cases h:a<=m
  ·refine ⟨a,aj,fun x hx=>?_⟩
   rcases aE.mp hx with rfl | hx
   ·exact Int.le_refl _
   ·have:=h2 x hx;omega
  ·refine ⟨m,aw _ h1,fun x hx=>?_⟩
   rcases aE.mp hx with rfl | hx
   ·omega
   ·exact h2 x hx
def BH (cl:List (Str×Ck)) (t:Int):∃r,yL cl t r:=by
 by_cases h:fi cl t=[]
 ·refine ⟨none,.inl ⟨rfl,fun p hp=>?_⟩⟩
  cases z:eD p.2 t with
  | none=>rfl
  | some m=>have:=hW.mpr ⟨p,hp,z,rfl⟩;rw [h] at this;cases this
 ·obtain ⟨m,hm,Pt⟩:=BG ((fi cl t).map (·.1)) fun z=>h (List.map_eq_nil_iff.mp z)
  obtain ⟨⟨k,x⟩,hr,rfl⟩:=ak.mp hm;obtain ⟨p,hp,hn,_⟩:=hW.mp hr;obtain ⟨ns,h1,h2⟩:=J2 (Fq cl t k);exact ⟨some (k,ns),.inr ⟨k,ns,rfl,⟨p,hp,hn⟩,fun p' hp' u hu=>Pt u (ak.mpr ⟨(u,p'.1),hW.mpr ⟨p',hp',hu,rfl⟩,rfl⟩),h1,h2⟩⟩
noncomputable def Su (cl:List (Str×Ck)) (t:Int):Due:=Classical.choose (BH cl t)
def FD (cl:List (Str×Ck)) (t:Int):yL cl t (Su cl t):=cK (BH cl t)
def yL.names {cl:List (Str×Ck)}{t:Int}{r:Due} (h:yL cl t r) (ok:∀p∈cl,PyData.strOk p.1=true) (v:Int×List Str) (e:r=some v):(∀x∈v.2,PyData.strOk x=true)/\v.2.length<=cl.length:=by
 rcases h with ⟨rfl,_⟩ | ⟨m,ns,rfl,_,_,h3,_⟩
 ·cases e
 ·cases e
  refine ⟨fun x hx=>?_,?_⟩
  ·obtain ⟨p,hp,rfl⟩:=ak.mp (h3.mem_iff.mp hx)
   exact ok p (cC.mp hp).1
  ·rw [h3.length_eq];unfold Fq;rw [List.length_map];exact bD ..
section
variable {C:Nat}{Q:D->List Ar->Prop}{h:Hs}{now:Int}
def Sv (Tt:h.re<=10000000) (hl:h.cl.length<60) (ok:∀p∈h.cl,Ok p.2) (k:∀r,yL h.cl h.re r->Q (Sq r) [.o C h.fs]):gk C [.o C h.fs] Q :=
 ⟨h,rfl,Tt,hl,ok,fun z=>k none (.inl ⟨rfl,z⟩),fun m h1 h2 ns h3 h4=>k (some (m,ns)) (.inr ⟨m,ns,rfl,h1,h2,h3,h4⟩)⟩
end
def Sw {cl:List (Str×Ck)}{a e:Int}{ms:List (List Key)} (ok:∀p∈cl,PyData.strOk p.1=true) (h:ms.Perm (eP cl a e)):∀k∈ms,∀x∈k,YM x:=fun k hk x hx=>by
 obtain ⟨p,hp,hk⟩:=List.mem_flatMap.mp (h.mem_iff.mp hk);obtain ⟨t,_,rfl⟩:=ak.mp hk;have:x=.inl t\/x=.inr p.1:=by simpa using hx
 rcases this with rfl | rfl
 ·trivial
 ·exact ok p hp
def J3 {a e:Int}{p:Str×Ck}{k:List Key} (h:nO a e p=some k):∃t n,k=[.inr p.1,.inl t,.inl n]/\a<t/\t<=e/\1<=n:=by
 unfold nO at h;cases q:(cW p.2 a e).getLast? with
 | none=>rw [q] at h;cases h
 | some t =>
  rw [q] at h;cases h;obtain ⟨ys,hy⟩:=List.getLast?_eq_some_iff.mp q;have hm:=((iA p.2 a e).mem t).mp (by rw [hy];simp);refine ⟨t,_,rfl,hm.1,hm.2.1,?_⟩;rw [hy,List.length_append];simp;omega
def Sx {cl:List (Str×Ck)}{a e:Int}{ms:List (List Key)} (ok:∀p∈cl,PyData.strOk p.1=true) (h:ms.Perm (iO cl a e)):∀k∈ms,∃x t n,k=[.inr x,.inl t,.inl n]/\PyData.strOk x=true/\a<t/\t<=e/\1<=n:=fun k hk=>by
 obtain ⟨p,hp,hk⟩:=bC.mp (h.mem_iff.mp hk);obtain ⟨t,n,rfl,h1,h2,h3⟩:=J3 hk;exact ⟨p.1,t,n,rfl,ok p hp,h1,h2,h3⟩
def Pu {cl:List (Str×Ck)}{a e:Int}{ms:List (List Key)} (ok:∀p∈cl,PyData.strOk p.1=true) (h:ms.Perm (iO cl a e)):∀k∈ms,∀x∈k,YM x:=fun k hk x hx=>by
 obtain ⟨y,t,n,rfl,h1,_⟩:=Sx ok h k hk;have:x=.inr y\/x=.inl t\/x=.inl n:=by simpa using hx
 rcases this with rfl | rfl | rfl
 ·exact h1
 ·trivial
 ·trivial
end zX
namespace zX
open PySem PySem.Spec PyProof.Rows L2 Dl Rg
noncomputable def YN:List Key->Str
 | [_,.inr x]=>x
 | _=>""
def Sy {l:List (List Key)}{m:Int} (sh:∀k∈l,∃x,k=[.inl m,.inr x]) (h:KS l):Il (l.map YN):=by
 refine List.pairwise_map.mpr (List.Pairwise.imp_of_mem (fun {a b} ha hb z=>?_) h);obtain ⟨x,rfl⟩:=sh a ha;obtain ⟨y,rfl⟩:=sh b hb;show ¬y.cps.toList<x.cps.toList;simp only [klt,if_true] at z
 by_cases e:(Sum.inr y:Key)=Sum.inr x
 ·injection e with e;subst e;exact List.lt_irrefl _
 ·simp only [if_neg e,oX,decide_eq_false_iff_not] at z;exact z
theorem HS (c:Ck) (t:Int):∀n:Nat,(∃u,t<u/\u<=t+(n:Nat)/\rg c u)->∃v,t<v/\rg c v/\∀t',t<t'->t'<v->¬rg c t'
 | 0,⟨u,h1,h2,_⟩=>by omega
 | n+1,⟨u,h1,h2,h3⟩=>by
  by_cases h:∃u,t<u/\u<=t+(n:Nat)/\rg c u
  ·exact HS c t n h
  ·refine ⟨u,h1,h3,fun t' a b r=>h ⟨t',a,?_,r⟩⟩
   have:((n+1:Nat):Int)=(n:Int)+1:=by omega
   omega
def HU (c:Ck) (t:Int):∃r,fh c t r:=by
 by_cases h:∃u,t<u/\rg c u
 ·have ⟨u,h1,h2⟩:=h
  obtain ⟨v,v1,v2,v3⟩:=HS c t (u-t).toNat ⟨u,h1,by omega,h2⟩;exact ⟨some v,⟨fun z=>(by cases z),fun w z=>by cases z;exact ⟨v1,v2,v3⟩⟩⟩
 ·exact ⟨none,⟨fun _ u hu r=>h ⟨u,hu,r⟩,fun w z=>by cases z⟩⟩
def Pw (c:Ck) (t:Int):fh c t (eD c t):=by
 obtain ⟨r,hr⟩:=HU c t;rw [<-HM hr];exact hr
end zX
namespace zX
open PySem L2 Dl Rg
noncomputable def sX (i:Int):D:=.tup [.str "refused",.int i]
def dY (ds:List D):Prop:=∃a b:Int,ds=[.int a,.int b]/\b<a
def rL:∀ds,dY ds->ds.length=2:=by rintro ds ⟨_,_,rfl,_⟩;rfl
def hX (Pk:Ev->Prop):Ev->Prop:=(fun Z=>(wb (dB (aY qQ ((au 0)) (dC .bX))) (dB (aY (wm fun i j=>.bl (decide (i<j))) ((au 1)) ((au 0))))) Z fun q Z1=>if q=true then Pk Z1 else (fun _=>False) Z1)
def rM:∀ds,dY ds->hX (fun _=>True) (dq ["earlier","now"] ds):=by
 rintro ds ⟨a,b,rfl,h⟩;simp! only [hX];rw [if_pos (by simpa using h)]
 trivial
def SR1 (b:Bool) (C:Nat) (as:List Ar):Prop:=∃h:Hs,as=[.o C h.fs]/\h.sl=b
def SR2 (b:Bool) (C:Nat) (as:List Ar):Prop:=∃(h:Hs) (d:D),as=[.o C h.fs,.v d]/\h.sl=b
def SRu (C:Nat) (as:List Ar):Prop:=∃(h:Hs) (x:Str),as=[.o C h.fs,.v (.str x)]/\p9 h.cl x=none
def bM (C:Nat) (as:List Ar):Prop:=SR1 true C as
def fE (C:Nat) (as:List Ar):Prop:=SR1 true C as
def fX (C:Nat) (as:List Ar):Prop:=∃(h:Hs) (d e:D),as=[.o C h.fs,.v d,.v e]/\h.sl=true
def fO (C:Nat) (as:List Ar):Prop:=SR2 true C as
def fP (C:Nat) (as:List Ar):Prop:=SR2 true C as
def fY (C:Nat) (as:List Ar):Prop:=SR2 false C as
def b8 (C:Nat) (as:List Ar):Prop:=SRu C as
def fj (C:Nat) (as:List Ar):Prop:=SRu C as
def fF (C:Nat) (as:List Ar):Prop:=∃(h:Hs) (x:Str),as=[.o C h.fs,.v (.str x)]/\h.sl=false/\p9 h.cl x=none
def fZ (C:Nat) (as:List Ar):Prop:=∃(h:Hs) (now:Int),as=[.o C h.fs,.v (.int now)]/\h.sl=false/\now<h.re
def gb (C:Nat) (as:List Ar):Prop:=∃(h:Hs) (now:Int),as=[.o C h.fs,.v (.int now)]/\h.sl=true/\now<h.re
def lF (C:Nat):∀as,bM C as->as.length=1:=by rintro as ⟨_,rfl,_⟩;rfl
def rN (C:Nat):∀as,fE C as->as.length=1:=by rintro as ⟨_,rfl,_⟩;rfl
def uF (C:Nat):∀as,fX C as->as.length=3:=by rintro as ⟨_,_,_,rfl,_⟩;rfl
def sY (C:Nat):∀as,fO C as->as.length=2:=by rintro as ⟨_,_,rfl,_⟩;rfl
def sZ (C:Nat):∀as,fP C as->as.length=2:=by rintro as ⟨_,_,rfl,_⟩;rfl
def uG (C:Nat):∀as,fY C as->as.length=2:=by rintro as ⟨_,_,rfl,_⟩;rfl
def ky (C:Nat):∀as,b8 C as->as.length=2:=by rintro as ⟨_,_,rfl,_⟩;rfl
def qj (C:Nat):∀as,fj C as->as.length=2:=by rintro as ⟨_,_,rfl,_⟩;rfl
def rO (C:Nat):∀as,fF C as->as.length=2:=by rintro as ⟨_,_,rfl,_⟩;rfl
def uH (C:Nat):∀as,fZ C as->as.length=2:=by rintro as ⟨_,_,rfl,_⟩;rfl
def uI (C:Nat):∀as,gb C as->as.length=2:=by rintro as ⟨_,_,rfl,_⟩;rfl
def eU (af:Nat) (Pk:Ev->Prop):Ev->Prop:=(fun Z=>(nJ ((dX ((uD af 0 "asleep"))))) Z fun q Z1=>if q=true then Pk Z1 else (fun _=>False) Z1)
def lH (C:Nat):∀(hs:Nat->Nat) as,bM C as->eU C (fun Z=>dO hs 0 as Z=as) (dt ["self"] hs as):=by
 rintro hs as ⟨h,rfl,e⟩;simp! only [eU,Hs.Pl,e]
def eB (af:Nat) (Pk:Ev->Prop):Ev->Prop:=(fun Z=>(Om false af 0 "clocks" ((rG 1))) Z fun q Z1=>if q=true then Pk Z1 else (fun _=>False) Z1)
def kz (C:Nat):∀(hs:Nat->Nat) as,b8 C as->eB C (fun Z=>dO hs 0 as Z=as) (dt ["self","name"] hs as):=by
 rintro hs as ⟨h,x,rfl,e⟩;simp! only [eB,Hs.Fp];rw [j6,e];simp! only [Option.map_none,Option.isSome_none]
def hZ (af:Nat) (Pk:Ev->Prop):Ev->Prop:=(jD 0 af "refuse_asleep" (bM af) Pk fc)
def rP (C:Nat):∀(hs:Nat->Nat) as,fE C as->hZ C (fun Z=>dO hs 0 as Z=as) (dt ["self"] hs as):=by
 rintro hs as ⟨h,rfl,e⟩;simp! only [hZ,Hs.CC,uo];exact ⟨h,rfl,e⟩
def jq (af:Nat) (Pk:Ev->Prop):Ev->Prop:=(jD 0 af "refuse_asleep" (bM af) Pk fc)
def uJ (C:Nat):∀(hs:Nat->Nat) as,fX C as->jq C (fun Z=>dO hs 0 as Z=as) (dt ["self","name","clock"] hs as):=by
 rintro hs as ⟨h,d,d2,rfl,e⟩;simp! only [jq,Hs.CC,uo];exact ⟨h,rfl,e⟩
def iI (af:Nat) (Pk:Ev->Prop):Ev->Prop:=(jD 0 af "refuse_asleep" (bM af) Pk fc)
def tf (C:Nat):∀(hs:Nat->Nat) as,fO C as->iI C (fun Z=>dO hs 0 as Z=as) (dt ["self","name"] hs as):=by
 rintro hs as ⟨h,d,rfl,e⟩;simp! only [iI,Hs.CC,uo];exact ⟨h,rfl,e⟩
def iJ (af:Nat) (Pk:Ev->Prop):Ev->Prop:=(jD 0 af "refuse_asleep" (bM af) Pk fc)
def tj (C:Nat):∀(hs:Nat->Nat) as,fP C as->iJ C (fun Z=>dO hs 0 as Z=as) (dt ["self","now","told","name","clock"] hs as):=by
 rintro hs as ⟨h,d,rfl,e⟩;simp! only [iJ,Hs.CC,uo];exact ⟨h,rfl,e⟩
def gP (af:Nat) (Pk:Ev->Prop):Ev->Prop:=(jD 0 af "refuse_unknown" (b8 af) Pk ((dk ((au 1)) (fc))))
def qk (C:Nat):∀(hs:Nat->Nat) as,fj C as->gP C (fun Z=>dO hs 0 as Z=as) (dt ["self","name"] hs as):=by
 rintro hs as ⟨h,x,rfl,e⟩;simp! only [gP,Hs.Pn,uo];exact ⟨h,x,rfl,e⟩
def h8 (af:Nat) (Pk:Ev->Prop):Ev->Prop:=(fun Z=>(qP ((fb 0 af "refuse_asleep" (bV af) (fc)))) { nx:=(jD 0 af "refuse_unknown" (b8 af) Pk ((dk ((au 1)) (fc)))),rt:=fun _ _=>False } Z)
def rQ (C:Nat):∀(hs:Nat->Nat) as,fF C as->h8 C (fun Z=>dO hs 0 as Z=as) (dt ["self","name"] hs as):=by
 rintro hs as ⟨h,x,rfl,e0,e⟩;simp! only [h8,Hs.CC,uo];refine ⟨h,rfl,e0,?_⟩;simp! only [Hs.Pn,uo];exact ⟨h,x,rfl,e⟩
def jr (af:Nat) (Pk:Ev->Prop):Ev->Prop:=(fun Z=>(qP ((fb 0 af "refuse_asleep" (bV af) (fc)))) { nx:=(fun Z=>((av ((dX ((uD af 0 "reached")))) ((av ((au 1)) (bq))))) Z fun ds Z1=>dY ds/\Pk Z1),rt:=fun _ _=>False } Z)
def uK (C:Nat):∀(hs:Nat->Nat) as,fZ C as->jr C (fun Z=>dO hs 0 as Z=as) (dt ["self","now","told","name","clock"] hs as):=by
 rintro hs as ⟨h,now,rfl,e0,e⟩;simp! only [jr,Hs.CC,uo];refine ⟨h,rfl,e0,?_⟩;simp! only [Hs.Pj];exact ⟨_,_,rfl,e⟩
def js (af:Nat) (Pk:Ev->Prop):Ev->Prop:=(fun Z=>(dN (IK (nJ ((dX ((uD af 0 "asleep")))))) (lP) (cF)) { nx:=(fun Z=>((av ((dX ((uD af 0 "reached")))) ((av ((au 1)) (bq))))) Z fun ds Z1=>dY ds/\Pk Z1),rt:=fun _ _=>False } Z)
def uL (C:Nat):∀(hs:Nat->Nat) as,gb C as->js C (fun Z=>dO hs 0 as Z=as) (dt ["self","now","told","name","clock","many"] hs as):=by
 rintro hs as ⟨h,now,rfl,e0,e⟩;simp! only [js,Hs.Pl,Hs.Pj,e0];exact ⟨_,_,rfl,e⟩
def jt (af:Nat) (Pk:Ev->Prop):Ev->Prop:=(fun Z=>(IK (nJ ((dX ((uD af 0 "asleep")))))) Z fun q Z1=>if q=true then Pk Z1 else (fun _=>False) Z1)
def uM (C:Nat):∀(hs:Nat->Nat) as,fY C as->jt C (fun Z=>dO hs 0 as Z=as) (dt ["self","now","told","name","clock","many"] hs as):=by
 rintro hs as ⟨h,d,rfl,e⟩;simp! only [jt,Hs.Pl,e]
def eE (b0 b1 b2 b3:Bool) (ea:Nat):dA:=aS (dH 1 (uC (av (CB 0 ea b0) (av (CB 0 ea b1) (av (CB 0 ea b2) bq))))) (aS (dH 1 (aY (rF eA) (au 1) (uC (av (CB 0 ea b3) bq)))) (aS (dN (WJ (dB (aY zi (Mt (au 1)) (dC (.int 1)))) (IK (nJ (CB 0 ea true)))) lP cF) (cO (nG (av (dC (.str "refused")) (av (Mu (au 1)) bq))))))
def tq (ea:Nat):eE true false false false ea { nx:=fun _=>False,rt:=fun d' _=>d'=.tup [.str "refused",.int 0] } (.pt ea::List.replicate 1 .no):=by
 simp! only [eE,CB,Mt,Mu,sj];refine ⟨[true,false,false,false],rfl,?_⟩;have e:([true,false,false,false]:List Bool).count true=1:=rfl;simp! only [e];exact ⟨[true,false,false,false],rfl,by decide,by decide,rfl⟩
def qm (ea:Nat):eE false true false false ea { nx:=fun _=>False,rt:=fun d' _=>d'=.tup [.str "refused",.int 1] } (.pt ea::List.replicate 1 .no):=by
 simp! only [eE,CB,Mt,Mu,sj];refine ⟨[false,true,false,false],rfl,?_⟩;have e:([false,true,false,false]:List Bool).count true=1:=rfl;simp! only [e];exact ⟨[false,true,false,false],rfl,by decide,by decide,rfl⟩
def rR (ea:Nat):eE false false true false ea { nx:=fun _=>False,rt:=fun d' _=>d'=.tup [.str "refused",.int 2] } (.pt ea::List.replicate 1 .no):=by
 simp! only [eE,CB,Mt,Mu,sj];refine ⟨[false,false,true,false],rfl,?_⟩;have e:([false,false,true,false]:List Bool).count true=1:=rfl;simp! only [e];exact ⟨[false,false,true,false],rfl,by decide,by decide,rfl⟩
def tu (ea:Nat):eE false false false true ea { nx:=fun _=>False,rt:=fun d' _=>d'=.tup [.str "refused",.int 3] } (.pt ea::List.replicate 1 .no):=by
 simp! only [eE,CB,Mt,Mu,sj];refine ⟨[false,false,false,true],rfl,?_⟩;have e:([false,false,false,true]:List Bool).count true=1:=rfl;simp! only [e];exact ⟨[false,false,false,true],rfl,by decide,by decide,rfl⟩
def D9:Ck->Prop
 | .tm size left o=>Qs (.tm size left o)
 | .ev b f m=>0<=b/\b<40/\1<=f/\f<=12/\∃k,m=some k/\0<=k/\k<=9
 | .al mi days sdy=>Qs (.al mi days sdy)
theorem D9.ok {c:Ck} (h:D9 c):Ok c:=by
 cases c with
 | tm size left o=>exact Qs.ok h
 | ev b f m=>obtain ⟨a,b,c,d,k,e,e0,e1⟩:=h;exact ⟨a,by omega,c,by omega,fun s z=>by rw [e] at z;cases z;omega⟩
 | al mi days sdy=>exact Qs.ok h
def jH:xA:=fun ds Q=>∃c a e,ds=[eM c,.int a,.int e]/\D9 c/\0<=a/\a<=e/\e<=100000/\Q (.lst (iL (cW c a e)))
def HV:∀ds Q,jH ds Q->ds.length=3:=by rintro ds Q ⟨_,_,_,rfl,_⟩;rfl
def Sz {l:List Int}{f:Int->Int} (h:iH l) (hf:∀x y,x<y->f x<f y):iH (l.map f):=List.pairwise_map.mpr (h.imp fun {x y} z=>hf x y z)
noncomputable def VD (a e:Int):Int->Bool:=fun t=>decide (a<t/\t<=e)
def yc {c:Ck}{a e:Int}{l:List Int} (hr:iH l) (h:∀t,a<t->t<=e->(t∈l<->rg c t)):cI c a e (l.filter (VD a e)):=by
 refine ⟨eL hr _,fun t=>?_⟩;rw [List.mem_filter];unfold VD;rw [decide_eq_true_eq]
 constructor
 ·rintro ⟨h1,h2,h3⟩;exact ⟨h2,h3,(h t h2 h3).mp h1⟩
 ·rintro ⟨h2,h3,h4⟩;exact ⟨(h t h2 h3).mpr h4,h2,h3⟩
def Px {size left:Int}{o:Option Int}{a e:Int}:cI (.tm size left o) a e ((match o with | none=>[] | some s=>[s+left]).filter (VD a e)):=by
 refine yc ?_ fun t _ _=>?_
 ·cases o with
  | none=>exact .nil
  | some s=>exact List.pairwise_singleton ..
 ·cases o with
  | none=>unfold rg;simp
  | some s=>unfold rg;simp
def VE {b f:Int}{m:Option Int}{a e:Int}{n:Nat} (hb:0<=b) (hf:0<f) (he:0<=e) (hn:(n:Int)=match m with | none=>(e+1) / f+1 | some k=>min k ((e+1) / f+1)):cI (.ev b f m) a e ((listE b f 0 n).filter (VD a e)):=by
 refine yc (Bu hf) fun t h1 h2=>?_
 rw [xU];unfold rg below
 constructor
 ·rintro ⟨j,j0,j1,rfl⟩
  refine ⟨j,j0,rfl,fun k hk=>?_⟩;subst hk;simp only at hn;omega
 ·rintro ⟨i,i0,rfl,hi⟩
  refine ⟨i,i0,?_,rfl⟩;have le:i<=(e+1) / f:=by
   rw [Int.le_ediv_iff_mul_le hf];omega
  cases m with
  | none=>simp only at hn;omega
  | some k=>have:=hi k rfl;simp only at hn;omega
def VF {mi:Int}{days sdy:List Int}{a e:Int} (h0:0<=mi) (h1:mi<1440) (ha:0<=a) :
  cI (.al mi days sdy) a e (((((List.range (e / 1440+1).toNat).map fun i=>0+((i:Nat):Int)).filter fun d=>decide (d % 7∈days)).map fun d=>d * 1440+mi).filter (fun t=>decide (t∉sdy)) |>.filter (VD a e)):=by
 refine yc (eL (Sz (eL (Bw _) _) fun x y h=>by omega) _) fun t t1 t2=>?_
 rw [List.mem_filter,List.mem_map,decide_eq_true_eq,sA h0 h1]
 constructor
 ·rintro ⟨⟨d,hd,rfl⟩,ns⟩
  obtain ⟨h2,h3⟩:=cC.mp hd;obtain ⟨i,hi,rfl⟩:=ak.mp h2;exact ⟨_,by omega,rfl,of_decide_eq_true h3,ns⟩
 ·rintro ⟨d,d0,rfl,dm,ns⟩
  refine ⟨⟨d,cC.mpr ⟨ak.mpr ⟨d.toNat,List.mem_range.mpr (by omega),by omega⟩,decide_eq_true dm⟩,rfl⟩,ns⟩
noncomputable def Py (p:Int->Bool) (f:Int->Int):D->Option D
 | .int x=>if p x then some (.int (f x)) else none
 | _=>none
theorem BI {p:Int->Bool}{f:Int->Int}:∀l:List Int,(l.map D.int).filterMap (Py p f)=((l.filter p).map f).map D.int
 | []=>rfl
 | x::l=>by
  have ih:=BI (p:=p) (f:=f) l;rw [List.map_cons];cases h:p x with
  | true =>
   rw [List.filterMap_cons_some (b:=.int (f x)) (by show (if p x=true then _ else _)=_;rw [if_pos h]),ih,List.filter_cons_of_pos h];rfl
  | false =>
   rw [List.filterMap_cons_none (by show (if p x=true then _ else _)=_;rw [if_neg (by rw [h];decide)]),ih,List.filter_cons_of_neg (by rw [h];decide)]
def yM:dA:=Gw (dN (dB (aY dZ ((aY (rF gE) ((au 0)) (dC (.int 0)))) (dC (.str "timer")))) (dH 3 ((Qo (dB (aY AH ((aY (rF gE) ((au 0)) (dC (.int 3)))) (dC .bX))) ((uC (bq))) ((uC ((av ((aY (rF eA) ((aY (rF gE) ((au 0)) (dC (.int 3)))) ((aY (rF gE) ((au 0)) (dC (.int 2)))))) (bq)))))))) (dN (dB (aY dZ ((aY (rF gE) ((au 0)) (dC (.int 0)))) (dC (.str "every")))) (aS (dH 4 ((Qo (dB (aY AH ((aY (rF gE) ((au 0)) (dC (.int 3)))) (dC .bX))) ((aY (rF eA) ((aY (mS v7 fun i j=>.int (i / j)) ((aY (rF eA) ((au 2)) (dC (.int 1)))) ((aY (rF gE) ((au 0)) (dC (.int 2)))))) (dC (.int 1)))) ((aY (rF gE) ((au 0)) (dC (.int 3))))))) (dH 3 ((iF 1 (m4 ((av ((bg IQ ((av ((au 4)) ((av ((aY (rF eA) ((aY (mS v7 fun i j=>.int (i / j)) ((aY (rF eA) ((au 2)) (dC (.int 1)))) ((aY (rF gE) ((au 0)) (dC (.int 2)))))) (dC (.int 1)))) (bq))))))) (bq)))) (gc 5) (Ct) ((aY (rF eA) ((aY (rF gE) ((au 0)) (dC (.int 1)))) ((aY (mS mW fun i j=>.int (i * j)) ((aY (rF gE) ((au 0)) (dC (.int 2)))) ((au 5)))))))))) (aS (dH 3 ((iF 1 (m4 ((av ((aY (rF eA) ((aY (mS v7 fun i j=>.int (i / j)) ((au 2)) (dC (.int 1440)))) (dC (.int 1)))) (bq)))) (gc 5) (dB (aY (zj false) ((aY (mS (fun _ j=>0<j) fun i j=>.int (i % j)) ((au 5)) (dC (.int 7)))) ((aY (rF gE) ((au 0)) (dC (.int 2)))))) ((aY (rF eA) ((aY (mS mW fun i j=>.int (i * j)) ((au 5)) (dC (.int 1440)))) ((aY (rF gE) ((au 0)) (dC (.int 1))))))))) (dH 3 ((iF 1 (jm ((au 3))) (gc 5) (dB (aY (zj true) ((au 5)) ((aY (rF gE) ((au 0)) (dC (.int 3)))))) ((au 5)))))))) (cO ((iF 1 (jm ((au 3))) (gc 5) (dB (EF (fun i j=>decide (i<j)) (fun i j=>decide (i<=j)) ((au 1)) ((au 5)) ((au 2)))) ((au 5)))))
def HW:∀ds Q,jH ds Q->yM { nx:=fun _=>Q .bX,rt:=fun d _=>Q d } (dq ["_law_clock_here","_law_start","_law_end","_law_some","_law_many"] ds):=by
 rintro ds Q ⟨c,a,e,rfl,hc,a0,ae,e1,q⟩;have big:∀{n:Nat},n<=200000->n<=sizeLine:=fun h=>ay h (by decide)
 refine ⟨fun Z=>∃(l:List Int) (s4:Sl),Z=[.sh (eM c),.sh (.int a),.sh (.int e),.sh (.lst (l.map D.int)),s4]/\l.length<=200000/\cI c a e (l.filter (VD a e)),?_,?_⟩
 ·cases c with
  | tm size left o =>
   simp! only [eM];cases o with
   | none =>
    simp! only [cD,cE];exact ⟨uE lq lq,[],_,rfl,by simp,Px⟩
   | some s =>
    simp! only [cD,cE];exact ⟨uE lq lq,[s+left],_,rfl,by simp,Px⟩
  | ev b f m =>
   have ⟨b0,b1,f0,f1,k9,em,hk0,hk9⟩:=hc;subst em;simp! only [eM,Pd];refine ⟨uE m7 lq,uE m7 m7,?_⟩;have d0:0<=(e+1) / f:=Int.ediv_nonneg (by omega) (by omega);have d1:(e+1) / f<=e+1:=Int.ediv_le_self _ (by omega)
   ·have hk:0<=k9/\k9<=9:=⟨hk0,hk9⟩
    simp! only [cD,cE];obtain ⟨n,hn⟩ : ∃n : Nat,(n : Int)=min k9 ((e+1) / f+1):=⟨(min k9 ((e+1) / f+1)).toNat,by omega⟩;refine gA (fC 0 n) (Hy fun k=>.int (b+f * k)) (fun Q h=>?_) (fun d hd=>?_) ?_ ?_
    ·simp! only [cD,cE]
     refine ⟨⟨by omega,by omega⟩,by omega,by omega,?_⟩;rw [show (min k9 ((e+1) / f+1)).toNat=n by omega];exact h
    ·rw [dP] at hd
     obtain ⟨x,hx,rfl⟩:=ak.mp hd;simp! only [cD,cE];exact ⟨.inl ⟨by omega,by omega⟩,rfl⟩
    ·exact big (ay (aJ ..) (by simp only [fC,List.length_map,List.length_range];omega))
    rw [dP,ix,List.map_map];exact ⟨listE b f 0 n,_,by rw [show (List.map ((fun k=>D.int (b+f * k)) ∘ fun i=>0+((i:Nat):Int)) (List.range n))=(listE b f 0 n).map D.int by unfold listE;rw [List.map_map];exact df fun i _=>by show D.int _=D.int _;rw [Int.mul_comm f]];rfl,by unfold listE;rw [List.length_map,List.length_range];omega,VE b0 (by omega) (by omega) hn⟩
  | al mi days sdy =>
   have ⟨m0,m1,dr,d7,sr,sl,s0⟩:=hc;simp! only [eM,Sf,Sg];refine ⟨uE sC lq,uE sC m7,?_⟩;have d0:0<=e / 1440:=Int.ediv_nonneg (by omega) (by decide);refine gA (fC 0 (e / 1440+1).toNat) (Py (fun d=>decide (d % 7∈days)) fun d=>d * 1440+mi) (fun Q h=>?_) (fun d hd=>?_) ?_ ?_
   ·simp! only [Dl.aS]
    exact ⟨⟨by decide,by decide⟩,by omega,by omega,h⟩
   ·rw [dP] at hd
    obtain ⟨x,hx,rfl⟩:=ak.mp hd;simp! only [Dl.aS];refine ⟨by decide,mT,?_⟩;have pk:∀c:Bool,decide (x % 7∈days)=c->Py (fun d=>decide (d % 7∈days)) (fun d=>d * 1440+mi) (D.int x)=if c=true then some (D.int (x * 1440+mi)) else none:=fun c h=>by subst h;rfl
    exact ku (fun h=>⟨.inr ⟨by decide,by decide⟩,pk true (lu.symm.trans h)⟩) fun h=>pk false (lu.symm.trans (Bool.eq_false_iff.mpr h))
   ·exact big (ay (aJ ..) (by simp only [fC,List.length_map,List.length_range];omega))
   rw [dP,BI];have lz:(((((List.range (e / 1440+1).toNat).map fun i=>0+((i:Nat):Int)).filter fun d=>decide (d % 7∈days)).map fun d=>d * 1440+mi)).length<=200000:=by
    rw [List.length_map];exact ay (bD ..) (by rw [List.length_map,List.length_range];omega)
   have ra:=VF (mi:=mi) (days:=days) (sdy:=sdy) (a:=a) (e:=e) m0 (by omega) a0;generalize ((((List.range (e / 1440+1).toNat).map fun i=>0+((i:Nat):Int)).filter fun d=>decide (d % 7∈days)).map fun d=>d * 1440+mi)=l0 at lz ra ⊢;refine gA (l0.map D.int) (qR fun t=>decide (t∉sdy)) (fun Q h=>?_) (fun d hd=>?_) ?_ ?_
   ·simp! only [Dl.aS]
    exact h
   ·obtain ⟨x,hx,rfl⟩:=ak.mp hd
    simp! only [Dl.aS];refine ⟨mT,?_⟩;exact ku (fun h=>kG (by have:=lu.symm.trans h;simpa using this)) (fun h=>jE (by have:decide (x∈sdy)=true:=lu.symm.trans (by simpa using h);simpa using this))
   ·exact big (ay (aJ ..) (by rw [List.length_map];exact lz))
   rw [gZ];exact ⟨_,_,rfl,ay (bD ..) lz,ra⟩
 ·rintro Z ⟨l,s4,rfl,hz,hr⟩
  simp! only [Dl.aS];refine gA (l.map D.int) (qR (VD a e)) (fun Q h=>?_) (fun d hd=>?_) ?_ ?_
  ·simp! only [Dl.aS]
   exact h
  ·obtain ⟨x,hx,rfl⟩:=ak.mp hd
   simp! only [Dl.aS];exact ku (fun c1=>ku (fun c2=>kG (decide_eq_true ⟨c1,c2⟩)) fun c2=>jE (cR fun z=>c2 z.2)) fun c1=>jE (cR fun z=>c1 z.1)
  ·exact big (ay (aJ ..) (by rw [List.length_map];exact hz))
  rw [gZ,xY hr];exact q
def YO {c:Ck} (h:D9 c) {a e:Int} (he:e<=a+1500):(cW c a e).length<=9:=by
 have hr:=iA c a e;have nd:(cW c a e).Nodup:=hr.rise.imp fun {a b} h=>by omega
 cases c with
 | tm size left o =>
  cases o with
  | none=>exact ay (m6 nd (m:=[]) fun t ht=>by obtain ⟨_,_,s,z,_⟩:=(hr.mem t).mp ht;cases z) (by simp)
  | some s0=>exact ay (m6 nd (m:=[s0+left]) fun t ht=>by obtain ⟨_,_,s,z,rfl⟩:=(hr.mem t).mp ht;cases z;simp) (by simp)
 | ev b f m =>
  have ⟨b0,b1,f0,f1,k,em,k0,k9⟩:=h;subst em;refine ay (m6 nd (m:=listE b f 0 9) fun t ht=>?_) (by simp [listE]);obtain ⟨_,_,i,i0,rfl,hi⟩:=(hr.mem t).mp ht;have:=hi k rfl;exact xU.mpr ⟨i,i0,by show i<0+((9:Nat):Int);omega,rfl⟩
 | al mi days sdy =>
  have ⟨m0,m1,_⟩:=h;refine ay (m6 nd (m:=[((a-mi) / 1440+1) * 1440+mi,((a-mi) / 1440+2) * 1440+mi]) fun t ht=>?_) (by simp);obtain ⟨t1,t2,t3⟩:=(hr.mem t).mp ht;obtain ⟨d,d0,rfl,_⟩:=(sA m0 (by omega)).mp t3;have:d=(a-mi) / 1440+1\/d=(a-mi) / 1440+2:=by omega
  rcases this with rfl | rfl <;> simp
theorem Lk {a e:Int} (he:e<=a+1500):∀{cl:List (Str×Ck)},(∀p∈cl,D9 p.2)->(eP cl a e).length<=9 * cl.length
 | [],_=>by simp [eP]
 | p::r,h=>by
  have ih:=Lk he (cl:=r) fun q hq=>h q (aw _ hq)
  have l9:=YO (h p aj) he;have e1:eP (p::r) a e=((cW p.2 a e).map fun t=>[.inl t,.inr p.1])++eP r a e:=by unfold eP;rw [List.flatMap_cons]
  rw [e1,List.length_append,List.length_map,List.length_cons];omega
noncomputable def FE:Ck->Int
 | .al ..=>50400
 | _=>100
def YQ {c:Ck} (h:D9 c) {a t:Int} (ha:0<=a) (hn:fh c a (some t)):t<=a+FE c:=by
 obtain ⟨t1,t2,t3⟩:=hn.some t rfl;cases c with
 | tm size left o =>
  have ⟨_,_,l0,l1,ho⟩:=h;obtain ⟨s,es,rfl⟩:=t2;have:=ho s es;show s+left<=a+100;omega
 | ev b f m =>
  have ⟨b0,b1,f0,f1,_⟩:=h;obtain ⟨i,i0,rfl,hi⟩:=t2;show b+i * f<=a+100
  by_cases z:i=0
  ·subst z;omega
  ·have e:b+(i-1) * f=b+i * f-f:=by rw [Int.sub_mul];omega
   by_cases y:a<b+(i-1) * f
   ·exact absurd ⟨i-1,by omega,rfl,fun k hk=>by have:=hi k hk;omega⟩ (t3 _ y (by omega))
   ·omega
 | al mi days sdy =>
  have ⟨h1,h2,h3,h4,h5,h6,h7⟩:=h;show t<=a+50400;have hd:=t2.2.2.1;have hd7:=h4 _ hd;generalize hr:t / 1440 % 7=r at hd hd7;generalize hD:a / 1440+15=D0;have g:rg (.al mi days sdy) ((D0+(r-D0) % 7) * 1440+mi):=by
   refine (sA h1 (by omega)).mpr ⟨D0+(r-D0) % 7,by omega,rfl,?_,fun z=>?_⟩
   ·rw [show (D0+(r-D0) % 7) % 7=r by omega];exact hd
   ·have:=h7 _ z;omega
  by_cases w:(D0+(r-D0) % 7) * 1440+mi<t
  ·exact absurd g (t3 _ (by omega) w)
  ·omega
def gQ (h:Hs) (way:Int) (x:Str) (c:Ck) (now:Int) (d:D) (h':Hs):Prop :=
 if way=4/\h.sl=false then d=sX 3/\h'=h
 else if way<4/\h.sl=true then d=sX 2/\h'=h
 else if (way=2\/way=4)/\now<h.re then d=sX 0/\h'=h
 else if way=1/\p9 h.cl x=none then d=sX 1/\h'=h
 else if way=0 then d=.bX/\h'={ h with cl:=zD h.cl x c }
 else if way=1 then d=.bX/\h'={ h with cl:=yK h.cl x }
 else if way=3 then d=.bX/\h'={ h with sl:=true }
 else if way=2 then (∃ms,ms.Perm (eP h.cl h.re now)/\KS ms/\d=.lst (ms.map tD))/\h'={ h with re:=now }
 else (∃ms,ms.Perm (iO h.cl h.re now)/\KS ms/\d=.lst (ms.map tD))/\h'={ h with re:=now,sl:=false }
def nP {c A B A' B' G:Prop} [Decidable c] (h:if c then A else B) (h':if c then A' else B') (h1:A->A'->G) (h2:B->B'->G):G:=by
 by_cases z:c
 ·rw [if_pos z] at h h';exact h1 h h'
 ·rw [if_neg z] at h h';exact h2 h h'
def vH {d d2 e:D}{h1 h2 h:Hs} (a:d=e/\h1=h) (b:d2=e/\h2=h):d=d2/\h1=h2:=⟨a.1.trans b.1.symm,a.2.trans b.2.symm⟩
def Pz {cl:List (Str×Ck)}{a e:Int}{m1 m2:List (List Key)} (h1:m1.Perm (iO cl a e)) (k1:KS m1) (h2:m2.Perm (iO cl a e)) (k2:KS m2):m1=m2:=xZ (h1.trans h2.symm) (fun k hk=>BD k (h1.mem_iff.mp hk)) k1 k2
def PB {cl:List (Str×Ck)}{a e:Int}{m1 m2:List (List Key)} (h1:m1.Perm (eP cl a e)) (k1:KS m1) (h2:m2.Perm (eP cl a e)) (k2:KS m2):m1=m2:=xZ (h1.trans h2.symm) (fun k hk=>BC k (h1.mem_iff.mp hk)) k1 k2
def gQ.det {h:Hs}{way:Int}{x:Str}{c:Ck}{now:Int}{d d2:D}{h1 h2:Hs} (a:gQ h way x c now d h1) (b:gQ h way x c now d2 h2):d=d2/\h1=h2:=by
 unfold gQ at a b;refine nP a b vH fun a b=>nP a b vH fun a b=>nP a b vH fun a b=>nP a b vH fun a b=>nP a b vH fun a b=>nP a b vH fun a b=>nP a b vH fun a b=>nP a b ?_ ?_
 ·rintro ⟨⟨m1,p1,k1,rfl⟩,rfl⟩ ⟨⟨m2,p2,k2,rfl⟩,rfl⟩
  rw [PB p1 k1 p2 k2];exact ⟨rfl,rfl⟩
 ·rintro ⟨⟨m1,p1,k1,rfl⟩,rfl⟩ ⟨⟨m2,p2,k2,rfl⟩,rfl⟩
  rw [Pz p1 k1 p2 k2];exact ⟨rfl,rfl⟩
section
variable {h:Hs}{x:Str}{c c0:Ck}{now:Int}{ms:List (List Key)}
def gQ.r3 (e:h.sl=false):gQ h 4 x c now (sX 3) h:=by unfold gQ;rw [if_pos ⟨rfl,e⟩];exact ⟨rfl,rfl⟩
def gQ.r2 {way:Int} (hw:way<4) (e:h.sl=true):gQ h way x c now (sX 2) h:=by
 unfold gQ;rw [if_neg (by omega),if_pos ⟨hw,e⟩];exact ⟨rfl,rfl⟩
def gQ.ok {way:Int}{d:D}{h':Hs} (e:h.sl=decide (way=4)) (n:¬((way=2\/way=4)/\now<h.re)) (v:¬(way=1/\p9 h.cl x=none))
  (k:if way=0 then d=.bX/\h'={ h with cl:=zD h.cl x c } else if way=1 then d=.bX/\h'={ h with cl:=yK h.cl x } else if way=3 then d=.bX/\h'={ h with sl:=true }
   else if way=2 then (∃ms,ms.Perm (eP h.cl h.re now)/\KS ms/\d=.lst (ms.map tD))/\h'={ h with re:=now } else (∃ms,ms.Perm (iO h.cl h.re now)/\KS ms/\d=.lst (ms.map tD))/\h'={ h with re:=now,sl:=false }):gQ h way x c now d h':=by
 unfold gQ;rw [if_neg (fun z=>by rw [e,z.1] at z;exact absurd z.2 (by decide)),if_neg (fun z=>by rw [e] at z;exact absurd (of_decide_eq_true z.2) (by omega)),if_neg n,if_neg v];exact k
def gQ.r0 {way:Int} (hw:way=2\/way=4) (e:h.sl=decide (way=4)) (n:now<h.re):gQ h way x c now (sX 0) h:=by
 unfold gQ;rw [if_neg (fun z=>by rw [e,z.1] at z;exact absurd z.2 (by decide)),if_neg (fun z=>by rw [e] at z;exact absurd (of_decide_eq_true z.2) (by omega)),if_pos ⟨hw,n⟩];exact ⟨rfl,rfl⟩
def gQ.r1 (e:h.sl=false) (v:p9 h.cl x=none):gQ h 1 x c now (sX 1) h:=by
 unfold gQ;rw [if_neg (by omega),if_neg (by rw [e];simp),if_neg (by omega),if_pos ⟨rfl,v⟩];exact ⟨rfl,rfl⟩
def gQ.i0 (e:h.sl=false):gQ h 0 x c now .bX { h with cl:=zD h.cl x c }:=gQ.ok e (by omega) (by omega) ⟨rfl,rfl⟩
def gQ.i1 (e:h.sl=false) (v:p9 h.cl x=some c0):gQ h 1 x c now .bX { h with cl:=yK h.cl x }:=gQ.ok e (by omega) (by rw [v];simp) ⟨rfl,rfl⟩
def gQ.i3 (e:h.sl=false):gQ h 3 x c now .bX { h with sl:=true }:=gQ.ok e (by omega) (by omega) ⟨rfl,rfl⟩
def gQ.i2 (e:h.sl=false) (n:¬now<h.re) (p:ms.Perm (eP h.cl h.re now)) (k:KS ms):gQ h 2 x c now (.lst (ms.map tD)) { h with re:=now }:=gQ.ok e (by omega) (by omega) ⟨⟨ms,p,k,rfl⟩,rfl⟩
def gQ.i4 (e:h.sl=true) (n:¬now<h.re) (p:ms.Perm (iO h.cl h.re now)) (k:KS ms):gQ h 4 x c now (.lst (ms.map tD)) { h with re:=now,sl:=false }:=gQ.ok e (by omega) (by omega) ⟨⟨ms,p,k,rfl⟩,rfl⟩
end
structure HK (h:Hs):Prop where
 lo:0<=h.re
 hi:h.re<=20000
 ET:h.cl.length<=4
 nd:(h.cl.map (·.1)).Nodup
 KQ:∀p∈h.cl,p.1="p"\/p.1="q"\/p.1="r"
 ck:∀p∈h.cl,D9 p.2
def nr (C:Nat):Ca:=fun as Q=>(∃(h:Hs) (way:Int) (x:Str) (c:Ck) (now:Int),as=[.o C h.fs,.v (.int way),.v (.str x),.v (eM c),.v (.int now)]/\HK h/\0<=way/\way<=4/\0<=now/\now<=h.re+1500 /\
  ∀d h',gQ h way x c now d h'->Q d [.o C h'.fs,.v (.int way),.v (.str x),.v (eM c),.v (.int now)]) \/
 ∃(h:Hs) (x:Str),as=[.o C h.fs,.v (.int 5),.v (.str x),.v .bX,.v (.int 0)]/\p9 h.cl x=none/\Q (sX 1) [.o C h.fs,.v (.int 5),.v (.str x),.v .bX,.v (.int 0)]
def J4 (C:Nat):∀as Q,nr C as Q->as.length=5:=by
 rintro as Q (⟨_,_,_,_,_,rfl,_⟩ | ⟨_,_,rfl,_⟩) <;> rfl
def BJ (af:Nat):dA:=(O6 (OY (aS (dN (dB (aY dZ ((au 1)) (dC (.int 0)))) (cO ((fb 0 af "put" (hV af) ((dk ((au 2)) ((dk ((au 3)) (fc)))))))) (cF)) (aS (dN (dB (aY dZ ((au 1)) (dC (.int 1)))) (cO ((fb 0 af "drop" (iB af) ((dk ((au 2)) (fc)))))) (cF)) (aS (dN (dB (aY dZ ((au 1)) (dC (.int 2)))) (cO ((fb 0 af "tick" (iC af) ((dk ((au 4)) (fc)))))) (cF)) (aS (dN (dB (aY dZ ((au 1)) (dC (.int 3)))) (cO ((fb 0 af "sleep" (fS af) (fc)))) (cF)) (cO ((Qo (dB (aY dZ ((au 1)) (dC (.int 4)))) ((fb 0 af "wake" (mF af) ((dk ((au 4)) (fc))))) ((fb 0 af "clock" (iP af) ((dk ((au 2)) (fc)))))))))))) (fun Pk=>(fun Z=>(dN (dB (aY dZ ((au 1)) (dC (.int 0)))) (cO ((fb 0 af "put" (hV af) ((dk ((au 2)) ((dk ((au 3)) (fc)))))))) (cF)) { nx:=(fun Z=>(dN (dB (aY dZ ((au 1)) (dC (.int 1)))) (cO ((fb 0 af "drop" (iB af) ((dk ((au 2)) (fc)))))) (cF)) { nx:=(fun Z=>(dB (aY dZ ((au 1)) (dC (.int 2)))) Z fun q Z1=>if q=true then (jD 0 af "tick" (fZ af) Pk ((dk ((au 4)) (fc)))) Z1 else (fun Z=>(dN (dB (aY dZ ((au 1)) (dC (.int 3)))) (cO ((fb 0 af "sleep" (fS af) (fc)))) (cF)) { nx:=(fun Z=>(dB (aY dZ ((au 1)) (dC (.int 4)))) Z fun q Z1=>if q=true then (jD 0 af "wake" (gb af) Pk ((dk ((au 4)) (fc)))) Z1 else (fun _=>False) Z1),rt:=fun _ _=>False } Z) Z1),rt:=fun _ _=>False } Z),rt:=fun _ _=>False } Z)) (.tup [.str "refused",.int 0])) (O6 (OY (lP) (fun Pk=>(fun Z=>(dN (dB (aY dZ ((au 1)) (dC (.int 0)))) (cO ((fb 0 af "put" (hV af) ((dk ((au 2)) ((dk ((au 3)) (fc)))))))) (cF)) { nx:=(fun Z=>(dB (aY dZ ((au 1)) (dC (.int 1)))) Z fun q Z1=>if q=true then (jD 0 af "drop" (fF af) Pk ((dk ((au 2)) (fc)))) Z1 else (fun Z=>(dN (dB (aY dZ ((au 1)) (dC (.int 2)))) (cO ((fb 0 af "tick" (iC af) ((dk ((au 4)) (fc)))))) (cF)) { nx:=(fun Z=>(dN (dB (aY dZ ((au 1)) (dC (.int 3)))) (cO ((fb 0 af "sleep" (fS af) (fc)))) (cF)) { nx:=(fun Z=>(dB (aY dZ ((au 1)) (dC (.int 4)))) Z fun q Z1=>if q=true then (fun _=>False) Z1 else (jD 0 af "clock" (fj af) Pk ((dk ((au 2)) (fc)))) Z1),rt:=fun _ _=>False } Z),rt:=fun _ _=>False } Z) Z1),rt:=fun _ _=>False } Z)) (.tup [.str "refused",.int 1])) (O6 (OY (lP) (fun Pk=>(fun Z=>(dB (aY dZ ((au 1)) (dC (.int 0)))) Z fun q Z1=>if q=true then (jD 0 af "put" (fX af) Pk ((dk ((au 2)) ((dk ((au 3)) (fc)))))) Z1 else (fun Z=>(dB (aY dZ ((au 1)) (dC (.int 1)))) Z fun q Z1=>if q=true then (jD 0 af "drop" (fO af) Pk ((dk ((au 2)) (fc)))) Z1 else (fun Z=>(dB (aY dZ ((au 1)) (dC (.int 2)))) Z fun q Z1=>if q=true then (jD 0 af "tick" (fP af) Pk ((dk ((au 4)) (fc)))) Z1 else (fun Z=>(dB (aY dZ ((au 1)) (dC (.int 3)))) Z fun q Z1=>if q=true then (jD 0 af "sleep" (fE af) Pk fc) Z1 else (fun _=>False) Z1) Z1) Z1) Z1)) (.tup [.str "refused",.int 2])) (OY (lP) (fun Pk=>(fun Z=>(dN (dB (aY dZ ((au 1)) (dC (.int 0)))) (cO ((fb 0 af "put" (hV af) ((dk ((au 2)) ((dk ((au 3)) (fc)))))))) (cF)) { nx:=(fun Z=>(dN (dB (aY dZ ((au 1)) (dC (.int 1)))) (cO ((fb 0 af "drop" (iB af) ((dk ((au 2)) (fc)))))) (cF)) { nx:=(fun Z=>(dN (dB (aY dZ ((au 1)) (dC (.int 2)))) (cO ((fb 0 af "tick" (iC af) ((dk ((au 4)) (fc)))))) (cF)) { nx:=(fun Z=>(dN (dB (aY dZ ((au 1)) (dC (.int 3)))) (cO ((fb 0 af "sleep" (fS af) (fc)))) (cF)) { nx:=(fun Z=>(dB (aY dZ ((au 1)) (dC (.int 4)))) Z fun q Z1=>if q=true then (jD 0 af "wake" (fY af) Pk ((dk ((au 4)) (fc)))) Z1 else (fun _=>False) Z1),rt:=fun _ _=>False } Z),rt:=fun _ _=>False } Z),rt:=fun _ _=>False } Z),rt:=fun _ _=>False } Z)) (.tup [.str "refused",.int 3])))))
def J6 (C:Nat):∀(hs:Nat->Nat) as Q,nr C as Q->BJ C { nx:=fun Z=>Q .bX (dO hs 0 as Z),rt:=fun d Z=>Q d (dO hs 0 as Z) } (dt ["_law_house","_law_way","_law_name","_law_clock_here","_law_now","_law_e"] hs as):=by
 rintro hs as Q (⟨h,way,x,c,now,rfl,hk,w0,w4,n0,n1,q⟩ | ⟨h,x,rfl,hx,q⟩)
 ·have hw:way=0\/way=1\/way=2\/way=3\/way=4:=by omega
  have dead:∀e:Int,Q (sX e) [.o C h.fs,.v (.int way),.v (.str x),.v (eM c),.v (.int now)]->∀Z,dO hs 0 [.o C h.fs,.v (.int way),.v (.str x),.v (eM c),.v (.int now)] Z=[.o C h.fs,.v (.int way),.v (.str x),.v (eM c),.v (.int now)]->Q (sX e) (dO hs 0 [.o C h.fs,.v (.int way),.v (.str x),.v (eM c),.v (.int now)] Z):=fun e q Z z=>by rw [z];exact q
  rcases hw with rfl | rfl | rfl | rfl | rfl
  ·cases e:h.sl with
   | true =>
    refine .inr (.inr (.inl (.inr ⟨_,?_,dead 2 (q _ _ (gQ.r2 (by decide) e))⟩)));simp! only [Hs.Ts,uo];exact ⟨h,_,_,rfl,e⟩
   | false =>
    refine .inl (.inl ?_);simp! only [Hs.Ts,uo];refine ⟨h,x,c,rfl,e,by have:=hk.ET;omega,?_⟩;simp! only [Dl.aS];exact q _ _ (gQ.i0 e)
  ·cases e:h.sl with
   | true =>
    refine .inr (.inr (.inl (.inr ⟨_,?_,dead 2 (q _ _ (gQ.r2 (by decide) e))⟩)));simp! only [Hs.JS,uo];exact ⟨h,_,rfl,e⟩
   | false =>
    cases v:p9 h.cl x with
    | none =>
     refine .inr (.inl (.inr ⟨_,?_,dead 1 (q _ _ (gQ.r1 e v))⟩));simp! only [Hs.JS,uo];exact ⟨h,_,rfl,e,v⟩
    | some c0 =>
     refine .inl (.inl ?_);simp! only [Hs.JS,uo];refine ⟨h,x,c0,rfl,e,v,?_⟩;simp! only [Dl.aS];exact q _ _ (gQ.i1 e v)
  ·cases e:h.sl with
   | true =>
    refine .inr (.inr (.inl (.inr ⟨_,?_,dead 2 (q _ _ (gQ.r2 (by decide) e))⟩)));simp! only [Hs.JT,uo];exact ⟨h,_,rfl,e⟩
   | false =>
    by_cases lt:now<h.re
    ·refine .inl (.inr ⟨_,?_,dead 0 (q _ _ (gQ.r0 (.inl rfl) e lt))⟩)
     simp! only [Hs.JT,uo];exact ⟨h,_,rfl,e,lt⟩
    ·refine .inl (.inl ?_)
     simp! only [Hs.JT,uo];refine ⟨h,now,rfl,e,by omega,by have:=hk.hi;omega,by omega,by have:=hk.ET;omega,fun p hp=>(hk.ck p hp).ok,?_,fun ms pm ks=>?_⟩
     ·have:=Lk n1 hk.ck;have:=hk.ET;omega
     ·simp! only [Dl.aS]
      exact q _ _ (gQ.i2 e lt pm ks)
  ·cases e:h.sl with
   | true =>
    refine .inr (.inr (.inl (.inr ⟨_,?_,dead 2 (q _ _ (gQ.r2 (by decide) e))⟩)));simp! only [Hs.Lf,uo];exact ⟨h,rfl,e⟩
   | false =>
    refine .inl (.inl ?_);simp! only [Hs.Lf,uo];refine ⟨h,rfl,e,?_⟩;simp! only [Dl.aS];exact q _ _ (gQ.i3 e)
  ·cases e:h.sl with
   | false =>
    refine .inr (.inr (.inr (.inr ⟨_,?_,dead 3 (q _ _ (gQ.r3 e))⟩)));simp! only [Hs.JU,uo];exact ⟨h,_,rfl,e⟩
   | true =>
    by_cases lt:now<h.re
    ·refine .inl (.inr ⟨_,?_,dead 0 (q _ _ (gQ.r0 (.inr rfl) e lt))⟩)
     simp! only [Hs.JU,uo];exact ⟨h,_,rfl,e,lt⟩
    ·refine .inl (.inl ?_)
     simp! only [Hs.JU,uo];refine ⟨h,now,rfl,e,by have:=hk.lo;omega,by omega,by have:=hk.hi;omega,by have:=hk.ET;omega,fun p hp=>(hk.ck p hp).ok,fun ms pm ks=>?_⟩;simp! only [Dl.aS];exact q _ _ (gQ.i4 e lt pm ks)
 ·refine .inr (.inl (.inr ⟨fun Z=>dO hs 0 [.o C h.fs,.v (.int 5),.v (.str x),.v .bX,.v (.int 0)] Z=[.o C h.fs,.v (.int 5),.v (.str x),.v .bX,.v (.int 0)],?_,fun Z e=>by show Q _ _;rw [e];exact q⟩))
  simp! only [Hs.Le,uo];exact ⟨h,x,rfl,hx⟩
noncomputable def rS (re:Int) (as:D) (cl:List (Str×Ck)):List (Str×Fl):=[("now",.sh (.int re)),("asleep",.sh as),("clocks",.dc (cl.map kc))]
noncomputable def vI (h:Hs):D:=if h.sl then .int h.re else .bX
section
variable (re:Int) (as:D) (cl:List (Str×Ck))
theorem fI:(rS re as cl).lookup ("now":Str)=some (.sh (.int re)):=rfl
theorem nQ:(rS re as cl).lookup ("asleep":Str)=some (.sh as):=rfl
theorem jI:(rS re as cl).lookup ("clocks":Str)=some (.dc (cl.map kc)):=rfl
theorem nR:(rS re as cl).lookup ("":Str)=none:=rfl
theorem J8:((rS re as cl).length<999)=True:=eq_true (by show 3<999;decide)
theorem TC (x:Int):fN "now" (.sh (.int x)) (rS re as cl)=rS x as cl:=rfl
theorem PC (d:D):fN "asleep" (.sh d) (rS re as cl)=rS re d cl:=rfl
theorem TF (l:List (Str×Ck)):fN "clocks" (.dc (l.map kc)) (rS re as cl)=rS re as l:=rfl
end
def FF (cl:List (Str×Ck)):(cl.map kc).map (·.1)=(cl.map (·.1)).map Sum.inr:=by rw [List.map_map,List.map_map];rfl
theorem o8 (x:Str):zk (.str x)=some (.inr x):=rfl
theorem j8 {α β:Type}{f:α->β}:∀{m:List β}{l:List α},m.Perm (l.map f)->∃l':List α,l'.Perm l/\l'.map f=m
 | [],l,h=>⟨[],by rw [List.map_eq_nil_iff.mp (List.nil_perm.mp h)],rfl⟩
 | b::m,l,h=>by
  obtain ⟨a,ha,rfl⟩:=ak.mp (h.mem_iff.mp (aj (a:=b) (l:=m)));obtain ⟨s,t,rfl⟩:=List.append_of_mem ha;have e:(List.map f (s++a::t)).Perm (f a::List.map f (s++t)):=by
   rw [List.map_append,List.map_append,List.map_cons];exact List.perm_middle
  obtain ⟨l',p,e'⟩:=j8 (List.Perm.cons_inv (h.trans e));exact ⟨a::l',(List.Perm.cons a p).trans List.perm_middle.symm,by rw [List.map_cons,e']⟩
theorem wQ {x:Str}{c:Ck}:∀{cl:List (Str×Ck)},(cl.map (·.1)).Nodup->(x,c)∈cl->p9 cl x=some c
 | [],_,h=>by cases h
 | p::r,nd,h=>by
  rw [List.map_cons,List.nodup_cons] at nd;unfold p9;rcases aE.mp h with rfl | h
  ·rw [List.find?_cons_of_pos (by simp)];rfl
  ·rw [List.find?_cons_of_neg (by
    have:p.1≠x:=fun z=>nd.1 (by rw [z];exact ak.mpr ⟨_,h,rfl⟩)
    simpa using this)]
   exact wQ nd.2 h
def FG (l:List Int):(D.lst (iL l)).ok=true/\(D.lst (iL l)).dep<=1:=by
 refine ⟨wO fun d hd=>by obtain ⟨x,_,rfl⟩:=ak.mp hd;rfl,?_⟩;show D.sd (iL l)+1<=1;have:=sW (n:=0) (l:=iL l) fun d hd=>by obtain ⟨x,hx,rfl⟩:=ak.mp hd;exact ao _
 omega
def ML {l:List Int}{t:Int} (h:l.getLast?=some t):vU (iL l) (-1)=some (.int t):=by
 obtain ⟨ys,rfl⟩:=List.getLast?_eq_some_iff.mp h;exact Hw (by simp [iL])
def uv:Ca:=fun as Q=>∃(h:Hs) (way:Int) (x:Str) (c:Ck) (now:Int),as=[.r (rS h.re (vI h) h.cl),.v (.int way),.v (.str x),.v (eM c),.v (.int now)]/\HK h/\0<=way/\way<=4/\0<=now/\now<=h.re+1500 /\
  ∀d h',gQ h way x c now d h'->Q d [.r (rS h'.re (vI h') h'.cl),.v (.int way),.v (.str x),.v (eM c),.v (.int now)]
def MM:∀as Q,uv as Q->as.length=5:=by
 rintro as Q ⟨_,_,_,_,_,rfl,_⟩;rfl
def nT:dA:=Hr 5 (cO (au 5))
def HX:dA:=Gw (dN (dB (aY dZ ((au 1)) (dC (.int 0)))) (E5 0 "clocks" ((rG 3)) ((rG 2))) (dN (dB (aY dZ ((au 1)) (dC (.int 1)))) (E6 0 "clocks" ((rG 2))) (dN (dB (aY dZ ((au 1)) (dC (.int 3)))) (He 0 "asleep" ((dX ((zl 0 "now"))))) (aS (LM 5 (bq)) (aS (Cm (jm ((Bi 0 "clocks"))) (gc 6) (aS (dH 7 ((bg jH ((av ((dX ((vA 0 "clocks" ((rG 6)))))) ((av ((dX ((zl 0 "now")))) ((av ((au 4)) (bq)))))))))) (dN (dB (aY dZ ((au 1)) (dC (.int 2)))) (Fe 5 ((iF 1 (jm ((au 7))) (gc 8) (Ct) ((nG ((av ((au 8)) ((av ((au 6)) (bq)))))))))) (dN (dB (aY zi ((au 7)) ((uC (bq))))) (LP 5 ((nG ((av ((au 6)) ((av ((aY (rF gE) ((au 7)) ((XF Gv (dC (.int 1)))))) ((av ((bg se ((av ((au 7)) (bq))))) (bq)))))))))) (cF))))) (aS (Hr 5 (Ff 5 ((av ((au 5)) (bq))))) (aS (He 0 "now" ((au 4))) (He 0 "asleep" (dC .bX))))))))) (nT)
def dQ:dA:=aS (dH 5 (dC .bX)) (HX)
def dR:dA:=aS (dN (wb (dB (aY dZ ((au 1)) (dC (.int 1)))) (E7 0 "clocks" ((rG 2)))) (cO ((nG ((av (dC (.str "refused")) ((av (dC (.int 1)) (bq)))))))) (cF)) (dQ)
def dS:dA:=aS (dN (wb (dB (aY (zj false) ((au 1)) ((nG ((av (dC (.int 2)) ((av (dC (.int 4)) (bq))))))))) (dB (aY (wm fun i j=>.bl (decide (i<j))) ((au 4)) ((dX ((zl 0 "now"))))))) (cO ((nG ((av (dC (.str "refused")) ((av (dC (.int 0)) (bq)))))))) (cF)) (dR)
def dU:dA:=aS (dN (wb (dB (aY (wm fun i j=>.bl (decide (i<j))) ((au 1)) (dC (.int 4)))) (dB (aY qQ ((dX ((zl 0 "asleep")))) (dC .bX)))) (cO ((nG ((av (dC (.str "refused")) ((av (dC (.int 2)) (bq)))))))) (cF)) (dS)
def fB:dA:=aS (dN (wb (dB (aY dZ ((au 1)) (dC (.int 4)))) (dB (aY AH ((dX ((zl 0 "asleep")))) (dC .bX)))) (cO ((nG ((av (dC (.str "refused")) ((av (dC (.int 3)) (bq)))))))) (cF)) (dU)
def CK (hs:Nat->Nat) (h:Hs) (way:Int) (x:Str) (c:Ck) (now:Int) (Z:Ev):Prop:=∃(s5 s6 s7:Sl) (d:D) (h':Hs),gQ h way x c now d h'/\Z=[.rc (some (hs 0)) (rS h'.re (vI h') h'.cl),.sh (.int way),.sh (.str x),.sh (eM c),.sh (.int now),s5,s6,s7]/\(s5=.sh d\/∃l,d=.lst l/\s5=.ow l)
def CK.val {hs:Nat->Nat}{h h':Hs}{way now:Int}{x:Str}{c:Ck}{d:D}{fs:List (Str×Fl)}{s6 s7:Sl} (st:gQ h way x c now d h') (e:fs=rS h'.re (vI h') h'.cl) :
  CK hs h way x c now [.rc (some (hs 0)) fs,.sh (.int way),.sh (.str x),.sh (eM c),.sh (.int now),.sh d,s6,s7]:=⟨_,s6,s7,d,h',st,by rw [e],.inl rfl⟩
def CK.own {hs:Nat->Nat}{h h':Hs}{way now:Int}{x:Str}{c:Ck}{l:List D}{fs:List (Str×Fl)}{s6 s7:Sl} (st:gQ h way x c now (.lst l) h') (e:fs=rS h'.re (vI h') h'.cl) :
  CK hs h way x c now [.rc (some (hs 0)) fs,.sh (.int way),.sh (.str x),.sh (eM c),.sh (.int now),.ow l,s6,s7]:=⟨_,s6,s7,_,h',st,by rw [e],.inr ⟨l,rfl,rfl⟩⟩
def wR {hs:Nat->Nat}{h:Hs}{way now:Int}{x:Str}{c:Ck}{Q:D->List Ar->Prop} (q:∀d h',gQ h way x c now d h'->Q d [.r (rS h'.re (vI h') h'.cl),.v (.int way),.v (.str x),.v (eM c),.v (.int now)]) (Z:Ev)
  (hd:CK hs h way x c now Z) :
  nT { nx:=fun Z=>Q .bX (dO hs 0 [.r (rS h.re (vI h) h.cl),.v (.int way),.v (.str x),.v (eM c),.v (.int now)] Z),rt:=fun d Z=>Q d (dO hs 0 [.r (rS h.re (vI h) h.cl),.v (.int way),.v (.str x),.v (eM c),.v (.int now)] Z) } Z:=by
 obtain ⟨s5,s6,s7,d,h',st,rfl,e⟩:=hd;rcases e with rfl | ⟨l,rfl,rfl⟩
 ·simp! only [nT]
  exact q _ _ st
 ·simp! only [nT]
  exact q _ _ st
theorem PD (w:Int):okIn (.int w) [.int 2,.int 4]=True:=eq_true (mT (l:=[2,4]))
theorem PF:inD (.int 0) [.int 2,.int 4]=false:=rfl
theorem in1:inD (.int 1) [.int 2,.int 4]=false:=rfl
theorem PH:inD (.int 2) [.int 2,.int 4]=true:=rfl
theorem PJ:inD (.int 3) [.int 2,.int 4]=false:=rfl
theorem in4:inD (.int 4) [.int 2,.int 4]=true:=rfl
def MN:∀(hs:Nat->Nat) as Q,uv as Q->fB { nx:=fun Z=>Q .bX (dO hs 0 as Z),rt:=fun d Z=>Q d (dO hs 0 as Z) } (dt ["_law_mine","_law_way","_law_name","_law_clock_here","_law_now","_law_found","_law_one","_law_some"] hs as):=by
 rintro hs as Q ⟨h,way,x,c,now,rfl,hk,w0,w4,n0,n1,q⟩;have hw:way=0\/way=1\/way=2\/way=3\/way=4:=by omega
 have es:∀b,h.sl=b->vI h=if b then .int h.re else .bX:=fun b e=>by unfold vI;rw [e]
 have ET:=hk.ET;have eb:∀n:Nat,n<=10->n<sizeLine:=fun n hn=>dz (by omega)
 rcases hw with rfl | rfl | rfl | rfl | rfl
 ·cases e:h.sl with
  | true =>
   simp! only [fB,dU,dS,dR,dQ,gj,nQ,fI,jI,nR,es _ e,PD,PF,in1,PH,PJ,in4,Int.reduceEq,Int.reduceLT,eT,eS];have z:=q _ _ (gQ.r2 (by decide) e);rw [es _ e] at z;exact z
  | false =>
   simp! only [fB,dU,dS,dR,dQ,gj,nQ,fI,jI,nR,es _ e,PD,PF,in1,PH,PJ,in4,Int.reduceEq,Int.reduceLT,eT,eS];have z:=wR (hs:=hs) q;rw [es _ e] at z;refine ⟨_,?_,z⟩;simp! only [gj,yF,jI,o8,Int.reduceEq];refine ⟨by rw [List.length_map];exact eb _ (by omega),?_⟩;refine CK.val (h':={ h with cl:=zD h.cl x c }) (gQ.i0 e) ?_;rw [Lh,TF];simp only [vI,e];rfl
 ·cases e:h.sl with
  | true =>
   simp! only [fB,dU,dS,dR,dQ,gj,nQ,fI,jI,nR,es _ e,PD,PF,in1,PH,PJ,in4,Int.reduceEq,Int.reduceLT,eT,eS];have z:=q _ _ (gQ.r2 (by decide) e);rw [es _ e] at z;exact z
  | false =>
   cases v:p9 h.cl x with
   | none =>
    simp! only [fB,dU,dS,dR,dQ,gj,nQ,fI,jI,nR,es _ e,PD,PF,in1,PH,PJ,in4,Int.reduceEq,Int.reduceLT,eT,eS];rw [j6,v];rw [if_pos (show (Option.map eM none).isSome=false from rfl)];have z:=q _ _ (gQ.r1 e v);rw [es _ e] at z;exact z
   | some c0 =>
    simp! only [fB,dU,dS,dR,dQ,gj,nQ,fI,jI,nR,es _ e,PD,PF,in1,PH,PJ,in4,Int.reduceEq,Int.reduceLT,eT,eS];rw [j6,v,if_neg (by simp)];have z:=wR (hs:=hs) q;rw [es _ e] at z;refine ⟨_,?_,z⟩;simp! only [gj,yF,jI,o8,Int.reduceEq];refine ⟨.inr x,eM c0,rfl,by rw [j6,v];rfl,?_⟩;refine CK.val (h':={ h with cl:=yK h.cl x }) (gQ.i1 e v) ?_;rw [BA,TF];simp only [vI,e];rfl
 ·cases e:h.sl with
  | true =>
   simp! only [fB,dU,dS,dR,dQ,gj,nQ,fI,jI,nR,es _ e,PD,PF,in1,PH,PJ,in4,Int.reduceEq,Int.reduceLT,eT,eS];have z:=q _ _ (gQ.r2 (by decide) e);rw [es _ e] at z;exact z
  | false =>
   simp! only [fB,dU,dS,dR,dQ,gj,nQ,fI,jI,nR,es _ e,PD,PF,in1,PH,PJ,in4,Int.reduceEq,Int.reduceLT,eT,eS];refine ku (fun lt=>?_) fun lt=>?_
   ·have z:=q _ _ (gQ.r0 (.inl rfl) e lt)
    rw [es _ e] at z;exact z
   ·
    have z:=wR (hs:=hs) q;rw [es _ e] at z;refine ⟨_,?_,z⟩;simp! only [Cm,gj,jI,Int.reduceEq];refine ⟨h.cl.map (·.1),FF _,by rw [List.length_map];omega,fun ms pm tx=>?_⟩;obtain ⟨cm,pc,rfl⟩:=j8 pm;refine ⟨fun j Z=>∃s6 s7:Sl,Z=[.rc (some (hs 0)) (rS h.re .bX h.cl),.sh (.int 2),.sh (.str x),.sh (eM c),.sh (.int now),.ow ((eP (cm.take j) h.re now).map tD),s6,s7],⟨.no,.no,rfl⟩,?_,?_⟩
    ·rintro j d Z hj ⟨s6,s7,rfl⟩
     rw [List.getElem?_map,List.getElem?_map] at hj;cases hp:cm[j]? with
     | none=>rw [hp] at hj;cases hj
     | some p =>
     rw [hp] at hj;cases hj;have pin:p∈h.cl:=pc.mem_iff.mp (bf hp);have pv:=wQ (x:=p.1) (c:=p.2) hk.nd pin;simp! only [gj,jI,fI,o8,Int.reduceEq];refine ⟨.inr p.1,eM p.2,rfl,by rw [j6,pv];rfl,p.2,h.re,now,rfl,hk.ck p pin,hk.lo,by omega,by have:=hk.hi;omega,?_⟩;simp! only [Dl.aS];have lr:=YO (hk.ck p pin) n1;have small:(eP (cm.take j) h.re now).length<=1000:=by
      have:=Lk n1 (cl:=cm.take j) fun p hp=>hk.ck p (pc.mem_iff.mp (List.mem_of_mem_take hp))
      have:(cm.take j).length<=cm.length:=by rw [List.length_take];omega
      have:=pc.length_eq;omega
     refine gA (iL (cW p.2 h.re now)) (Hy fun t=>tD [.inl t,.inr p.1]) (fun Q h1=>?_) (fun d hd=>?_) ?_ ?_
     ·simp! only [Dl.aS];exact h1
     ·obtain ⟨t,_,rfl⟩:=ak.mp hd
      simp! only [Dl.aS]
      rfl
     ·rw [ix,List.length_map];exact bj (eb _ (by omega))
     ·rw [ix]
      simp! only [List.length_map];refine ⟨by have:=dz (n:=(eP (cm.take j) h.re now).length+(cW p.2 h.re now).length) (by omega);omega,.sh (.str p.1),.sh (.lst (iL (cW p.2 h.re now))),?_⟩;rw [take_snoc hp,x5,ya,List.map_append,List.map_map]
      rfl
    ·rintro Z ⟨s6,s7,rfl⟩
     rw [List.length_map,List.length_map,List.take_length];simp! only [fI,nQ,nR,J8,PC,TC];refine ⟨eP cm h.re now,[false,true],rfl,BC,by decide,by have:=Lk n1 (cl:=cm) fun p hp=>hk.ck p (pc.mem_iff.mp hp);have:=pc.length_eq;omega,fun mw pw kw=>?_⟩;refine ⟨rfl,rfl,?_⟩;exact CK.own (h':={ h with re:=now }) (gQ.i2 e lt (pw.trans (JV pc _ _)) kw) (by simp only [vI,e];rfl)
 ·cases e:h.sl with
  | true =>
   simp! only [fB,dU,dS,dR,dQ,gj,nQ,fI,jI,nR,es _ e,PD,PF,in1,PH,PJ,in4,Int.reduceEq,Int.reduceLT,eT,eS];have z:=q _ _ (gQ.r2 (by decide) e);rw [es _ e] at z;exact z
  | false =>
   simp! only [fB,dU,dS,dR,dQ,gj,nQ,fI,jI,nR,es _ e,PD,PF,in1,PH,PJ,in4,Int.reduceEq,Int.reduceLT,eT,eS];have z:=wR (hs:=hs) q;rw [es _ e] at z;refine ⟨_,?_,z⟩;simp! only [fI,nQ,nR,J8,PC,Int.reduceEq];refine ⟨rfl,?_⟩;refine CK.val (h':={ h with sl:=true }) (gQ.i3 e) ?_;simp only [vI];rfl
 ·cases e:h.sl with
  | false =>
   simp! only [fB,dU,dS,dR,dQ,gj,nQ,fI,jI,nR,es _ e,PD,PF,in1,PH,PJ,in4,Int.reduceEq,Int.reduceLT,eT,eS];have z:=q _ _ (gQ.r3 e);rw [es _ e] at z;exact z
  | true =>
   simp! only [fB,dU,dS,dR,dQ,gj,nQ,fI,jI,nR,es _ e,PD,PF,in1,PH,PJ,in4,Int.reduceEq,Int.reduceLT,eT,eS];refine ku (fun lt=>?_) fun lt=>?_
   ·have z:=q _ _ (gQ.r0 (.inr rfl) e lt)
    rw [es _ e] at z;exact z
   ·
    have z:=wR (hs:=hs) q;rw [es _ e] at z;refine ⟨_,?_,z⟩;simp! only [Cm,gj,jI,Int.reduceEq];refine ⟨h.cl.map (·.1),FF _,by rw [List.length_map];omega,fun ms pm tx=>?_⟩;obtain ⟨cm,pc,rfl⟩:=j8 pm;refine ⟨fun j Z=>∃s6 s7:Sl,Z=[.rc (some (hs 0)) (rS h.re (.int h.re) h.cl),.sh (.int 4),.sh (.str x),.sh (eM c),.sh (.int now),.ow ((iO (cm.take j) h.re now).map tD),s6,s7],⟨.no,.no,rfl⟩,?_,?_⟩
    ·rintro j d Z hj ⟨s6,s7,rfl⟩
     rw [List.getElem?_map,List.getElem?_map] at hj;cases hp:cm[j]? with
     | none=>rw [hp] at hj;cases hj
     | some p =>
     rw [hp] at hj;cases hj;have pin:p∈h.cl:=pc.mem_iff.mp (bf hp);have pv:=wQ (x:=p.1) (c:=p.2) hk.nd pin;simp! only [gj,jI,fI,o8,Int.reduceEq];refine ⟨.inr p.1,eM p.2,rfl,by rw [j6,pv];rfl,p.2,h.re,now,rfl,hk.ck p pin,hk.lo,by omega,by have:=hk.hi;omega,?_⟩;cases ql:(cW p.2 h.re now).getLast? with
     | none =>
      have e0:cW p.2 h.re now=[]:=List.getLast?_eq_none_iff.mp ql;have ew:nO h.re now p=none:=by unfold nO;rw [ql];rfl
      rw [e0];simp! only [Dl.aS];refine ⟨Ss (n:=60) rfl rfl (by decide) (by decide),.sh (.str p.1),.sh (.lst []),?_⟩;rw [take_snoc hp,uq,ur,ew];simp
     | some t =>
      have ew:nO h.re now p=some [.inr p.1,.inl t,.inl ((cW p.2 h.re now).length:Nat)]:=by unfold nO;rw [ql];rfl
      simp! only [Dl.aS];refine ⟨Ss (n:=1) (FG _).1 rfl (FG _).2 (by decide),?_⟩;rw [if_pos (by
       cases z:cW p.2 h.re now with
       | nil=>rw [z] at ql;cases ql
       | cons _ _=>rfl)]
      refine ⟨.int t,ML ql,by rw [List.length_map];exact dz (ay (aJ _ _) (by rw [List.length_take];have:=pc.length_eq;omega)),.sh (.str p.1),.sh (.lst (iL (cW p.2 h.re now))),?_⟩;rw [take_snoc hp,uq,ur,ew,List.map_append,show (iL (cW p.2 h.re now)).length=(cW p.2 h.re now).length from List.length_map ..]
      rfl
    ·rintro Z ⟨s6,s7,rfl⟩
     rw [List.length_map,List.length_map,List.take_length];simp! only [fI,nQ,nR,J8,PC,TC];refine ⟨iO cm h.re now,[true,false,false],rfl,BD,by decide,Nat.lt_of_le_of_lt (aJ _ _) (by have:=pc.length_eq;omega),fun mw pw kw=>?_⟩;refine ⟨rfl,rfl,?_⟩;exact CK.own (h':={ h with re:=now,sl:=false }) (gQ.i4 e lt (pw.trans (JW pc _ _)) kw) (by simp only [vI];rfl)
noncomputable def pqr:List Str:=["p","q","r"]
def HK.mk' {h:Hs} (lo:0<=h.re) (hi:h.re<=20000) (nd:(h.cl.map (·.1)).Nodup) (KQ:∀p∈h.cl,p.1="p"\/p.1="q"\/p.1="r") (ck:∀p∈h.cl,D9 p.2):HK h:=by
 refine ⟨lo,hi,?_,nd,KQ,ck⟩;have:=m6 nd (m:=pqr) fun x hx=>by
  obtain ⟨p,hp,rfl⟩:=ak.mp hx;rcases KQ p hp with e | e | e <;> rw [e] <;> simp [pqr]
 rw [List.length_map] at this;have:pqr.length=3:=rfl;omega
def MO {x:Str}{c:Ck} (l:List (Str×Ck)):(zD l x c).map (·.1)=if (l.any fun p=>decide (p.1=x))=true then l.map (·.1) else l.map (·.1)++[x]:=by
 unfold zD
 split
 ·rw [List.map_map]
  refine df fun p _=>?_
  show (if p.1=x then _ else _:Str×Ck).1=p.1
  split <;> rfl
 ·rw [List.map_append];rfl
def Ll {x:Str}{c:Ck}{l:List (Str×Ck)}{p:Str×Ck} (h:p∈zD l x c):p∈l\/(p.1=x/\p.2=c):=by
 unfold zD at h
 split at h
 ·obtain ⟨q,hq,e⟩:=ak.mp h
  by_cases z:q.1=x
  ·rw [if_pos z] at e;subst e;exact .inr ⟨z,rfl⟩
  ·rw [if_neg z] at e;subst e;exact .inl hq
 ·rcases cS.mp h with h | h
  ·exact .inl h
  ·rw [List.mem_singleton] at h;subst h;exact .inr ⟨rfl,rfl⟩
theorem gQ.hk {h h':Hs}{way now:Int}{x:Str}{c:Ck}{d:D} (s:gQ h way x c now d h') (k:HK h) (hx:x="p"\/x="q"\/x="r") (hc:D9 c) (n0:0<=now) (n1:now<=20000):HK h':=by
 unfold gQ at s;have t:∀{d e:D}{h1:Hs},d=e/\h1=h->HK h1:=fun ⟨_,e⟩=>e▸k
 have use:∀{c:Prop} [Decidable c] {A B:Prop},(if c then A else B)->(A->HK h')->(B->HK h')->HK h':=fun a f g=>by
  split at a
  ·exact f a
  ·exact g a
 refine use s t fun s=>use s t fun s=>use s t fun s=>use s t fun s=>use s ?_ fun s=>use s ?_ fun s=>use s ?_ fun s=>use s ?_ ?_
 ·rintro ⟨_,rfl⟩
  refine HK.mk' k.lo k.hi ?_ (fun p hp=>?_) fun p hp=>?_
  ·show ((zD h.cl x c).map (·.1)).Nodup
   rw [MO]
   split
   ·exact k.nd
   ·rename_i z
    refine List.nodup_append.mpr ⟨k.nd,by simp,fun a ha b hb e=>z ?_⟩;rw [List.mem_singleton] at hb;subst hb;subst e;obtain ⟨q,hq,e⟩:=ak.mp ha;exact List.any_eq_true.mpr ⟨q,hq,decide_eq_true e⟩
  ·rcases Ll hp with z | ⟨z,_⟩
   ·exact k.KQ p z
   ·rw [z];exact hx
  ·rcases Ll hp with z | ⟨_,z⟩
   ·exact k.ck p z
   ·rw [z];exact hc
 ·rintro ⟨_,rfl⟩
  have sub:(yK h.cl x).Sublist h.cl:=dh;exact HK.mk' k.lo k.hi (k.nd.sublist (sub.map _)) (fun p hp=>k.KQ p (sub.mem hp)) fun p hp=>k.ck p (sub.mem hp)
 ·rintro ⟨_,rfl⟩;exact HK.mk' k.lo k.hi k.nd k.KQ k.ck
 ·rintro ⟨_,rfl⟩;exact HK.mk' n0 n1 k.nd k.KQ k.ck
 ·rintro ⟨_,rfl⟩;exact HK.mk' n0 n1 k.nd k.KQ k.ck
def FH {x:Str} (h:x="p"\/x="q"\/x="r"):PyData.strOk x=true:=by
 rcases h with rfl | rfl | rfl <;> decide +kernel
def Lm (i:Int):(sX i).ok=true/\(sX i).dep<=2:=⟨by show (PyData.strOk "refused"&&(true&&true))=true;decide +kernel,by show max 0 (max 0 0)+1<=2;decide⟩
def gQ.okD {h h':Hs}{way now:Int}{x:Str}{c:Ck}{d:D} (s:gQ h way x c now d h') (k:HK h):d.ok=true/\d.dep<=2:=by
 unfold gQ at s;have so:∀p∈h.cl,PyData.strOk p.1=true:=fun p hp=>FH (k.KQ p hp)
 have t:∀{i:Int}{h1 h2:Hs},d=sX i/\h1=h2->d.ok=true/\d.dep<=2:=fun ⟨e,_⟩=>e▸Lm _
 have n:∀{h1 h2:Hs},d=.bX/\h1=h2->d.ok=true/\d.dep<=2:=fun ⟨e,_⟩=>by rw [e];exact ⟨rfl,bw _⟩
 have use:∀{c:Prop} [Decidable c] {A B G:Prop},(if c then A else B)->(A->G)->(B->G)->G:=fun a f g=>by
  split at a
  ·exact f a
  ·exact g a
 refine use s t fun s=>use s t fun s=>use s t fun s=>use s t fun s=>use s n fun s=>use s n fun s=>use s n fun s=>use s ?_ ?_
 ·rintro ⟨⟨ms,pm,_,rfl⟩,_⟩;exact FA (Sw so pm)
 ·rintro ⟨⟨ms,pm,_,rfl⟩,_⟩;exact FA (Pu so pm)
def YR (c:Ck):(eM c).ok=true/\(eM c).dep<=2:=by
 cases c with
 | tm a b o=>cases o <;> exact ⟨by show (PyData.strOk "timer"&&(true&&(true&&(true&&true))))=true;decide +kernel,by show max 0 (max 0 (max 0 (max 0 0)))+1<=2;decide⟩
 | ev a b o=>cases o <;> exact ⟨by show (PyData.strOk "every"&&(true&&(true&&(true&&true))))=true;decide +kernel,by show max 0 (max 0 (max 0 (max 0 0)))+1<=2;decide⟩
 | al a b o =>
  have z1:∀l:List Int,D.Ks (iL l)=true:=fun l=>(FG l).1
  have z2:∀l:List Int,D.sd (iL l)+1<=1:=fun l=>(FG l).2
  refine ⟨?_,?_⟩
  ·show (PyData.strOk "alarm"&&(true&&(D.Ks (iL b)&&(D.Ks (iL o)&&true))))=true
   rw [z1,z1];decide +kernel
  ·show max 0 (max 0 (max (D.sd (iL b)+1) (max (D.sd (iL o)+1) 0)))+1<=2
   have:=z2 b;have:=z2 o;omega
noncomputable def YS:Ck->Ck
 | .ev b f none=>.ev b f (some 9)
 | c=>c
def SA {c:Ck} (h:Qs c):D9 (YS c):=by
 cases c with
 | tm a b o=>exact h
 | ev b f o =>
  have ⟨h1,h2,h3,h4,h5⟩:=h;cases o with
  | none=>exact ⟨h1,h2,h3,h4,9,rfl,by decide,by decide⟩
  | some k=>exact ⟨h1,h2,h3,h4,k,rfl,(h5 k rfl).1,by have:=(h5 k rfl).2;omega⟩
 | al a b o=>exact h
def take1 {c:Ck} (h:D9 c) {a:Int} (ha:0<=a):(cW c a (a+FE c)).take 1=(eD c a).toList:=by
 have N:=Pw c a;cases q:eD c a with
 | none =>
  rw [q] at N;have:cW c a (a+FE c)=[]:=((fh.nothing N fun t e=>by cases e).unique (iA c a _)).symm;rw [this];rfl
 | some t =>
  rw [q] at N;have ht:=YQ h ha N;have e:=(N.rings (iA c t (a+FE c)) ht).unique (iA c a (a+FE c));rw [<-e];rfl
def VG {f m:Int}{x y:Str} (h:klt (lW (f,y)) (lW (m,x))=false):m<=f:=by
 by_cases z:f<m
 ·have:klt (lW (f,y)) (lW (m,x))=decide (f<m):=by
   show (if (Sum.inl f:Key)=.inl m then _ else _)=_;rw [if_neg (fun e=>by injection e with e;omega)];rfl
  rw [this,decide_eq_true z] at h;cases h
 ·omega
def DV (l:List (Int×Str)):(l.map fun p=>tD (lW p))=(l.map lW).map tD:=by rw [List.map_map];rfl
def PK {l:List (Int×Str)} (h:∀p∈l,PyData.strOk p.2=true):(D.lst (l.map fun p=>tD (lW p))).ok=true/\(D.lst (l.map fun p=>tD (lW p))).dep<=2:=by
 rw [DV];refine FA fun k hk x hx=>?_
 obtain ⟨p,hp,rfl⟩:=ak.mp hk;rcases aE.mp hx with rfl | hx
 ·trivial
 ·rcases aE.mp hx with rfl | hx
  ·exact h p hp
  ·cases hx
def fmE {f:Int}{rl:List (Int×Str)}:(List.map tD (List.map lW rl)).filterMap (Pq f)=((rl.filter fun r=>decide (r.1=f)).map (·.2)).map D.str:=by
 rw [<-J0,List.map_map];rfl
def VH {cl cm:List (Str×Ck)}{t:Int} (pc:cm.Perm cl) (ne:fi cm t≠[]):∃f ns,Su cl t=some (f,ns)/\(∃y,(f,y)∈fi cm t)/\(∀p∈fi cm t,f<=p.1)/\ns.Perm (Fq cm t f)/\Il ns:=by
 have pr:(fi cm t).Perm (fi cl t):=pc.filterMap _;rcases FD cl t with ⟨e,h⟩ | ⟨f,ns,e,⟨p,hp,hn⟩,h2,h3,h4⟩
 ·exfalso
  apply ne;cases z:fi cm t with
  | nil=>rfl
  | cons r l =>
   have ⟨m,y⟩:=r;have:(m,y)∈fi cl t:=pr.mem_iff.mp (by rw [z];exact aj);obtain ⟨p,hp,hn,_⟩:=hW.mp this;rw [h p hp] at hn;cases hn
 ·refine ⟨f,ns,e,⟨p.1,pr.mem_iff.mpr (hW.mpr ⟨p,hp,hn,rfl⟩)⟩,fun q hq=>?_,h3.trans (DU pc.symm t f),h4⟩
  have ⟨m,y⟩:=q;obtain ⟨p',hp',hn',_⟩:=hW.mp (pr.mem_iff.mp hq);exact h2 p' hp' m hn'
def SD {cl cm:List (Str×Ck)}{t:Int} (pc:cm.Perm cl) (ne:fi cm t=[]):Su cl t=none:=by
 have pr:(fi cm t).Perm (fi cl t):=pc.filterMap _;rcases FD cl t with ⟨e,h⟩ | ⟨f,ns,e,⟨p,hp,hn⟩,h2,h3,h4⟩
 ·exact e
 ·have:(f,p.1)∈fi cm t:=pr.mem_iff.mpr (hW.mpr ⟨p,hp,hn,rfl⟩)
  rw [ne] at this;cases this
def yN (af:Nat):dA:=Gw (dN (dB (aY zi ((au 10)) ((uC (bq))))) (dH 14 ((nG ((av ((aY (rF gE) ((bg DJ ((av ((au 10)) (bq))))) (dC (.int 0)))) ((av ((iF 2 (jm ((bg sq ((av ((au 10)) (bq)))))) (pS 15 16) (dB (aY dZ ((au 15)) ((aY (rF gE) ((bg DJ ((av ((au 10)) (bq))))) (dC (.int 0)))))) ((au 16)))) (bq)))))))) (cF)) (dN (dB (aY zi ((fb 2 af "next_due" (gk af) (fc))) ((au 14)))) (cO (dC (.bl false))) (cF))
def tw (af:Nat):dA:=aS (dH 14 (dC .bX)) ((yN af))
def tB (af:Nat):dA:=aS (Cm (jm ((au 9))) (gc 11) (aS (dN (dB (aY zi ((fb 2 af "clock" (iP af) ((dk ((au 11)) (fc))))) ((dX ((vA 3 "clocks" ((rG 11)))))))) (cO (dC (.bl false))) (cF)) (aS (dH 12 ((Qo (dB (aY dZ ((aY (rF gE) ((dX ((vA 3 "clocks" ((rG 11)))))) (dC (.int 0)))) (dC (.str "alarm")))) (dC (.int 50400)) (dC (.int 100))))) (aS (dH 13 ((bg jH ((av ((dX ((vA 3 "clocks" ((rG 11)))))) ((av ((dX ((zl 3 "now")))) ((av ((aY (rF eA) ((dX ((zl 3 "now")))) ((au 12)))) (bq)))))))))) (dH 10 ((aY (rF eA) ((au 10)) ((iF 1 (jm ((LY ((au 13)) (uc) (Dg (dC (.int 1)))))) (gc 15) (Ct) ((nG ((av ((au 15)) ((av ((au 11)) (bq)))))))))))))))) ((tw af))
def BK (af:Nat):dA:=aS (dN (dB (aY zi ((Bd 1 (EJ "pqrs") (gc 15) (wb (dB (aY (zj true) ((au 15)) ((au 9)))) (dB (aY zi ((AS (nr af) ((aAt' 2 ((dk (dC (.int 5)) ((dk ((au 15)) ((dk (dC .bX) ((dk (dC (.int 0)) (fc))))))))))))) ((nG ((av (dC (.str "refused")) ((av (dC (.int 1)) (bq)))))))))) ((au 15)))) ((uC (bq))))) (cO (dC (.bl false))) (cF)) ((tB af))
def vJ (af:Nat):dA:=aS (dH 10 ((uC (bq)))) ((BK af))
def BL (af:Nat):dA:=aS (dN (WJ (dB (aY zi ((fb 2 af "moment" (j7 af) (fc))) ((dX ((zl 3 "now")))))) (dB (aY zi ((fb 2 af "names" (kU af) (fc))) ((au 9))))) (cO (dC (.bl false))) (cF)) ((vJ af))
def vK (af:Nat):dA:=aS (dH 9 ((Bi 3 "clocks"))) ((BL af))
def vL (af:Nat):dA:=aS (dN (dB (aY zi ((AS (nr af) ((aAt' 2 ((dk ((au 5)) ((dk ((au 6)) ((dk ((au 7)) ((dk ((au 8)) (fc))))))))))))) ((AS (uv ) ((aAt' 3 ((dk ((au 5)) ((dk ((au 6)) ((dk ((au 7)) ((dk ((au 8)) (fc))))))))))))))) (cO (dC (.bl false))) (cF)) ((vK af))
def BM (af:Nat):dA:=aS (dH 8 ((bg Cp ((av (dC (.int 0)) ((av ((aY (rF eA) ((dX ((zl 3 "now")))) ((aY (rF gE) ((uC ((av (dC (.int 0)) ((av (dC (.int 3)) ((av (dC (.int 10)) ((av (dC (.int 25)) ((av (dC (.int 1500)) ((av ((XF Gv (dC (.int 4)))) (bq))))))))))))))) ((bg cz ((av ((au 0)) ((av ((aY (rF eA) (dC (.int 22)) ((aY (mS mW fun i j=>.int (i * j)) (dC (.int 30)) ((au 4)))))) ((av (dC (.int 6)) (bq))))))))))))) (bq)))))))) ((vL af))
def BN (af:Nat):dA:=Gw (dN (wb (dB (aY dZ ((aY (rF gE) ((au 7)) (dC (.int 0)))) (dC (.str "every")))) (dB (aY AH ((aY (rF gE) ((au 7)) (dC (.int 3)))) (dC .bX)))) (dH 7 ((aY (rF eA) ((LY ((au 7)) (uc) (Dg (dC (.int 3))))) ((nG ((av (dC (.int 9)) (bq)))))))) (cF)) ((BM af))
def BO (af:Nat):dA:=aS (dH 7 ((bg nN ((av ((au 0)) ((av ((aY (rF eA) (dC (.int 25)) ((aY (mS mW fun i j=>.int (i * j)) (dC (.int 30)) ((au 4)))))) (bq)))))))) ((BN af))
def BP (af:Nat):dA:=aS (dH 6 ((KA "pqr" ((bg cz ((av ((au 0)) ((av ((aY (rF eA) (dC (.int 21)) ((aY (mS mW fun i j=>.int (i * j)) (dC (.int 30)) ((au 4)))))) ((av (dC (.int 3)) (bq)))))))))))) ((BO af))
def PL (af:Nat):dA:=aS (dH 1 ((bg cz ((av ((au 0)) ((av (dC (.int 0)) ((av (dC (.int 20)) (bq)))))))))) (aS (Ob 2 af (mE af) ((av ((au 1)) (bq)))) (aS (Vk 3 (Zf "now" ((rG 1)) (Zf "asleep" (xC .bX) (pDc "clocks" (Vj))))) (aS (Cm (m4 ((av ((bg Cp ((av (dC (.int 1)) ((av ((bg IQ ((av (dC (.int 10)) ((av ((bg se ((av ((au 0)) (bq))))) (bq))))))) (bq))))))) (bq)))) (gc 4) (aS (dH 5 ((aY (rF gE) ((uC ((av (dC (.int 0)) ((av (dC (.int 0)) ((av (dC (.int 0)) ((av (dC (.int 1)) ((av (dC (.int 2)) ((av (dC (.int 2)) ((av (dC (.int 2)) ((av (dC (.int 3)) ((av (dC (.int 4)) ((av (dC (.int 4)) (bq))))))))))))))))))))))) ((bg cz ((av ((au 0)) ((av ((aY (rF eA) (dC (.int 20)) ((aY (mS mW fun i j=>.int (i * j)) (dC (.int 30)) ((au 4)))))) ((av (dC (.int 10)) (bq)))))))))))) ((BP af)))) (cO (dC (.bl true))))))
section
variable {C:Nat}{E:wc}{ns:List Int}{st:Int}{h:Hs}{cm:List (Str×Ck)}{s4 s5 s6 s7 s8 s9 uU vM vN wU:Sl}
def SE (hk:HK h) (pc:cm.Perm h.cl) (k:∀wU,E.nx [.sh (Bt ns),.sh (.int st),.ob none C h.fs,.rc none (rS h.re (vI h) h.cl),s4,s5,s6,s7,s8,s9,.sh (.lst ((fi cm h.re).map fun r=>tD (lW r))),uU,vM,vN,wU]) :
  tw C E [.sh (Bt ns),.sh (.int st),.ob none C h.fs,.rc none (rS h.re (vI h) h.cl),s4,s5,s6,s7,s8,s9,.sh (.lst ((fi cm h.re).map fun r=>tD (lW r))),uU,vM,vN,wU]:=by
 have so:∀p∈h.cl,PyData.strOk p.1=true:=fun p hp=>FH (hk.KQ p hp)
 have ET:=hk.ET;have lr:(fi cm h.re).length<=4:=ay (aJ _ _) (by rw [pc.length_eq];exact ET);have ro:=PK (l:=fi cm h.re) fun p hp=>by
  have ⟨m,y⟩:=p;obtain ⟨q,hq,_,rfl⟩:=hW.mp hp;exact so q (pc.mem_iff.mp hq)
 simp! only [tw,yN];refine ⟨fun Z=>Z=[.sh (Bt ns),.sh (.int st),.ob none C h.fs,.rc none (rS h.re (vI h) h.cl),s4,s5,s6,s7,s8,s9,.sh (.lst ((fi cm h.re).map fun r=>tD (lW r))),uU,vM,vN,.sh (Sq (Su h.cl h.re))],?_,?_⟩
 ·simp! only [Dl.aS]
  refine ⟨Ss (e:=.lst []) ro.1 rfl ro.2 (by decide),?_⟩
  by_cases z:fi cm h.re=[]
  ·rw [SD pc z,z]
   simp! only [Dl.aS]
   rfl
  ·rw [if_pos (by
    cases y:fi cm h.re with
    | nil=>exact absurd y z
    | cons _ _=>rfl)]
   obtain ⟨f,xs,ev,⟨y0,hy0⟩,Pt,hp,ht⟩:=VH pc z;have least:∀p∈fi cm h.re,(∀q∈fi cm h.re,klt (lW q) (lW p)=false)->p.1=f:=fun p hp hq=>by
    have a:=Pt p hp;have b:p.1<=f:=VG (x:=p.2) (hq _ hy0);omega
   refine ⟨fi cm h.re,rfl,z,fun p hp0 hq0=>?_⟩;have ep:=least p hp0 hq0;simp! only [tD,lW,dK];have lk : ∀k∈(fi cm h.re).map lW,A7 k=[false,true]:=fun k hk=>by obtain ⟨p,_,rfl⟩:=ak.mp hk;rfl
   refine ⟨(fi cm h.re).map lW,[false,true],DV _,lk,by decide,by rw [List.length_map];omega,fun ms pm ks=>?_⟩;obtain ⟨rl,pr,rfl⟩:=j8 pm;simp! only [Dl.aS];refine ⟨Pq f,fun d hd=>?_,?_,?_⟩
   ·rw [List.map_map] at hd
    obtain ⟨r,hr,rfl⟩:=ak.mp hd;simp! only [Function.comp,tD,lW,dK];refine ⟨fi cm h.re,rfl,z,fun p hp0 hq0=>?_⟩;have ep:=least p hp0 hq0;simp! only [tD,lW,dK];rw [ep];exact ku (fun z=>if_pos z) fun z=>if_neg z
   ·rw [fmE,List.length_map,List.length_map]
    exact bj (dz (ay (bD ..) (by rw [pr.length_eq];omega)))
   ·rw [fmE,ev,ep]
    have sub:((rl.filter fun r=>decide (r.1=f)).map lW).Sublist (rl.map lW):=dh.map _;have tx:Il ((rl.filter fun r=>decide (r.1=f)).map (·.2)):=by
     have:=Sy (l:=(rl.filter fun r=>decide (r.1=f)).map lW) (m:=f) (fun k hk=>by
      obtain ⟨r,hr,rfl⟩:=ak.mp hk;have:=of_decide_eq_true (cC.mp hr).2;exact ⟨r.2,by show [Sum.inl r.1,Sum.inr r.2]=_;rw [this]⟩) (List.Pairwise.sublist sub ks)
     rwa [List.map_map] at this
    have en:(rl.filter fun r=>decide (r.1=f)).map (·.2)=xs:=by
     refine qi (((pr.filter _).map _).trans ?_) tx ht;rw [vG];exact hp.symm
    rw [en];rfl
 ·rintro Z rfl
  simp! only [Hs.YH,uo];refine Sv (by have:=hk.hi;omega) (by omega) (fun p hp=>(hk.ck p hp).ok) fun r hr=>?_
  have er:=hr.unique (.refl _) (FD h.cl h.re);obtain ⟨q1,q2⟩:=Sr (r:=r) fun v e=>(hr.names so v e).1
  simp! only [Dl.aS];rw [<-er];exact ⟨Ss q1 q1 q2 (by decide),by rw [if_neg (by rw [sV];decide)];exact k _⟩
end
def PM (a b:List (Str×Ck)) (t:Int):fi (a++b) t=fi a t++fi b t:=List.filterMap_append ..
def PN (p:Str×Ck) (t:Int):fi [p] t=(eD p.2 t).toList.map fun m=>(m,p.1):=by
 unfold fi;cases q:eD p.2 t <;> simp [List.filterMap_cons,q]
def VI (c:Ck):0<=FE c/\FE c<=50400:=by cases c <;> simp [FE]
def cut1 (l:List Int):cutD (iL l) none (some 1)=iL (l.take 1):=by
 cases l <;> rfl
section
variable {C:Nat}{E:wc}{ns:List Int}{st:Int}{h:Hs}{cm:List (Str×Ck)}{s4 s5 s6 s7 s8 s9 uU vM vN wU:Sl}
def PQ (hk:HK h) (pc:cm.Perm h.cl) (k:∀Cz uU vM vN wU,E.nx [.sh (Bt ns),.sh (.int st),.ob none C h.fs,.rc none (rS h.re (vI h) h.cl),s4,s5,s6,s7,s8,.sh (.lst ((cm.map (·.1)).map .str)),Cz,uU,vM,vN,wU]) :
  tB C E [.sh (Bt ns),.sh (.int st),.ob none C h.fs,.rc none (rS h.re (vI h) h.cl),s4,s5,s6,s7,s8,.sh (.lst ((cm.map (·.1)).map .str)),.sh (.lst []),uU,vM,vN,wU]:=by
 have ET:=hk.ET;have lo:=hk.lo;have hi:=hk.hi;simp! only [tB,Cm];refine ⟨fun j Z=>∃uU vM vN,Z=[.sh (Bt ns),.sh (.int st),.ob none C h.fs,.rc none (rS h.re (vI h) h.cl),s4,s5,s6,s7,s8,.sh (.lst ((cm.map (·.1)).map .str)),.sh (.lst ((fi (cm.take j) h.re).map fun r=>tD (lW r))),uU,vM,vN,wU],⟨_,_,_,rfl⟩,?_,?_⟩
 ·rintro j d Z hj ⟨uU,vM,vN,rfl⟩
  rw [List.getElem?_map,List.getElem?_map] at hj;cases hp:cm[j]? with
  | none=>rw [hp] at hj;cases hj
  | some p =>
  rw [hp] at hj;cases hj;have pin:p∈h.cl:=pc.mem_iff.mp (bf hp);have pv:=wQ (x:=p.1) (c:=p.2) hk.nd pin;have vd:lV (h.cl.map kc) (.inr p.1)=some (eM p.2):=by rw [j6,pv];rfl
  have d9:=hk.ck p pin;have co:=YR p.2;simp! only [Hs.Le,uo,gj,jI,fI,o8];refine ⟨h,p.1,p.2,rfl,pv,?_⟩;simp! only [gj,jI,fI,o8];refine ⟨.inr p.1,eM p.2,rfl,vd,Ss co.1 co.1 co.2 (by decide),?_⟩;rw [if_neg (by rw [sV];decide)];refine ⟨.inr p.1,eM p.2,rfl,vd,?_⟩;have tail:∀F:Int,F=FE p.2->jH [eM p.2,D.int h.re,D.int (h.re+F)] fun d =>
    iF 1 (jm (LY (au 13) uc (Dg (dC (D.int 1))))) (gc 15) Ct (nG (av (au 15) (av (au 11) bq)))
     [.sh (Bt ns),.sh (.int st),.ob none C h.fs,.rc none (rS h.re (vI h) h.cl),s4,s5,s6,s7,s8,.sh (.lst ((cm.map (·.1)).map .str)),.sh (.lst ((fi (cm.take j) h.re).map fun r=>tD (lW r))),.sh (.str p.1),.sh (.int F),.sh d,wU]
     fun y Z2=>∃d,eA (.lst ((fi (cm.take j) h.re).map fun r=>tD (lW r))) y=some d/\∃uU vM vN,List.set Z2 10 (Sl.sh d) =
      [.sh (Bt ns),.sh (.int st),.ob none C h.fs,.rc none (rS h.re (vI h) h.cl),s4,s5,s6,s7,s8,.sh (.lst ((cm.map (·.1)).map .str)),.sh (.lst ((fi (cm.take (j+1)) h.re).map fun r=>tD (lW r))),uU,vM,vN,wU]:=fun F eF=>by
   have f0:0<=F/\F<=50400:=by rw [eF];exact VI _
   refine ⟨p.2,h.re,h.re+F,rfl,d9,lo,by omega,by omega,?_⟩;refine gA (iL (eD p.2 h.re).toList) (Hy fun m=>tD (lW (m,p.1))) (fun Q h1=>?_) (fun d hd=>?_) ?_ ?_
   ·simp! only [Dl.aS]
    rw [show cutD (iL (cW p.2 h.re (h.re+F))) none (some 1)=iL (eD p.2 h.re).toList by rw [cut1,eF,take1 d9 lo]];exact h1
   ·obtain ⟨m,_,rfl⟩:=ak.mp hd
    simp! only [Dl.aS]
    rfl
   ·rw [ix,List.length_map]
    cases eD p.2 h.re <;> exact bj (dz (by simp))
   ·rw [ix]
    have l1:(fi (cm.take j) h.re).length<=100:=ay (aJ _ _) (by rw [List.length_take];have:=pc.length_eq;omega);have l2:(eD p.2 h.re).toList.length<=1:=by cases eD p.2 h.re <;> simp
    refine ⟨_,GA.trans (if_pos (by rw [List.length_map,List.length_map];exact bj (dz (by omega)))),.sh (.str p.1),.sh (.int F),.sh (.lst (iL (cW p.2 h.re (h.re+F)))),?_⟩;have em:List.map (fun r=>tD (lW r)) (List.map (fun m=>(m,p.1)) (eD p.2 h.re).toList)=List.map (fun m=>tD (lW (m,p.1))) (eD p.2 h.re).toList:=List.map_map ..;rw [take_snoc hp,PM,PN,List.map_append,em]
    rfl
  generalize hc:p.2=c at tail vd ⊢;cases c
  ·exact ⟨.str "timer",rfl,uE lq sC,by rw [if_neg (by decide +kernel)];exact ⟨_,_,rfl,vd,tail _ rfl⟩⟩
  ·exact ⟨.str "every",rfl,uE m7 sC,by rw [if_neg (by decide +kernel)];exact ⟨_,_,rfl,vd,tail _ rfl⟩⟩
  ·exact ⟨.str "alarm",rfl,uE sC sC,by rw [if_pos (by decide +kernel)];exact ⟨_,_,rfl,vd,tail _ rfl⟩⟩
 ·rintro Z ⟨uU,vM,vN,rfl⟩
  rw [List.length_map,List.length_map,List.take_length];exact SE hk pc fun wU=>k _ _ _ _ _
end
theorem PR:(("pqrs":Str)).cps=#[112,113,114,115]:=by decide +kernel
theorem SF:(("pqr":Str)).cps=#[112,113,114]:=by decide +kernel
theorem TH:(Str.mk #[112])=("p":Str):=by decide +kernel
theorem TJ:(Str.mk #[113])=("q":Str):=by decide +kernel
theorem TK:(Str.mk #[114])=("r":Str):=by decide +kernel
theorem YT:(Str.mk #[115])=("s":Str):=by decide +kernel
def MP:nK "pqrs"=[("p":Str),"q","r","s"].map D.str:=by
 unfold nK;rw [PR];show [D.str (Str.mk #[112]),.str (Str.mk #[113]),.str (Str.mk #[114]),.str (Str.mk #[115])]=_;rw [TH,TJ,TK,YT];rfl
def PU:nK "pqr"=[("p":Str),"q","r"].map D.str:=by
 unfold nK;rw [SF];show [D.str (Str.mk #[112]),.str (Str.mk #[113]),.str (Str.mk #[114])]=_;rw [TH,TJ,TK];rfl
def SG {x:Str} (h:x∈[("p":Str),"q","r","s"]):PyData.strOk x=true:=by
 simp only [List.mem_cons,List.not_mem_nil,or_false] at h;rcases h with rfl | rfl | rfl | rfl <;> decide +kernel
theorem HY {x:Str}:∀{l:List Str},inD (.str x) (l.map D.str)=decide (x∈l)
 | []=>by simp [inD]
 | y::l=>by
  have ih:=HY (x:=x) (l:=l);show (Cn (.str y) (.str x) || inD (.str x) (l.map D.str))=_;rw [ih,yw]
  by_cases z:y=x
  ·subst z;simp
  ·have h1:(y==x)=false:=by simpa using z
   have h2:¬x=y:=fun w=>z w.symm
   simp [h1,h2]
def MQ {x:Str}{l:List Str} (hx:PyData.strOk x=true) (h:∀y∈l,PyData.strOk y=true):okIn (.str x) (l.map D.str):=⟨hx,(FC h).1,by show min _ 0<=60;omega⟩
def SH {x:Str}:∀{cl:List (Str×Ck)},x∉cl.map (·.1)->p9 cl x=none:=fun {cl} h=>by
 unfold p9;rw [List.find?_eq_none.mpr fun p hp=>by
  have:p.1≠x:=fun z=>h (List.mem_map.mpr ⟨p,hp,z⟩)
  simpa using this]
 rfl
theorem PV:∀l:List D,l.filterMap (fun _=>(none:Option D))=[]
 | []=>rfl
 | _::l=>by rw [List.filterMap_cons];exact PV l
section
variable {C:Nat}{E:wc}{ns:List Int}{st:Int}{h:Hs}{cm:List (Str×Ck)}{d4 d5 d6 d7 d8:D}{s9 Cz uU vM vN wU:Sl}
def PX (hk:HK h) (pc:cm.Perm h.cl) (k:∀Cz uU vM vN wU,E.nx [.sh (Bt ns),.sh (.int st),.ob none C h.fs,.rc none (rS h.re (vI h) h.cl),.sh d4,.sh d5,.sh d6,.sh d7,.sh d8,.sh (.lst ((cm.map (·.1)).map .str)),Cz,uU,vM,vN,wU]) :
  vJ C E [.sh (Bt ns),.sh (.int st),.ob none C h.fs,.rc none (rS h.re (vI h) h.cl),.sh d4,.sh d5,.sh d6,.sh d7,.sh d8,.sh (.lst ((cm.map (·.1)).map .str)),Cz,uU,vM,vN,wU]:=by
 simp! only [vJ,BK];refine DR (nK "pqrs") (fun _=>none) (fun Q h1=>?_) (fun d hd as=>?_) ?_ ?_
 ·simp! only [Dl.aS];exact h1
 ·rw [MP] at hd
  obtain ⟨x,hx,rfl⟩:=ak.mp hd;simp! only [Dl.aS];have so:∀y∈cm.map (·.1),PyData.strOk y=true:=fun y hy=>by
   obtain ⟨p,hp,rfl⟩:=ak.mp hy;exact FH (hk.KQ p (pc.mem_iff.mp hp))
  refine ⟨MQ (SG hx) so,ku (fun z=>?_) fun _=>rfl⟩;rw [HY] at z;have nx:x∉h.cl.map (·.1):=fun w=>of_decide_eq_false z ((pc.map _).mem_iff.mpr w)
  refine ⟨by simp,.inr ⟨h,x,rfl,SH nx,?_⟩⟩;have r1:=Lm 1;refine ⟨Ss (e:=sX 1) r1.1 r1.1 r1.2 (by decide),?_⟩;rw [if_neg (by show ¬Cn (sX 1) (sX 1)=false;rw [sV];decide)]
  rfl
 ·rw [PV];exact bw _
 ·rw [PV]
  simp! only [Dl.aS];exact ⟨Ss (n:=60) (e:=.lst []) rfl rfl (by decide) (by decide),PQ hk pc k⟩
end
theorem gQ.re {h h':Hs}{way now:Int}{x:Str}{c:Ck}{d:D} (s:gQ h way x c now d h'):h'.re=h.re\/h'.re=now:=by
 unfold gQ at s;have t:∀{d e:D}{h2:Hs},h2.re=h.re\/h2.re=now->d=e/\h'=h2->h'.re=h.re\/h'.re=now:=fun z ⟨_,e⟩=>e▸z
 have use:∀{c:Prop} [Decidable c] {A B G:Prop},(if c then A else B)->(A->G)->(B->G)->G:=fun a f g=>by
  split at a
  ·exact f a
  ·exact g a
 refine use s (t (.inl rfl)) fun s=>use s (t (.inl rfl)) fun s=>use s (t (.inl rfl)) fun s=>use s (t (.inl rfl)) fun s=>use s (t (.inl rfl)) fun s=>use s (t (.inl rfl)) fun s=>use s (t (.inl rfl)) fun s=>use s ?_ ?_
 ·rintro ⟨_,rfl⟩;exact .inr rfl
 ·rintro ⟨_,rfl⟩;exact .inr rfl
section
variable {C:Nat}{E:wc}{ns:List Int}{st:Int}{h:Hs}{d4:D}{way now:Int}{x:Str}{c:Ck}{s9 Cz uU vM vN wU:Sl}
def PY (hk:HK h) {d5 d6 d7 d8:D} (k:∀s9 Cz uU vM vN wU,E.nx [.sh (Bt ns),.sh (.int st),.ob none C h.fs,.rc none (rS h.re (vI h) h.cl),.sh d4,.sh d5,.sh d6,.sh d7,.sh d8,s9,Cz,uU,vM,vN,wU]) :
  vK C E [.sh (Bt ns),.sh (.int st),.ob none C h.fs,.rc none (rS h.re (vI h) h.cl),.sh d4,.sh d5,.sh d6,.sh d7,.sh d8,s9,Cz,uU,vM,vN,wU]:=by
 have ET:=hk.ET;simp! only [vK,BL,gj,jI,fI];refine ⟨h.cl.map (·.1),FF _,by rw [List.length_map];omega,fun ms pm tx=>?_⟩;simp! only [Hs.HL,Hs.Lg,uo,fI];refine ⟨h,rfl,?_⟩;simp! only [Hs.HL,Hs.Lg,uo,fI];refine ⟨h,rfl,by omega,fun ms2 pm2 tx2=>?_⟩;have e2:ms2=ms:=qi (pm2.trans pm.symm) tx2 tx;subst e2;obtain ⟨cm,pc,rfl⟩:=j8 pm;have so:=FC (l:=cm.map (·.1)) fun y hy=>by
  obtain ⟨p,hp,rfl⟩:=ak.mp hy;exact FH (hk.KQ p (pc.mem_iff.mp hp))
 simp! only [Dl.aS];refine ⟨Ss so.1 so.1 so.2 (by decide),?_⟩;refine ku (fun z=>absurd z (by rw [uu];decide)) fun _=>?_
 exact PX hk pc fun Cz uU vM vN wU=>k _ _ _ _ _ _
def PZ (hk:HK h) (w0:0<=way) (w4:way<=4) (hx:x="p"\/x="q"\/x="r") (hc:D9 c) (n0:0<=now) (n1:now<=h.re+1500) (n2:now<=20000)
  (k:∀h' s9 Cz uU vM vN wU,HK h'->(h'.re=h.re\/h'.re=now)->E.nx [.sh (Bt ns),.sh (.int st),.ob none C h'.fs,.rc none (rS h'.re (vI h') h'.cl),.sh d4,.sh (.int way),.sh (.str x),.sh (eM c),.sh (.int now),s9,Cz,uU,vM,vN,wU]) :
  vL C E [.sh (Bt ns),.sh (.int st),.ob none C h.fs,.rc none (rS h.re (vI h) h.cl),.sh d4,.sh (.int way),.sh (.str x),.sh (eM c),.sh (.int now),s9,Cz,uU,vM,vN,wU]:=by
 simp! only [vL,uo];refine .inl ⟨h,way,x,c,now,rfl,hk,w0,w4,n0,n1,fun d h1 s1=>?_⟩;simp! only [uo];refine ⟨h,way,x,c,now,rfl,hk,w0,w4,n0,n1,fun d2 h2 s2=>?_⟩;obtain ⟨rfl,rfl⟩:=s1.det s2;have o:=s1.okD hk;simp! only [Dl.aS];refine ⟨Ss o.1 o.1 o.2 (by decide),?_⟩;rw [if_neg (by rw [sV];decide)];have hk':=s1.hk hk hx hc n0 n2;exact PY hk' fun s9 Cz uU vM vN wU=>k _ _ _ _ _ _ _ hk' s1.re
end
def VJ {z:Int} (h0:0<=z) (h1:z<10):∃w:Int,vU [D.int 0,.int 0,.int 0,.int 1,.int 2,.int 2,.int 2,.int 3,.int 4,.int 4] z=some (.int w)/\0<=w/\w<=4:=by
 have:z=0\/z=1\/z=2\/z=3\/z=4\/z=5\/z=6\/z=7\/z=8\/z=9:=by omega
 rcases this with rfl | rfl | rfl | rfl | rfl | rfl | rfl | rfl | rfl | rfl <;> exact ⟨_,rfl,by decide,by decide⟩
def VL {z:Int} (h0:0<=z) (h1:z<6):∃w:Int,vU [D.int 0,.int 3,.int 10,.int 25,.int 1500,.int (-4)] z=some (.int w)/\-4<=w/\w<=1500:=by
 have:z=0\/z=1\/z=2\/z=3\/z=4\/z=5:=by omega
 rcases this with rfl | rfl | rfl | rfl | rfl | rfl <;> exact ⟨_,rfl,by decide,by decide⟩
def VM {z:Int} (h0:0<=z) (h1:z<3):∃x:Str,atS "pqr" (.int z)=some (.str x)/\(x="p"\/x="q"\/x="r"):=by
 have:z=0\/z=1\/z=2:=by omega
 have e:∀n:Nat,atS "pqr" (.int (n:Nat))=([("p":Str),"q","r"].map D.str)[n]?:=fun n=>by
  show (if (0:Int)<=(n:Nat) then (nK "pqr")[((n:Nat):Int).toNat]? else none)=_;rw [if_pos (by omega),PU];rfl
 rcases this with rfl | rfl | rfl
 ·exact ⟨_,e 0,.inl rfl⟩
 ·exact ⟨_,e 1,.inr (.inl rfl)⟩
 ·exact ⟨_,e 2,.inr (.inr rfl)⟩
def YU (C:Nat):∀ds Q,DL ds Q->PL C { nx:=fun _=>Q .bX,rt:=fun d _=>Q d } (dq ["_law_script","_law_start","_law_house","_law_mine","_law_k","_law_way","_law_name","_law_clock_here","_law_now","_law_names","_law_rows","_law_one","_law_far","_law_some","_law_due_here"] ds):=by
 rintro ds Q ⟨ns,rfl,hl,q⟩;simp! only [PL];refine om hl (by decide) (by decide) fun st est s0 s1=>?_
 refine ⟨st,rfl,?_⟩;simp! only [Dl.aS];refine ⟨by decide +kernel,by decide,?_⟩;obtain ⟨n,en⟩ : ∃n : Nat,n=(max 1 (min 10 ((ns.length : Nat) : Int))).toNat:=⟨_,rfl⟩;have n10:n<=10:=by omega
 refine Ey (fun j Z=>∃(h:Hs) (s4 s5 s6 s7 s8 s9 Cz uU vM vN wU:Sl),HK h/\h.re<=20+1500 * (j:Nat)/\Z=[.sh (Bt ns),.sh (.int st),.ob none C h.fs,.rc none (rS h.re (vI h) h.cl),s4,s5,s6,s7,s8,s9,Cz,uU,vM,vN,wU]) (fC 0 n) _ (fun Q h1=>?_)
  ⟨⟨st,[],false⟩,.no,.no,.no,.no,.no,.no,.no,.no,.no,.no,.no,HK.mk' s0 (by show st<=20000;omega) .nil (fun p hp=>nomatch hp) (fun p hp=>nomatch hp),by show st<=_;omega,rfl⟩ ?_ ?_
 ·simp! only [Bt,List.length_map]
  rw [<-en];exact ⟨by omega,by omega,h1⟩
 ·rintro j d Z hj ⟨h,s4,s5,s6,s7,s8,s9,Cz,uU,vM,vN,wU,hk,Tt,rfl⟩
  obtain ⟨rfl,Qq⟩:=JI hj;have lo:=hk.lo;have sz:∀m:Nat,m<=100->m<=sizeLine:=fun m hm=>bj (dz (by omega))
  simp! only [Dl.aS];refine ⟨sz _ (by decide),.inl ⟨by decide,by decide⟩,om hl (by omega) (by decide) fun z ez z0 z1=>?_⟩;obtain ⟨way,ew,w0,w4⟩:=VJ z0 z1;refine ⟨_,ew,?_⟩;simp! only [BP];refine ⟨.inl ⟨by decide,by decide⟩,om hl (by omega) (by decide) fun z ez z0 z1=>?_⟩;obtain ⟨x,ex,hx⟩:=VM z0 z1;refine ⟨_,ex,?_⟩;simp! only [BO];refine ⟨.inl ⟨by decide,by decide⟩,ns,_,rfl,hl,by omega,?_⟩;generalize ec:MI ns (25+30 * (0+((j:Nat):Int)))=c0;have dr:Qs c0:=by rw [<-ec];exact Ph ..
  simp! only [BN];refine ⟨fun Z=>Z=[.sh (Bt ns),.sh (.int st),.ob none C h.fs,.rc none (rS h.re (vI h) h.cl),.sh (.int (0+((j:Nat):Int))),.sh (.int way),.sh (.str x),.sh (eM (YS c0)),s8,s9,Cz,uU,vM,vN,wU],?_,?_⟩
  ·simp! only [Dl.aS]
   cases c0 with
   | tm a b o=>exact ⟨.str "timer",rfl,uE lq m7,by rw [if_neg (by decide +kernel)];rfl⟩
   | al a b o=>exact ⟨.str "alarm",rfl,uE sC m7,by rw [if_neg (by decide +kernel)];rfl⟩
   | ev a b o =>
    refine ⟨.str "every",rfl,uE m7 m7,?_⟩;rw [if_pos (by decide +kernel)];cases o with
    | none =>
     refine ⟨.bX,rfl,?_⟩;simp! only [Dl.aS];refine ⟨.tup [.str "every",.int a,.int b],rfl,.tup [.str "every",.int a,.int b,.int 9],?_,rfl⟩
     rfl
    | some k=>exact ⟨.int k,rfl,by simp! only [Dl.aS];rfl⟩
  ·rintro Z rfl
   simp! only [BM,fI];refine ⟨sz _ (by decide),.inl ⟨by decide,by decide⟩,om hl (by omega) (by decide) fun z ez z0 z1=>?_⟩;obtain ⟨w,eu,u0,u1⟩:=VL z0 z1;refine ⟨_,eu,_,rfl,?_⟩;refine PZ hk w0 w4 hx (SA dr) (by omega) (by omega) (by omega) fun h' s9 Cz uU vM vN wU hk' hr=>?_
   exact ⟨h',_,_,_,_,_,_,_,_,_,_,_,hk',by omega,rfl⟩
 ·rintro Z _
  exact q
end zX
namespace zX
open PySem L2 Dl
end zX
namespace L2
noncomputable abbrev kY.f:=@UA
end L2
namespace zX
open PySem L2 Dl
noncomputable def top (i:Nat):Stmt:=PySem.Challenge.pw_latebells_k50_houses.main.body.getD i (.Pass ⟨0,0,0,0⟩)
noncomputable abbrev vO:Stmt:=top 32
noncomputable abbrev tE:Stmt:=top 33
noncomputable abbrev qp:Stmt:=inClass (top 30) 0
noncomputable abbrev lJ:Stmt:=top 34
noncomputable abbrev gR:Stmt:=inClass (top 30) 10
noncomputable abbrev tF:Stmt:=inClass (top 30) 1
noncomputable abbrev gs:Stmt:=inClass (top 30) 11
noncomputable abbrev qr:Stmt:=inClass (top 30) 2
noncomputable abbrev nt:Stmt:=top 9
noncomputable abbrev md:Stmt:=top 14
noncomputable abbrev me:Stmt:=top 26
noncomputable abbrev mh:Stmt:=top 15
noncomputable abbrev tG:Stmt:=top 18
noncomputable abbrev qt:Stmt:=top 17
noncomputable abbrev qu:Stmt:=top 7
noncomputable abbrev tH:Stmt:=top 8
noncomputable abbrev mj:Stmt:=top 16
noncomputable abbrev tI:Stmt:=top 13
noncomputable abbrev qv:Stmt:=top 21
noncomputable abbrev ml:Stmt:=top 20
noncomputable abbrev qx:Stmt:=top 28
noncomputable abbrev je:Stmt:=top 27
noncomputable abbrev yd:Stmt:=top 25
noncomputable abbrev tJ:Stmt:=top 19
noncomputable abbrev kJ:Stmt:=top 23
noncomputable abbrev FI:Stmt:=top 22
noncomputable abbrev mG:Stmt:=inClass (top 30) 5
noncomputable abbrev ox:Stmt:=inClass (top 30) 7
noncomputable abbrev vP:Stmt:=top 24
noncomputable abbrev qy:Stmt:=inClass (top 30) 8
noncomputable abbrev oy:Stmt:=inClass (top 30) 3
noncomputable abbrev ju:Stmt:=top 37
noncomputable abbrev h9:Stmt:=top 35
noncomputable abbrev uw:Stmt:=top 38
noncomputable abbrev nu:Stmt:=inClass (top 30) 6
noncomputable abbrev oz:Stmt:=inClass (top 30) 4
noncomputable abbrev eC:Stmt:=inClass (top 30) 9
noncomputable abbrev iQ:Stmt:=top 36
noncomputable abbrev DY:Stmt:=top 39
abbrev P0 (K:Frag) (C:Addr):Prop:=excIn K C [.type "ValueError",.type "Exception",.type "BaseException",.type "object"] "ValueError.__new__"=true
abbrev kx (K:Frag) (a b:Addr) (v:Bool):Prop:=kitOne K (.ref a) (.ref b)=some v
def qz {N p:List Str}{sc:Scope} (a:sc.kind=.function:=by rfl) (b:sc.isCoroutine=false:=by rfl) (c:sc.isGenerator=false:=by rfl) (d:N.Nodup:=by decide +kernel) (e:N.take p.length=p:=by rfl) (f:∀x∈p,sc.names.lookup x=some .local\/sc.names.lookup x=some .cell:=by decide +kernel) (g:∀y∈sc.names,y.2≠.free:=by decide +kernel):bx N p sc:=⟨a,b,c,d,e,f,g⟩
theorem hm {j k:Nat}{A:Around} (r:fG k A) (h:j<=k:=by decide):fG j A:=r.mono h
def yO:bx ["_law_script","_law_k"] ["_law_script","_law_k"] (aC vO):=qz
def wV:bx ["_law_script","_law_k","_law_many","_law_cell_here"] ["_law_script","_law_k","_law_many"] (aC tE):=qz
def u9:bx ["self","now"] ["self","now"] (aC qp):=qz
def wW:bx ["_law_script","_law_at","_law_way","_law_one","_law_last","_law_days","_law_still"] ["_law_script","_law_at"] (aC lJ):=qz
def fk:bx ["self"] ["self"] (aC gR):=qz
def mH:bx ["self","name","clock"] ["self","name","clock"] (aC tF):=qz
def eQ:bx ["self","name"] ["self","name"] (aC gs):=qz
def gF:bx ["self","name"] ["self","name"] (aC qr):=qz
def jg:bx ["earlier","now"] ["earlier","now"] (aC nt):=qz
def o9:bx ["clock","now"] ["clock","now"] (aC md):=qz
def pb:bx ["clock","moment","rung"] ["clock","moment"] (aC me):=qz
def pd:bx ["clock","now","rung"] ["clock","now"] (aC mh):=qz
def wX:bx ["clock","moment"] ["clock","moment"] (aC tG):=qz
def yP:bx ["clock","now","first","days"] ["clock","now"] (aC qt):=qz
def va:bx ["rising","most","low","high","middle"] ["rising","most"] (aC qu):=qz
def wY:bx ["rising","number","place"] ["rising","number"] (aC tH):=qz
def pf:bx ["clock","now","moment"] ["clock","now"] (aC mj):=qz
def wZ:bx ["clock","now"] ["clock","now"] (aC tI):=qz
def yQ:bx ["clock","now","gone","days"] ["clock","now"] (aC qv):=qz
def ph:bx ["clock","now","moment"] ["clock","now"] (aC ml):=qz
def vb:bx ["clock","moment"] ["clock","moment"] (aC qx):=qz
def pj:bx ["clock","moment","days","set_for","still"] ["clock","moment"] (aC je):=qz
def BQ:bx ["clock","moment"] ["clock","moment"] (aC yd):=qz
def w6:bx ["clock","now","rung"] ["clock","now"] (aC tJ):=qz
def nU:bx ["clock","first","end","told","moment"] ["clock","first","end"] (aC kJ):=qz
def HZ:bx ["clock","start","end","first"] ["clock","start","end"] (aC FI):=qz
def gG:bx ["self","now","told","name","clock"] ["self","now"] (aC mG):=qz
def j9:bx ["self"] ["self"] (aC ox):=qz
def yR:bx ["clock","start","end"] ["clock","start","end"] (aC vP):=qz
def gH:bx ["self","now","told","name","clock","many"] ["self","now"] (aC qy):=qz
def ke:bx ["self","name"] ["self","name"] (aC oy):=qz
def yS:bx ["_law_house","_law_way","_law_name","_law_clock_here","_law_now","_law_e"] ["_law_house","_law_way","_law_name","_law_clock_here","_law_now"] (aC ju):=qz
def w8:bx ["_law_clock_here","_law_start","_law_end","_law_some","_law_many"] ["_law_clock_here","_law_start","_law_end"] (aC h9):=qz
def BR:bx ["_law_mine","_law_way","_law_name","_law_clock_here","_law_now","_law_found","_law_one","_law_some"] ["_law_mine","_law_way","_law_name","_law_clock_here","_law_now"] (aC uw):=qz
def qS:bx ["self"] ["self"] (aC nu):=qz
def tK:bx ["self"] ["self"] (aC oz):=qz
def nV:bx ["self","rows","dues","first"] ["self"] (aC eC):=qz
def kg:bx ["_law_e","_law_flags"] ["_law_e"] (aC iQ):=qz
def P1:bx ["_law_script","_law_start","_law_house","_law_mine","_law_k","_law_way","_law_name","_law_clock_here","_law_now","_law_names","_law_rows","_law_one","_law_far","_law_some","_law_due_here"] ["_law_script"] (aC DY):=qz
theorem VN {P:List Value->Prop} (h:∀a0,P [a0]):∀us:List Value,us.length=1->P us
 | [a0],_=>h a0
theorem Ab {P:List Value->Prop} (h:∀a0 a1,P [a0,a1]):∀us:List Value,us.length=2->P us
 | [a0,a1],_=>h a0 a1
theorem W3 {P:List Value->Prop} (h:∀a0 a1 a2,P [a0,a1,a2]):∀us:List Value,us.length=3->P us
 | [a0,a1,a2],_=>h a0 a1 a2
theorem us5 {P:List Value->Prop} (h:∀a0 a1 a2 a3 a4,P [a0,a1,a2,a3,a4]):∀us:List Value,us.length=5->P us
 | [a0,a1,a2,a3,a4],_=>h a0 a1 a2 a3 a4
structure FT (K:Frag) (mg:Str->Option Value) (q:Str) (st:Stmt) (ps:List Str) (a:Addr) (g:FuncData):Prop where
 u:kY K q q st a g
 d:Binds K g ps []
 m:mg q=some (.ref a)
structure MT (K:Frag) (C:Addr) (m q:Str) (st:Stmt) (ps:List Str) (a:Addr) (g:FuncData):Prop where
 u:kY K m q st a g
 d:Binds K g ps []
 h:Meth K C m a
set_option genInjectivity false in
set_option genSizeOf false in
structure Ad where
 BS:Addr
 BU:FuncData
 yT:Addr
 yU:FuncData
 qA:Addr
 w9:FuncData
 yV:Addr
 yW:FuncData
 gT:Addr
 gU:FuncData
 tL:Addr
 tM:FuncData
 gu:Addr
 gw:FuncData
 mI:Addr
 mJ:FuncData
 nv:Addr
 ny:FuncData
 qT:Addr
 qU:FuncData
 qV:Addr
 qW:FuncData
 qX:Addr
 qY:FuncData
 yX:Addr
 yY:FuncData
 BV:Addr
 BW:FuncData
 xa:Addr
 xb:FuncData
 yZ:Addr
 y8:FuncData
 qZ:Addr
 rf:FuncData
 y9:Addr
 za:FuncData
 BX:Addr
 BY:FuncData
 rh:Addr
 ri:FuncData
 xc:Addr
 xf:FuncData
 rj:Addr
 rm:FuncData
 DZ:Addr
 D1:FuncData
 zb:Addr
 zc:FuncData
 pq:Addr
 pz:FuncData
 Ln:Addr
 Lo:FuncData
 mK:Addr
 mL:FuncData
 oA:Addr
 oB:FuncData
 BZ:Addr
 B0:FuncData
 mM:Addr
 mO:FuncData
 oC:Addr
 oE:FuncData
 kK:Addr
 B1:FuncData
 zd:Addr
 ze:FuncData
 D2:Addr
 D3:FuncData
 tN:Addr
 tO:FuncData
 vc:Addr
 ve:FuncData
 pA:Addr
 pB:FuncData
 vf:Addr
 CL:FuncData
 P2:Addr
 Lp:FuncData
 YV:Tok
 VO:Tok
 af:Addr
 dJ:Addr
 cx:Addr
 cG:Addr
 eG:Addr
 cX:Addr
structure Tx (K:Frag) (mg:Str->Option Value) (t:Ad):Prop where
 qB:FT K mg "_law_cell" vO ["_law_script","_law_k"] t.BS t.BU
 aQ:FT K mg "_law_drawn" tE ["_law_script","_law_k","_law_many"] t.yT t.yU
 xg:MT K t.af "__init__" "House.__init__" qp ["self","now"] t.qA t.w9
 nW:FT K mg "_law_clock" lJ ["_law_script","_law_at"] t.yV t.yW
 aL:MT K t.af "refuse_asleep" "House.refuse_asleep" gR ["self"] t.gT t.gU
 dW:MT K t.af "put" "House.put" tF ["self","name","clock"] t.tL t.tM
 bL:MT K t.af "refuse_unknown" "House.refuse_unknown" gs ["self","name"] t.gu t.gw
 di:MT K t.af "drop" "House.drop" qr ["self","name"] t.mI t.mJ
 bY:FT K mg "refuse_early" nt ["earlier","now"] t.nv t.ny
 jh:FT K mg "next_of_timer" md ["clock","now"] t.qT t.qU
 eV:FT K mg "rung_of_every" me ["clock","moment"] t.qV t.qW
 ji:FT K mg "next_of_every" mh ["clock","now"] t.qX t.qY
 fv:FT K mg "days_gone" tG ["clock","moment"] t.yX t.yY
 jv:FT K mg "next_set" qt ["clock","now"] t.BV t.BW
 eI:FT K mg "many_up_to" qu ["rising","most"] t.xa t.xb
 ia:FT K mg "stands_in" tH ["rising","number"] t.yZ t.y8
 eW:FT K mg "next_of_alarm" mj ["clock","now"] t.qZ t.rf
 ic:FT K mg "next_ring" tI ["clock","now"] t.y9 t.za
 jw:FT K mg "last_set" qv ["clock","now"] t.BX t.BY
 jj:FT K mg "last_of_alarm" ml ["clock","now"] t.rh t.ri
 mP:FT K mg "is_set_for" qx ["clock","moment"] t.xc t.xf
 jk:FT K mg "rung_of_alarm" je ["clock","moment"] t.rj t.rm
 gI:FT K mg "rung_by" yd ["clock","moment"] t.DZ t.D1
 ig:FT K mg "last_ring" tJ ["clock","now"] t.zb t.zc
 iD:FT K mg "rings_of_alarm" kJ ["clock","first","end"] t.pq t.pz
 Ac:FT K mg "rings" FI ["clock","start","end"] t.Ln t.Lo
 dj:MT K t.af "tick" "House.tick" mG ["self","now"] t.mK t.mL
 cY:MT K t.af "sleep" "House.sleep" ox ["self"] t.oA t.oB
 qC:FT K mg "how_many" vP ["clock","start","end"] t.BZ t.B0
 ft:MT K t.af "wake" "House.wake" qy ["self","now"] t.mM t.mO
 fw:MT K t.af "clock" "House.clock" oy ["self","name"] t.oC t.oE
 jx:FT K mg "_law_told" ju ["_law_house","_law_way","_law_name","_law_clock_here","_law_now"] t.kK t.B1
 ij:FT K mg "_law_rings" h9 ["_law_clock_here","_law_start","_law_end"] t.zd t.ze
 ux:FT K mg "_law_due" uw ["_law_mine","_law_way","_law_name","_law_clock_here","_law_now"] t.D2 t.D3
 nz:MT K t.af "moment" "House.moment" nu ["self"] t.tN t.tO
 oF:MT K t.af "names" "House.names" oz ["self"] t.vc t.ve
 kL:MT K t.af "next_due" "House.next_due" eC ["self"] t.pA t.pB
 cZ:FT K mg "_law_refused" iQ ["_law_e"] t.vf t.CL
 P4:FT K mg "law" DY ["_law_script"] t.P2 t.Lp
 FJ:mg "ValueError"=none
 kh:mg "isinstance"=none
 B2:mg "len"=none
 VP:mg "list"=none
 D4:mg "max"=none
 D5:mg "min"=none
 nX:mg "range"=none
 YW:mg "set"=none
 ki:mg "sorted"=none
 Lq:mg "tuple"=none
 Ia:mg "DAY"=some (.int 1440 t.YV)
 vQ:mg "WEEK"=some (.int 7 t.VO)
 aR:Au K t.af
 eN:gM K t.af "asleep"
 du:gM K t.af "clocks"
 cH:gM K t.af "reached"
 SI:Mk K t.af t.qA
 SJ:mg "House"=some (.ref t.af)
 SK:mg "Early"=some (.ref t.dJ)
 MR:mg "NoClock"=some (.ref t.cx)
 P5:mg "Asleep"=some (.ref t.cG)
 SM:mg "Awake"=some (.ref t.eG)
 TL:mg "RingError"=some (.ref t.cX)
 nY:P0 K t.cX
 nZ:nsIn K mainGlobals "RingError"=some (some (.ref t.cX))
 P6:Hn K t.dJ
 vR:kitOne K (.ref t.dJ) (.type "ValueError")=some true
 CM:kx K t.dJ t.dJ true
 zE:kx K t.dJ t.cx false
 B3:kx K t.dJ t.cG false
 CN:kx K t.dJ t.eG false
 Ae:P0 K t.dJ
 FK:nsIn K mainGlobals "Early"=some (some (.ref t.dJ))
 P7:mroIn K t.dJ (.ref t.cX)=some true
 P8:t.dJ≠t.cX
 J9:Hn K t.cx
 tP:kitOne K (.ref t.cx) (.type "ValueError")=some true
 zF:kx K t.cx t.dJ false
 xh:kx K t.cx t.cx true
 ye:kx K t.cx t.cG false
 zG:kx K t.cx t.eG false
 uy:P0 K t.cx
 yf:nsIn K mainGlobals "NoClock"=some (some (.ref t.cx))
 Ka:mroIn K t.cx (.ref t.cX)=some true
 Kb:t.cx≠t.cX
 MS:Hn K t.cG
 uN:kitOne K (.ref t.cG) (.type "ValueError")=some true
 B4:kx K t.cG t.dJ false
 yg:kx K t.cG t.cx false
 zH:kx K t.cG t.cG true
 B5:kx K t.cG t.eG false
 pC:P0 K t.cG
 tQ:nsIn K mainGlobals "Asleep"=some (some (.ref t.cG))
 MU:mroIn K t.cG (.ref t.cX)=some true
 MV:t.cG≠t.cX
 P9:Hn K t.eG
 vS:kitOne K (.ref t.eG) (.type "ValueError")=some true
 CO:kx K t.eG t.dJ false
 zI:kx K t.eG t.cx false
 B6:kx K t.eG t.cG false
 CP:kx K t.eG t.eG true
 Lr:P0 K t.eG
 SN:nsIn K mainGlobals "Awake"=some (some (.ref t.eG))
 Qa:mroIn K t.eG (.ref t.cX)=some true
 Qb:t.eG≠t.cX
section
variable (P:Program) (w:World) (K:Frag) (mg:Str->Option Value) (base:Heap) (t:Ad)
abbrev dE:Prop:=cM P w K mg base (vV P w) 1 t.gT t.gU ["self"] (vB K t.cG (bM t.af))
abbrev bF:Prop:=cM P w K mg base jQ 1 t.gT t.gU ["self"] (AU K (bV t.af))
abbrev vg:Prop:=cM P w K mg base (vV P w) 2 t.tL t.tM ["self","name","clock"] (vB K t.cG (fX t.af))
abbrev fT:Prop:=cM P w K mg base (vV P w) 1 t.gu t.gw ["self","name"] (vB K t.cx (b8 t.af))
abbrev cP:Prop:=cM P w K mg base jQ 1 t.gu t.gw ["self","name"] (AU K (dI t.af))
abbrev tR:Prop:=cM P w K mg base (vV P w) 2 t.mI t.mJ ["self","name"] (vB K t.cx (fF t.af))
abbrev tS:Prop:=cM P w K mg base (vV P w) 2 t.mI t.mJ ["self","name"] (vB K t.cG (fO t.af))
abbrev kM:Prop:=cM P w K mg base (vV P w) 1 t.nv t.ny ["earlier","now"] (Zg K t.dJ dY)
abbrev eX:Prop:=cM P w K mg base jQ 1 t.nv t.ny ["earlier","now"] (jO K hI)
abbrev xi:Prop:=cM P w K mg base jQ 5 t.Ln t.Lo ["clock","start","end"] (jO K zZ)
abbrev rq:Prop:=cM P w K mg base (vV P w) 6 t.mK t.mL ["self","now"] (vB K t.dJ (fZ t.af))
abbrev rz:Prop:=cM P w K mg base (vV P w) 6 t.mK t.mL ["self","now"] (vB K t.cG (fP t.af))
abbrev pD:Prop:=cM P w K mg base (vV P w) 2 t.oA t.oB ["self"] (vB K t.cG (fE t.af))
abbrev mQ:Prop:=cM P w K mg base jQ 4 t.BZ t.B0 ["clock","start","end"] (jO K p8)
abbrev iR:Prop:=cM P w K mg base jQ 4 t.zb t.zc ["clock","now"] (jO K lC)
abbrev rA:Prop:=cM P w K mg base (vV P w) 5 t.mM t.mO ["self","now"] (vB K t.dJ (gb t.af))
abbrev rB:Prop:=cM P w K mg base (vV P w) 5 t.mM t.mO ["self","now"] (vB K t.eG (fY t.af))
abbrev pE:Prop:=cM P w K mg base (vV P w) 2 t.oC t.oE ["self","name"] (vB K t.cx (fj t.af))
abbrev xj:Prop:=cM P w K mg base jQ 1 t.BS t.BU ["_law_script","_law_k"] (jO K pZ)
abbrev oG:Prop:=cM P w K mg base jQ 2 t.yT t.yU ["_law_script","_law_k","_law_many"] (jO K cz)
abbrev tT:Prop:=cM P w K mg base jQ 1 t.qA t.w9 ["self","now"] (AU K (mE t.af))
abbrev vh:Prop:=cM P w K mg base jQ 3 t.yV t.yW ["_law_script","_law_at"] (jO K nN)
abbrev vi:Prop:=cM P w K mg base jQ 2 t.tL t.tM ["self","name","clock"] (AU K (hV t.af))
abbrev tU:Prop:=cM P w K mg base jQ 2 t.mI t.mJ ["self","name"] (AU K (iB t.af))
abbrev n6:Prop:=cM P w K mg base jQ 1 t.qT t.qU ["clock","now"] (jO K iY)
abbrev km:Prop:=cM P w K mg base jQ 1 t.qV t.qW ["clock","moment"] (jO K gC)
abbrev n8:Prop:=cM P w K mg base jQ 2 t.qX t.qY ["clock","now"] (jO K iZ)
abbrev kW:Prop:=cM P w K mg base jQ 1 t.yX t.yY ["clock","moment"] (jO K jF)
abbrev xk:Prop:=cM P w K mg base jQ 2 t.BV t.BW ["clock","now"] (jO K m8)
abbrev nA:Prop:=cM P w K mg base jQ 1 t.xa t.xb ["rising","most"] (jO K iy)
abbrev oH:Prop:=cM P w K mg base jQ 2 t.yZ t.y8 ["rising","number"] (jO K lx)
abbrev kn:Prop:=cM P w K mg base jQ 3 t.qZ t.rf ["clock","now"] (jO K gB)
abbrev oI:Prop:=cM P w K mg base jQ 4 t.y9 t.za ["clock","now"] (jO K ly)
abbrev xl:Prop:=cM P w K mg base jQ 2 t.BX t.BY ["clock","now"] (jO K nh)
abbrev n9:Prop:=cM P w K mg base jQ 3 t.rh t.ri ["clock","now"] (jO K jd)
abbrev tV:Prop:=cM P w K mg base jQ 1 t.xc t.xf ["clock","moment"] (jO K mD)
abbrev oa:Prop:=cM P w K mg base jQ 2 t.rj t.rm ["clock","moment"] (jO K i8)
abbrev tW:Prop:=cM P w K mg base jQ 3 t.DZ t.D1 ["clock","moment"] (jO K mU)
abbrev nB:Prop:=cM P w K mg base jQ 4 t.pq t.pz ["clock","first","end"] (jO K iz)
abbrev tX:Prop:=cM P w K mg base jQ 6 t.mK t.mL ["self","now"] (AU K (iC t.af))
abbrev rC:Prop:=cM P w K mg base jQ 2 t.oA t.oB ["self"] (AU K (fS t.af))
abbrev tY:Prop:=cM P w K mg base jQ 5 t.mM t.mO ["self","now"] (AU K (mF t.af))
abbrev mn:Prop:=cM P w K mg base jQ 2 t.oC t.oE ["self","name"] (AU K (iP t.af))
abbrev xm:Prop:=cM P w K mg base jQ 7 t.kK t.B1 ["_law_house","_law_way","_law_name","_law_clock_here","_law_now"] (AU K (nr t.af))
abbrev oJ:Prop:=cM P w K mg base jQ 1 t.zd t.ze ["_law_clock_here","_law_start","_law_end"] (jO K jH)
abbrev zf:Prop:=cM P w K mg base jQ 2 t.D2 t.D3 ["_law_mine","_law_way","_law_name","_law_clock_here","_law_now"] (AU K (uv))
abbrev pF:Prop:=cM P w K mg base jQ 1 t.tN t.tO ["self"] (AU K (j7 t.af))
abbrev rD:Prop:=cM P w K mg base jQ 1 t.vc t.ve ["self"] (AU K (kU t.af))
abbrev nE:Prop:=cM P w K mg base jQ 5 t.pA t.pB ["self"] (AU K (gk t.af))
abbrev Ls:Prop:=cM P w K mg base jQ 8 t.P2 t.Lp ["_law_script"] (jO K DL)
end
section
variable {P:Program}{w:World}{K:Frag}{mg:Str->Option Value}{base:Heap}{t:Ad}
def qD (T:Tx K mg t) {C:Addr}{b0 b1 b2 b3:Bool}{dM:Value}{A:Around}{MY:List Env}{s:Shared}{H:Hp}{ea:Addr}{oe:Obj} (xC:Hn K C) (kv:kitOne K (.ref C) (.type "ValueError")=some true) (k0:kx K C t.dJ b0) (k1:kx K C t.cx b1) (k2:kx K C t.cG b2) (k3:kx K C t.eG b3) (hu:A.units+3+64<cLine) (jN:oe.cls=.ref C) :
  Em (Zh P w K mg base ["_law_e","_law_flags"] "_law_refused" (aC iQ) t.vf dM A MY s H [(ea,oe)]) (iS iQ) (eE b0 b1 b2 b3 ea):=by
 exact (aA (bR 1 (DK ["_law_e","_law_flags"]) (jR (ah (Bp (c:=.ref t.dJ) (cv:=.ref t.dJ) 0 aj jN xC rfl (fun _ h=>h) k0 (vY (v:=.ref t.dJ) rfl T.SK rfl) T.kh) (ah (Bp (c:=.ref t.cx) (cv:=.ref t.cx) 0 aj jN xC rfl (fun _ h=>h) k1 (vY (v:=.ref t.cx) rfl T.MR rfl) T.kh) (ah (Bp (c:=.ref t.cG) (cv:=.ref t.cG) 0 aj jN xC rfl (fun _ h=>h) k2 (vY (v:=.ref t.cG) rfl T.P5 rfl) T.kh) aH))))) (aA (bR 1 (DK ["_law_e","_law_flags"]) (bA (dv 1) (jR (ah (Bp (c:=.ref t.eG) (cv:=.ref t.eG) 0 aj jN xC rfl (fun _ h=>h) k3 (vY (v:=.ref t.eG) rfl T.SM rfl) T.kh) aH)))) (aA (cc (uB (Kq (uS (by exact hu) (Vt (dv 1)) aq) (El (AD (iW (Bp (c:=.type "ValueError") (cv:=.ty "ValueError") 0 aj jN xC rfl (fun _ h=>h) kv (Qv (v:=.ty "ValueError") rfl T.FJ rfl rfl) T.kh)))))) (aD oU) bz) (aD (ba (gp (ah fH (ah (Vu (dv 1)) aH))))))))
def lK (T:Tx K mg t) (KB:K.In base) (NB:base.Ns mainGlobals mg)   :(dE P w K mg base t):=by
 have OE:=iG KB NB T.tQ T.pC;refine Br (k:=0) (q:=eU t.af) T.aL.u fk (lF _) (lH t.af) fun dM A outer s H E n Pk hr W WM=>?_
 have nd:=(fk).nd;exact (cy (Hl (iW (gi (kF 0 T.aR T.eN))) (cy (um WM rfl OE PySem.F.excBase_ValueError)) Bo))
def uO (T:Tx K mg t) (KB:K.In base) (NB:base.Ns mainGlobals mg) (aG:(bF P w K mg base t))  (aT:(dE P w K mg base t)):(vg P w K mg base t):=by
 have OE:=iG KB NB T.tQ T.pC;refine Br (k:=1) (q:=jq t.af) T.dW.u mH (uF _) (uJ t.af) fun dM A outer s H E n Pk hr W WM=>?_
 have nd:=(mH).nd;exact (cy (nL (sv 0 W T.aR T.aL.h aT (hm hr) T.aL.d)))
def kA (T:Tx K mg t) (KB:K.In base) (NB:base.Ns mainGlobals mg)   :(fT P w K mg base t):=by
 have OE:=iG KB NB T.yf T.uy;refine Br (k:=0) (q:=eB t.af) T.bL.u eQ (ky _) (kz t.af) fun dM A outer s H E n Pk hr W WM=>?_
 have nd:=(eQ).nd;exact (cy (Hl (Dt 0 (by exact dw hr) T.aR T.du (jo 1)) (cy (um WM rfl OE PySem.F.excBase_ValueError)) Bo))
def rT (T:Tx K mg t) (KB:K.In base) (NB:base.Ns mainGlobals mg) (aG:(bF P w K mg base t)) (bo:(cP P w K mg base t))  (bS:(fT P w K mg base t)):(tR P w K mg base t):=by
 have OE:=iG KB NB T.yf T.uy;refine Br (k:=1) (q:=h8 t.af) T.di.u gF (rO _) (rQ t.af) fun dM A outer s H E n Pk hr W WM=>?_
 have nd:=(gF).nd;exact (fy (kS (gf 0 T.aR T.aL.h aG (hm hr) T.aL.d)) (cy (nL (kT 0 W T.aR T.bL.h bS (hm hr) T.bL.d (br (dv 1) cQ)))))
def tZ (T:Tx K mg t) (KB:K.In base) (NB:base.Ns mainGlobals mg) (aG:(bF P w K mg base t)) (bo:(cP P w K mg base t))  (aT:(dE P w K mg base t)):(tS P w K mg base t):=by
 have OE:=iG KB NB T.tQ T.pC;refine Br (k:=1) (q:=iI t.af) T.di.u gF (sY _) (tf t.af) fun dM A outer s H E n Pk hr W WM=>?_
 have nd:=(gF).nd;exact (cy (nL (sv 0 W T.aR T.aL.h aT (hm hr) T.aL.d)))
def rV (T:Tx K mg t) (KB:K.In base) (NB:base.Ns mainGlobals mg)   :(kM P w K mg base t):=by
 have OE:=iG KB NB T.FK T.Ae;refine fnR (k:=0) T.bY.u jg rL fun dM A outer s H E n hr W WM=>⟨hX (fun _=>True),?_,rM⟩
 have nd:=(jg).nd;exact (cy (Hl (uB (lN (kZ (dv 0) eK) (iU (Gu (dv 1) (dv 0))))) (cy (um WM rfl OE PySem.F.excBase_ValueError)) Bo))
def uP (T:Tx K mg t) (KB:K.In base) (NB:base.Ns mainGlobals mg) (aG:(bF P w K mg base t)) (bZ:(eX P w K mg base t)) (qE:(xi P w K mg base t))  (dF:(kM P w K mg base t)):(rq P w K mg base t):=by
 have OE:=iG KB NB T.FK T.Ae;refine Br (k:=5) (q:=jr t.af) T.dj.u gG (uH _) (uK t.af) fun dM A outer s H E n Pk hr W WM=>?_
 have nd:=(gG).nd;exact (fy (kS (gf 0 T.aR T.aL.h aG (hm hr) T.aL.d)) (cy (nL (K5 W dF (hm hr) T.bY.m T.bY.u.kp T.bY.d (ah (gi (kF 0 T.aR T.cH)) (ah (dv 1) aH))))))
def t5 (T:Tx K mg t) (KB:K.In base) (NB:base.Ns mainGlobals mg) (aG:(bF P w K mg base t)) (bZ:(eX P w K mg base t)) (qE:(xi P w K mg base t))  (aT:(dE P w K mg base t)):(rz P w K mg base t):=by
 have OE:=iG KB NB T.tQ T.pC;refine Br (k:=5) (q:=iJ t.af) T.dj.u gG (sZ _) (tj t.af) fun dM A outer s H E n Pk hr W WM=>?_
 have nd:=(gG).nd;exact (cy (nL (sv 0 W T.aR T.aL.h aT (hm hr) T.aL.d)))
def rW (T:Tx K mg t) (KB:K.In base) (NB:base.Ns mainGlobals mg) (aG:(bF P w K mg base t))  (aT:(dE P w K mg base t)):(pD P w K mg base t):=by
 have OE:=iG KB NB T.tQ T.pC;refine Br (k:=1) (q:=hZ t.af) T.cY.u j9 (rN _) (rP t.af) fun dM A outer s H E n Pk hr W WM=>?_
 have nd:=(j9).nd;exact (cy (nL (sv 0 W T.aR T.aL.h aT (hm hr) T.aL.d)))
def uQ (T:Tx K mg t) (KB:K.In base) (NB:base.Ns mainGlobals mg) (bZ:(eX P w K mg base t)) (jy:(mQ P w K mg base t)) (fx:(iR P w K mg base t))  (dF:(kM P w K mg base t)):(rA P w K mg base t):=by
 have OE:=iG KB NB T.FK T.Ae;refine Br (k:=4) (q:=js t.af) T.ft.u gH (uI _) (uL t.af) fun dM A outer s H E n Pk hr W WM=>?_
 have nd:=(gH).nd;exact (fy (cc (AD (iW (gi (kF 0 T.aR T.eN)))) (aD oU) bz) (cy (nL (K5 W dF (hm hr) T.bY.m T.bY.u.kp T.bY.d (ah (gi (kF 0 T.aR T.cH)) (ah (dv 1) aH))))))
def uR (T:Tx K mg t) (KB:K.In base) (NB:base.Ns mainGlobals mg) (bZ:(eX P w K mg base t)) (jy:(mQ P w K mg base t)) (fx:(iR P w K mg base t))  :(rB P w K mg base t):=by
 have OE:=iG KB NB T.SN T.Lr;refine Br (k:=4) (q:=jt t.af) T.ft.u gH (uG _) (uM t.af) fun dM A outer s H E n Pk hr W WM=>?_
 have nd:=(gH).nd;exact (cy (Hl (AD (iW (gi (kF 0 T.aR T.eN)))) (cy (um WM rfl OE PySem.F.excBase_ValueError)) Bo))
def qF (T:Tx K mg t) (KB:K.In base) (NB:base.Ns mainGlobals mg) (bo:(cP P w K mg base t))  (bS:(fT P w K mg base t)):(pE P w K mg base t):=by
 have OE:=iG KB NB T.yf T.uy;refine Br (k:=1) (q:=gP t.af) T.fw.u ke (qj _) (qk t.af) fun dM A outer s H E n Pk hr W WM=>?_
 have nd:=(ke).nd;exact (cy (nL (kT 0 W T.aR T.bL.h bS (hm hr) T.bL.d (br (dv 1) cQ))))
def Ib (T:Tx K mg t)  :(xj P w K mg base t):=by
 refine zP (k:=0) T.qB.u yO JF fun dM A outer s H E hr=>⟨p0,?_,JG⟩
 have nd:=(yO).nd;exact (aA (cc (cL hr.units (dv 0) (jR aH)) (aD (ba (gN aq (dv 1)))) bz) (aD (ba (bA (bb (dv 0) (lQ (dv 1) (pQ T.B2 (ah (dv 0) aH)))) (gN aq (iV (dv 1) (pQ T.B2 (ah (dv 0) aH))))))))
def FL (T:Tx K mg t) (vT:(xj P w K mg base t)) :(oG P w K mg base t):=by
 refine zP (k:=1) T.aQ.u wV Ht fun dM A outer s H E hr=>⟨sx,?_,Hu⟩
 have nd:=(wV).nd;exact (aA (bR 3 nd (lQ (bA (gN (lQ (bu vT (hm hr) T.qB.m T.qB.u.kp T.qB.d (ah (dv 0) (ah (dv 1) aH))) aq) aq) (gN aq (bA (dv 1) aq))) aq)) (aA (bR 3 nd (lQ (bA (gN (dv 3) (dv 3)) (iV (dv 3) aq)) aq)) (aD (ba (lQ (iV (lQ (bA (gN (dv 3) (dv 3)) (iV (dv 3) aq)) aq) aq) (dv 2))))))
def CQ (T:Tx K mg t)  :(tT P w K mg base t):=by
 refine KC (k:=0) T.xg.u u9 (Fs _) fun dM A outer s H E hr=>⟨qc t.af,?_,Fw t.af⟩
 have nd:=(u9).nd;exact (aA (uh 0 T.aR T.cH (dv 1)) (aA (Rv 0 T.aR T.du) (aD (uh 0 T.aR T.eN wa))))
def FN (T:Tx K mg t) (cA:(oG P w K mg base t)) :(vh P w K mg base t):=by
 refine zP (k:=2) T.nW.u wW HI fun dM A outer s H E hr=>⟨sH,?_,HJ⟩
 have nd:=(wW).nd;exact (aA (bR 2 nd (bu cA (hm hr) T.aQ.m T.aQ.u.kp T.aQ.d (ah (dv 0) (ah (dv 1) (ah aq aH))))) (aA (bR 3 nd (bu cA (hm hr) T.aQ.m T.aQ.u.kp T.aQ.d (ah (dv 0) (ah (bA (dv 1) aq) (ah aq aH))))) (aA (bR 4 nd (bb (jR (ah eK (ah (bu cA (hm hr) T.aQ.m T.aQ.u.kp T.aQ.d (ah (dv 0) (ah (bA (dv 1) aq) (ah aq aH)))) aH))) (bu cA (hm hr) T.aQ.m T.aQ.u.kp T.aQ.d (ah (dv 0) (ah (bA (dv 1) aq) (ah aq aH)))))) (aA (cc (cL hr.units (dv 2) aq) (aD (ba (gp (ah fH (ah (dv 3) (ah (bu cA (hm hr) T.aQ.m T.aQ.u.kp T.aQ.d (ah (dv 0) (ah (bA (dv 1) aq) (ah aq aH)))) (ah (dv 4) aH))))))) bz) (aA (cc (cL hr.units (dv 2) aq) (aD (ba (gp (ah fH (ah (dv 3) (ah (bA aq (bu cA (hm hr) T.aQ.m T.aQ.u.kp T.aQ.d (ah (dv 0) (ah (bA (dv 1) aq) (ah aq aH))))) (ah (dv 4) aH))))))) bz) (aA (bR 5 nd (Di T.Lq (ah (jW ["_law_script","_law_at","_law_way","_law_one","_law_last","_law_days","_law_still","_law_day"] 1 rfl (oV T.nX (ah aq aH)) (fun cl C ex s H=>⟨(fM 7 (DK ["_law_script","_law_at","_law_way","_law_one","_law_last","_law_days","_law_still","_law_day"])),(jT (cL (by exact hr.units) (bu (by exact cA) (by exact hm hr) (by exact T.aQ.m) (by exact T.aQ.u.kp) (by exact T.aQ.d) (ah (dv 0) (ah (bA (bA (dv 1) aq) (dv 7)) (ah aq aH)))) aq)),(dv 7)⟩) (by show fg ["_law_script","_law_at","_law_way","_law_one","_law_last","_law_days","_law_still"] (aC lJ) ["_law_script","_law_at","_law_way","_law_one","_law_last","_law_days","_law_still","_law_day"] _ 1=true;decide +kernel) (by intro _;rfl)) aH)) rfl (by first | exact Or.inl rfl | exact Or.inr rfl) rfl (by first | exact .inl rfl | exact .inr rfl | assumption)) (aA (m5 ["_law_script","_law_at","_law_way","_law_one","_law_last","_law_days","_law_still","_law_k"] 1 6 rfl (oV T.nX (ah (bu cA (hm hr) T.aQ.m T.aQ.u.kp T.aQ.d (ah (dv 0) (ah (bA (dv 1) aq) (ah aq aH)))) aH)) (fun cl C ex s H=>⟨(fM 7 (DK ["_law_script","_law_at","_law_way","_law_one","_law_last","_law_days","_law_still","_law_k"])),pR,(bA (gN (bu (by exact cA) (by exact hm hr) (by exact T.aQ.m) (by exact T.aQ.u.kp) (by exact T.aQ.d) (ah (dv 0) (ah (bA (bA (dv 1) aq) (dv 7)) (ah aq aH)))) aq) (dv 3))⟩) (by show fg ["_law_script","_law_at","_law_way","_law_one","_law_last","_law_days","_law_still"] (aC lJ) ["_law_script","_law_at","_law_way","_law_one","_law_last","_law_days","_law_still","_law_k"] _ 1=true;decide +kernel) (by intro _;rfl) nd rfl (by first | exact Or.inl rfl | exact Or.inr rfl) rfl (by first | exact .inl rfl | exact .inr rfl | assumption)) (aD (ba (gp (ah fH (ah (dv 3) (ah (dv 5) (ah (Di T.Lq (ah (CA rfl T.ki T.YW (ah (dv 6) aH)) aH)) aH))))))))))))))
def qG (T:Tx K mg t)  :(bF P w K mg base t):=by
 refine KC (k:=0) T.aL.u fk (rJ _) fun dM A outer s H E hr=>⟨gO t.af,?_,rK t.af⟩
 have nd:=(fk).nd;exact (aD (cc (iW (gi (kF 0 T.aR T.eN))) (aD oU) bz))
def FO (T:Tx K mg t) (aG:(bF P w K mg base t)) :(vi P w K mg base t):=by
 refine KC (k:=1) T.dW.u mH (HN _) fun dM A outer s H E hr=>⟨sI t.af,?_,HP t.af⟩
 have nd:=(mH).nd;exact (aA (kS (gf 0 T.aR T.aL.h aG (hm hr) T.aL.d)) (aD (Rx 0 (by exact dw hr) T.aR T.du (jo 2) (jo 1))))
def pG (T:Tx K mg t)  :(cP P w K mg base t):=by
 refine KC (k:=0) T.bL.u eQ (qb _) fun dM A outer s H E hr=>⟨gr t.af,?_,qe t.af⟩
 have nd:=(eQ).nd;exact (aD (cc (Dt 0 (by exact dw hr) T.aR T.du (jo 1)) (aD oU) bz))
def CS (T:Tx K mg t) (aG:(bF P w K mg base t)) (bo:(cP P w K mg base t)) :(tU P w K mg base t):=by
 refine KC (k:=1) T.di.u gF (Ft _) fun dM A outer s H E hr=>⟨qf t.af,?_,Fx t.af⟩
 have nd:=(gF).nd;exact (aA (kS (gf 0 T.aR T.aL.h aG (hm hr) T.aL.d)) (aA (kS (gq 0 T.aR T.bL.h bo (hm hr) T.bL.d (br (dv 1) cQ))) (aD (Ry 0 T.aR T.du (jo 1)))))
def zJ (T:Tx K mg t)  :(eX P w K mg base t):=by
 refine zP (k:=0) T.bY.u jg By fun dM A outer s H E hr=>⟨jZ,?_,Bz⟩
 have nd:=(jg).nd;exact (aD (cc (uB (lN (kZ (dv 0) eK) (iU (Gu (dv 1) (dv 0))))) (aD oU) bz))
def yh (T:Tx K mg t)  :(n6 P w K mg base t):=by
 refine zP (k:=0) T.jh.u o9 zq fun dM A outer s H E hr=>⟨i9,?_,zv⟩
 have nd:=(o9).nd;exact (aA (cc (uB (Kq (AI (bb (dv 0) aq) eK) (El (Ku (bA (bb (dv 0) aq) (bb (dv 0) aq)) (dv 1))))) (aD (ba eK)) bz) (aD (ba (bA (bb (dv 0) aq) (bb (dv 0) aq)))))
def yi (T:Tx K mg t)  :(km P w K mg base t):=by
 refine zP (k:=0) T.eV.u pb zr fun dM A outer s H E hr=>⟨ja,?_,zw⟩
 have nd:=(pb).nd;exact (aA (bR 2 nd (xE rfl T.D4 (ah aq (ah (bA (iV (pP (dv 1) (bb (dv 0) aq)) (bb (dv 0) aq)) aq) aH)))) (aD (ba (yu (AI (bb (dv 0) aq) eK) (dv 2) (IS rfl T.D5 (ah (dv 2) (ah (bb (dv 0) aq) aH)))))))
def yj (T:Tx K mg t) (fJ:(km P w K mg base t)) :(n8 P w K mg base t):=by
 refine zP (k:=1) T.ji.u pd zt fun dM A outer s H E hr=>⟨jc,?_,zx⟩
 have nd:=(pd).nd;exact (aA (bR 2 nd (bu fJ (hm hr) T.eV.m T.eV.u.kp T.eV.d (ah (dv 0) (ah (dv 1) aH)))) (aA (cc (uB (lN (kZ (bb (dv 0) aq) eK) (iU (cL hr.units (dv 2) (bb (dv 0) aq))))) (aD (ba eK)) bz) (aD (ba (bA (bb (dv 0) aq) (gN (dv 2) (bb (dv 0) aq)))))))
def FP (T:Tx K mg t)  :(kW P w K mg base t):=by
 refine zP (k:=0) T.fv.u wX HA fun dM A outer s H E hr=>⟨sF,?_,HD⟩
 have nd:=(wX).nd;exact (aD (ba (xE rfl T.D4 (ah aq (ah (bA (iV (pP (dv 1) (bb (dv 0) aq)) (iT T.Ia)) aq) aH)))))
def Ie (T:Tx K mg t) (fQ:(kW P w K mg base t)) :(xk P w K mg base t):=by
 refine zP (k:=1) T.jv.u yP JL fun dM A outer s H E hr=>⟨vD,?_,JM⟩
 have nd:=(yP).nd;exact (aA (bR 2 nd (bu fQ (hm hr) T.fv.m T.fv.u.kp T.fv.d (ah (dv 0) (ah (dv 1) aH)))) (aA (m5 ["clock","now","first","days","day"] 1 3 rfl (Dd T.nX (ah (dv 2) (ah (bA (dv 2) (iT T.vQ)) aH))) (fun cl C ex s H=>⟨(fM 4 (DK ["clock","now","first","days","day"])),(jT (Ez (by exact hr.units) (lQ (dv 4) (iT (by exact T.vQ))) (bb (dv 0) aq))),(dv 4)⟩) (by show fg ["clock","now","first","days"] (aC qt) ["clock","now","first","days","day"] _ 1=true;decide +kernel) (by intro _;rfl) nd rfl (by first | exact Or.inl rfl | exact Or.inr rfl) rfl (by first | exact .inl rfl | exact .inr rfl | assumption)) (aD (ba (yu (iW (dv 3)) (bA (gN (bb (dv 3) aq) (iT T.Ia)) (bb (dv 0) aq)) eK)))))
def CT (T:Tx K mg t)  :(nA P w K mg base t):=by
 refine zP (k:=0) T.eI.u va Fh fun dM A outer s H E hr=>⟨p6,?_,Fj⟩
 have nd:=(va).nd;exact (aA (bR 2 nd aq) (aA (bR 3 nd (pQ T.B2 (ah (dv 0) aH))) (aA (wg cB (Gu (dv 2) (dv 3)) (aA (bR 4 nd (iV (bA (dv 2) (dv 3)) aq)) (aD (cc (Ku (bb (dv 0) (dv 4)) (dv 1)) (aD (bR 2 nd (bA (dv 4) aq))) (aD (bR 3 nd (dv 4))))))) (aD (ba (dv 2))))))
def FQ (T:Tx K mg t) (gx:(nA P w K mg base t)) :(oH P w K mg base t):=by
 refine zP (k:=1) T.ia.u wY Hz fun dM A outer s H E hr=>⟨sE,?_,HC⟩
 have nd:=(wY).nd;exact (aA (bR 2 nd (bu gx (hm hr) T.eI.m T.eI.u.kp T.eI.d (ah (dv 0) (ah (dv 1) aH)))) (aD (ba (NJ (XD (dv 2) aq) (NI (S4 hr.units (bb (dv 0) (pP (dv 2) aq)) (dv 1)))))))
def yk (T:Tx K mg t) (qH:(xk P w K mg base t)) (jJ:(oH P w K mg base t)) :(kn P w K mg base t):=by
 refine zP (k:=2) T.eW.u pf zp fun dM A outer s H E hr=>⟨lZ,?_,zA⟩
 have nd:=(pf).nd;exact (aA (bR 2 nd (bu qH (hm hr) T.jv.m T.jv.u.kp T.jv.d (ah (dv 0) (ah (dv 1) aH)))) (aA (wg cB (uB (lN (kZ (dv 2) eK) (iU (iW (bu jJ (hm hr) T.ia.m T.ia.u.kp T.ia.d (ah (bb (dv 0) aq) (ah (dv 2) aH))))))) (aD (bR 2 nd (bu qH (hm hr) T.jv.m T.jv.u.kp T.jv.d (ah (dv 0) (ah (dv 2) aH)))))) (aD (ba (dv 2)))))
def FR (T:Tx K mg t) (mq:(n6 P w K mg base t)) (mr:(n8 P w K mg base t)) (fK:(kn P w K mg base t)) :(oI P w K mg base t):=by
 refine zP (k:=3) T.ic.u wZ HB fun dM A outer s H E hr=>⟨lB,?_,HE⟩
 have nd:=(wZ).nd;exact (aA (cc (cL hr.units (bb (dv 0) aq) fH) (aD (ba (bu mq (hm hr) T.jh.m T.jh.u.kp T.jh.d (ah (dv 0) (ah (dv 1) aH))))) bz) (aA (cc (cL hr.units (bb (dv 0) aq) fH) (aD (ba (bu mr (hm hr) T.ji.m T.ji.u.kp T.ji.d (ah (dv 0) (ah (dv 1) aH))))) bz) (aD (ba (bu fK (hm hr) T.eW.m T.eW.u.kp T.eW.d (ah (dv 0) (ah (dv 1) aH)))))))
def Ig (T:Tx K mg t) (fQ:(kW P w K mg base t)) :(xl P w K mg base t):=by
 refine zP (k:=1) T.jw.u yQ JO fun dM A outer s H E hr=>⟨vE,?_,JP⟩
 have nd:=(yQ).nd;exact (aA (bR 2 nd (bu fQ (hm hr) T.fv.m T.fv.u.kp T.fv.d (ah (dv 0) (ah (dv 1) aH)))) (aA (m5 ["clock","now","gone","days","day"] 1 3 rfl (Dd T.nX (ah (xE rfl T.D4 (ah aq (ah (pP (dv 2) (iT T.vQ)) aH))) (ah (dv 2) aH))) (fun cl C ex s H=>⟨(fM 4 (DK ["clock","now","gone","days","day"])),(jT (Ez (by exact hr.units) (lQ (dv 4) (iT (by exact T.vQ))) (bb (dv 0) aq))),(dv 4)⟩) (by show fg ["clock","now","gone","days"] (aC qv) ["clock","now","gone","days","day"] _ 1=true;decide +kernel) (by intro _;rfl) nd rfl (by first | exact Or.inl rfl | exact Or.inr rfl) rfl (by first | exact .inl rfl | exact .inr rfl | assumption)) (aD (ba (yu (iW (dv 3)) (bA (gN (bb (dv 3) (IT aq)) (iT T.Ia)) (bb (dv 0) aq)) eK)))))
def ym (T:Tx K mg t) (qI:(xl P w K mg base t)) (jJ:(oH P w K mg base t)) :(n9 P w K mg base t):=by
 refine zP (k:=2) T.jj.u ph zB fun dM A outer s H E hr=>⟨ma,?_,zC⟩
 have nd:=(ph).nd;exact (aA (bR 2 nd (bu qI (hm hr) T.jw.m T.jw.u.kp T.jw.d (ah (dv 0) (ah (dv 1) aH)))) (aA (wg cB (uB (lN (kZ (dv 2) eK) (iU (iW (bu jJ (hm hr) T.ia.m T.ia.u.kp T.ia.d (ah (bb (dv 0) aq) (ah (dv 2) aH))))))) (aD (bR 2 nd (bu qI (hm hr) T.jw.m T.jw.u.kp T.jw.d (ah (dv 0) (ah (pP (dv 2) aq) aH)))))) (aD (ba (dv 2)))))
def CU (T:Tx K mg t)  :(tV P w K mg base t):=by
 refine zP (k:=0) T.mP.u vb Fi fun dM A outer s H E hr=>⟨p7,?_,Fm⟩
 have nd:=(vb).nd;exact (aD (ba (NJ (S4 hr.units (lQ (dv 1) (iT T.Ia)) (bb (dv 0) aq)) (NI (UM hr.units (lQ (iV (dv 1) (iT T.Ia)) (iT T.vQ)) (bb (dv 0) aq))))))
def yn (T:Tx K mg t) (fQ:(kW P w K mg base t)) (gx:(nA P w K mg base t)) (qJ:(tV P w K mg base t)) :(oa P w K mg base t):=by
 refine zP (k:=1) T.jk.u pj zu fun dM A outer s H E hr=>⟨lY,?_,zy⟩
 have nd:=(pj).nd;exact (aA (bR 2 nd (bu fQ (hm hr) T.fv.m T.fv.u.kp T.fv.d (ah (dv 0) (ah (dv 1) aH)))) (aA (bR 3 nd (bA (gN (iV (dv 2) (iT T.vQ)) (pQ T.B2 (ah (bb (dv 0) aq) aH))) (bu gx (hm hr) T.eI.m T.eI.u.kp T.eI.d (ah (bb (dv 0) aq) (ah (pP (lQ (dv 2) (iT T.vQ)) aq) aH))))) (aA (bR 4 nd (xH (bb (dv 0) aq) Et (Eu (bu gx (hm hr) T.eI.m T.eI.u.kp T.eI.d (ah (bb (dv 0) aq) (ah (dv 1) aH)))))) (aD (ba (pP (dv 3) (pQ T.B2 (ah (jW ["clock","moment","days","set_for","still","one"] 1 rfl (iX (dv 4)) (fun cl C ex s H=>⟨(fM 5 (DK ["clock","moment","days","set_for","still","one"])),(jT (iW (bu (by exact qJ) (by exact hm hr) (by exact T.mP.m) (by exact T.mP.u.kp) (by exact T.mP.d) (ah (dv 0) (ah (dv 5) aH))))),(dv 5)⟩) (by show fg ["clock","moment","days","set_for","still"] (aC je) ["clock","moment","days","set_for","still","one"] _ 1=true;decide +kernel) (by intro _;rfl)) aH))))))))
def Kc (T:Tx K mg t) (fJ:(km P w K mg base t)) (mv:(oa P w K mg base t)) :(tW P w K mg base t):=by
 refine zP (k:=2) T.gI.u BQ MF fun dM A outer s H E hr=>⟨mV,?_,MG⟩
 have nd:=(BQ).nd;exact (aA (cc (cL hr.units (bb (dv 0) aq) fH) (aD (ba (yu (uB (lN (kZ (bb (dv 0) aq) eK) (iU (Ku (bA (bb (dv 0) aq) (bb (dv 0) aq)) (dv 1))))) aq aq))) bz) (aA (cc (cL hr.units (bb (dv 0) aq) fH) (aD (ba (bu fJ (hm hr) T.eV.m T.eV.u.kp T.eV.d (ah (dv 0) (ah (dv 1) aH))))) bz) (aD (ba (bu mv (hm hr) T.jk.m T.jk.u.kp T.jk.d (ah (dv 0) (ah (dv 1) aH)))))))
def FU (T:Tx K mg t) (mx:(n9 P w K mg base t)) (kN:(tW P w K mg base t)) :(iR P w K mg base t):=by
 refine zP (k:=3) T.ig.u w6 HF fun dM A outer s H E hr=>⟨lD,?_,HG⟩
 have nd:=(w6).nd;exact (aA (cc (cL hr.units (bb (dv 0) aq) fH) (aD (ba (bu mx (hm hr) T.jj.m T.jj.u.kp T.jj.d (ah (dv 0) (ah (dv 1) aH))))) bz) (aA (bR 2 nd (bu kN (hm hr) T.gI.m T.gI.u.kp T.gI.d (ah (dv 0) (ah (dv 1) aH)))) (aA (cc (cL hr.units (dv 2) aq) (aD (ba eK)) bz) (aA (cc (cL hr.units (bb (dv 0) aq) fH) (aD (ba (bA (bb (dv 0) aq) (bb (dv 0) aq)))) bz) (aD (ba (bA (bb (dv 0) aq) (gN (pP (dv 2) aq) (bb (dv 0) aq)))))))))
def xn (T:Tx K mg t) (fK:(kn P w K mg base t)) :(nB P w K mg base t):=by
 refine zP (k:=3) T.iD.u nU xW fun dM A outer s H E hr=>⟨kH,?_,xX⟩
 have nd:=(nU).nd;exact (aA (Eo 3 nd aH) (aA (bR 4 nd (dv 1)) (aA (wg cB (Ku (dv 4) (dv 2)) (aA (xD 3 (dv 4)) (aD (bR 4 nd (bu fK (hm hr) T.eW.m T.eW.u.kp T.eW.d (ah (dv 0) (ah (dv 4) aH))))))) (Ep 3 (aD (ba (dv 3)))))))
def Qc (T:Tx K mg t) (jK:(oI P w K mg base t)) (fx:(iR P w K mg base t)) (kO:(nB P w K mg base t)) :(xi P w K mg base t):=by
 refine zP (k:=4) T.Ac.u HZ Si fun dM A outer s H E hr=>⟨Fn,?_,Sj⟩
 have nd:=(HZ).nd;exact (aA (bR 3 nd (bu jK (hm hr) T.ic.m T.ic.u.kp T.ic.d (ah (dv 0) (ah (dv 1) aH)))) (aA (cc (uB (Kq (AI (dv 3) eK) (El (S5 (dv 3) (dv 2))))) (aD (ba (jR aH))) bz) (aA (cc (cL hr.units (bb (dv 0) aq) fH) (aD (ba (jR (ah (dv 3) aH)))) bz) (aA (cc (cL hr.units (bb (dv 0) aq) fH) (aD (ba (Cv rfl T.VP T.nX (ah (dv 3) (ah (bA (bu fx (hm hr) T.ig.m T.ig.u.kp T.ig.d (ah (dv 0) (ah (dv 2) aH))) aq) (ah (bb (dv 0) aq) aH)))))) bz) (aD (ba (bu kO (hm hr) T.iD.m T.iD.u.kp T.iD.d (ah (dv 0) (ah (dv 3) (ah (dv 2) aH))))))))))
def CV (T:Tx K mg t) (aG:(bF P w K mg base t)) (bZ:(eX P w K mg base t)) (qE:(xi P w K mg base t)) :(tX P w K mg base t):=by
 refine KC (k:=5) T.dj.u gG (Fu _) fun dM A outer s H E hr=>⟨qg t.af,?_,Fy t.af⟩
 have nd:=(gG).nd;exact (aA (kS (gf 0 T.aR T.aL.h aG (hm hr) T.aL.d)) (aA (kS (bu bZ (hm hr) T.bY.m T.bY.u.kp T.bY.d (ah (gi (kF 0 T.aR T.cH)) (ah (dv 1) aH)))) (aA (Eo 2 nd aH) (aA (Ot 0 (AF cB rfl (A6 0 T.aR T.du) (ug 3 4 rfl nd) (aD (L0 2 (jW ["self","now","told","name","clock","moment"] 1 rfl (iX (bu qE (hm hr) T.Ac.m T.Ac.u.kp T.Ac.d (ah (dv 4) (ah (gi (kF 0 T.aR T.cH)) (ah (dv 1) aH))))) (fun cl C ex s H=>⟨(fM 5 (DK ["self","now","told","name","clock","moment"])),pR,(gp (ah (dv 5) (ah (dv 3) aH)))⟩) (by show fg ["self","now","told","name","clock"] (aC mG) ["self","now","told","name","clock","moment"] _ 1=true;decide +kernel) (by intro _;rfl)))))) (Ep 2 (aA (uh 0 T.aR T.cH (dv 1)) (aD (ba (vv T.ki (ah (dv 2) aH))))))))))
def B7 (T:Tx K mg t) (aG:(bF P w K mg base t)) :(rC P w K mg base t):=by
 refine KC (k:=1) T.cY.u j9 (CF _) fun dM A outer s H E hr=>⟨oq t.af,?_,CI t.af⟩
 have nd:=(j9).nd;exact (aA (kS (gf 0 T.aR T.aL.h aG (hm hr) T.aL.d)) (aD (uh 0 T.aR T.eN wa)))
def Ih (T:Tx K mg t) (kN:(tW P w K mg base t)) :(mQ P w K mg base t):=by
 refine zP (k:=3) T.qC.u yR JQ fun dM A outer s H E hr=>⟨vF,?_,JR⟩
 have nd:=(yR).nd;exact (aD (ba (xE rfl T.D4 (ah aq (ah (pP (bu kN (hm hr) T.gI.m T.gI.u.kp T.gI.d (ah (dv 0) (ah (dv 2) aH))) (bu kN (hm hr) T.gI.m T.gI.u.kp T.gI.d (ah (dv 0) (ah (dv 1) aH)))) aH)))))
def CW (T:Tx K mg t) (bZ:(eX P w K mg base t)) (jy:(mQ P w K mg base t)) (fx:(iR P w K mg base t)) :(tY P w K mg base t):=by
 refine KC (k:=4) T.ft.u gH (Fv _) fun dM A outer s H E hr=>⟨qh t.af,?_,Fz t.af⟩
 have nd:=(gH).nd;exact (aA (cc (AD (iW (gi (kF 0 T.aR T.eN)))) (aD oU) bz) (aA (kS (bu bZ (hm hr) T.bY.m T.bY.u.kp T.bY.d (ah (gi (kF 0 T.aR T.cH)) (ah (dv 1) aH)))) (aA (Eo 2 nd aH) (aA (Ot 0 (AF cB rfl (A6 0 T.aR T.du) (ug 3 4 rfl nd) (aA (bR 5 nd (bu jy (hm hr) T.qC.m T.qC.u.kp T.qC.d (ah (dv 4) (ah (gi (kF 0 T.aR T.cH)) (ah (dv 1) aH))))) (aD (cc (S5 (dv 5) aq) (aD (xD 2 (gp (ah (dv 3) (ah (bu fx (hm hr) T.ig.m T.ig.u.kp T.ig.d (ah (dv 4) (ah (dv 1) aH))) (ah (dv 5) aH)))))) bz))))) (Ep 2 (aA (uh 0 T.aR T.cH (dv 1)) (aA (uh 0 T.aR T.eN wa) (aD (ba (vv T.ki (ah (dv 2) aH)))))))))))
def B8 (T:Tx K mg t) (bo:(cP P w K mg base t)) :(mn P w K mg base t):=by
 refine KC (k:=1) T.fw.u ke (CD _) fun dM A outer s H E hr=>⟨oo t.af,?_,CH t.af⟩
 have nd:=(ke).nd;exact (aA (kS (gq 0 T.aR T.bL.h bo (hm hr) T.bL.d (br (dv 1) cQ))) (aD (ba (gi (Rw 0 (by exact dw hr) T.aR T.du (jo 1))))))
def Ii (T:Tx K mg t) (KB:K.In base) (NB:base.Ns mainGlobals mg) (jL:(vi P w K mg base t)) (ko:(tU P w K mg base t)) (kq:(tX P w K mg base t)) (gJ:(rC P w K mg base t)) (qK:(tY P w K mg base t)) (gK:(mn P w K mg base t))  (jz:(rq P w K mg base t)) (jA:(rA P w K mg base t)) (ip:(tR P w K mg base t)) (gW:(pE P w K mg base t)) (jB:(vg P w K mg base t)) (iK:(tS P w K mg base t)) (iM:(rz P w K mg base t)) (iq:(pD P w K mg base t)) (jC:(rB P w K mg base t)):(xm P w K mg base t):=by
 refine KC (k:=6) T.jx.u yS (J4 _) fun dM A outer s H E hr=>⟨BJ t.af,?_,J6 t.af⟩
 have nd:=(yS).nd;have Qe:DH (mB jQ P w K mg base ["_law_house","_law_way","_law_name","_law_clock_here","_law_now","_law_e"] "_law_told" (aC ju) t.kK dM A outer s H E) t.dJ t.cX "RingError":=⟨⟨_,_,iG KB NB T.nZ T.nY,by decide⟩,zW KB T.Ae T.P7 T.P8⟩;have Kd:DH (mB jQ P w K mg base ["_law_house","_law_way","_law_name","_law_clock_here","_law_now","_law_e"] "_law_told" (aC ju) t.kK dM A outer s H E) t.cx t.cX "RingError":=⟨⟨_,_,iG KB NB T.nZ T.nY,by decide⟩,zW KB T.uy T.Ka T.Kb⟩;have MW:DH (mB jQ P w K mg base ["_law_house","_law_way","_law_name","_law_clock_here","_law_now","_law_e"] "_law_told" (aC ju) t.kK dM A outer s H E) t.cG t.cX "RingError":=⟨⟨_,_,iG KB NB T.nZ T.nY,by decide⟩,zW KB T.pC T.MU T.MV⟩;have Qg:DH (mB jQ P w K mg base ["_law_house","_law_way","_law_name","_law_clock_here","_law_now","_law_e"] "_law_told" (aC ju) t.kK dM A outer s H E) t.eG t.cX "RingError":=⟨⟨_,_,iG KB NB T.nZ T.nY,by decide⟩,zW KB T.Lr T.Qa T.Qb⟩;refine aD (O7 ?_ (O7 ?_ (O7 ?_ ?_)));exact (Fc (i:=5) rfl rfl Qe (aA (cc (cL hr.units (dv 1) aq) (aD (ba (gq 0 T.aR T.dW.h jL (hm hr) T.dW.d (br (dv 2) (br (dv 3) cQ))))) bz) (aA (cc (cL hr.units (dv 1) aq) (aD (ba (gq 0 T.aR T.di.h ko (hm hr) T.di.d (br (dv 2) cQ)))) bz) (aA (cc (cL hr.units (dv 1) aq) (aD (ba (gq 0 T.aR T.dj.h kq (hm hr) T.dj.d (br (dv 4) cQ)))) bz) (aA (cc (cL hr.units (dv 1) aq) (aD (ba (gf 0 T.aR T.cY.h gJ (hm hr) T.cY.d))) bz) (aD (ba (yu (cL hr.units (dv 1) aq) (gq 0 T.aR T.ft.h qK (hm hr) T.ft.d (br (dv 4) cQ)) (gq 0 T.aR T.fw.h gK (hm hr) T.fw.d (br (dv 2) cQ))))))))) (fun n pn xe Pk W=>(fy (cc (cL hr.units (dv 1) aq) (aD (ba (gq 0 T.aR T.dW.h jL (hm hr) T.dW.d (br (dv 2) (br (dv 3) cQ))))) bz) (fy (cc (cL hr.units (dv 1) aq) (aD (ba (gq 0 T.aR T.di.h ko (hm hr) T.di.d (br (dv 2) cQ)))) bz) (Bq (cL hr.units (dv 1) aq) (cy (pY (kT 0 W T.aR T.dj.h jz (hm hr) T.dj.d (br (dv 4) cQ)))) (fy (cc (cL hr.units (dv 1) aq) (aD (ba (gf 0 T.aR T.cY.h gJ (hm hr) T.cY.d))) bz) (cy (pY (OW (cL hr.units (dv 1) aq) (kT 0 W T.aR T.ft.h jA (hm hr) T.ft.d (br (dv 4) cQ)) OV)))))))) (wH (i:=5) T.cZ.u kg rfl hr rfl rfl T.cZ.d T.cZ.m (fun ea oe VQ s2 H2 jN=>⟨_,qD T T.P6 T.vR T.CM T.zE T.B3 T.CN (by have z:=Fd hr;exact z) jN,tq ea⟩) rfl (Or.inl rfl) rfl) nd rfl rfl rfl rfl);exact (Fc (i:=5) rfl rfl Kd xB (fun n pn xe Pk W=>(fy (cc (cL hr.units (dv 1) aq) (aD (ba (gq 0 T.aR T.dW.h jL (hm hr) T.dW.d (br (dv 2) (br (dv 3) cQ))))) bz) (Bq (cL hr.units (dv 1) aq) (cy (pY (kT 0 W T.aR T.di.h ip (hm hr) T.di.d (br (dv 2) cQ)))) (fy (cc (cL hr.units (dv 1) aq) (aD (ba (gq 0 T.aR T.dj.h kq (hm hr) T.dj.d (br (dv 4) cQ)))) bz) (fy (cc (cL hr.units (dv 1) aq) (aD (ba (gf 0 T.aR T.cY.h gJ (hm hr) T.cY.d))) bz) (cy (pY (OW (cL hr.units (dv 1) aq) OV (kT 0 W T.aR T.fw.h gW (hm hr) T.fw.d (br (dv 2) cQ)))))))))) (wH (i:=5) T.cZ.u kg rfl hr rfl rfl T.cZ.d T.cZ.m (fun ea oe VQ s2 H2 jN=>⟨_,qD T T.J9 T.tP T.zF T.xh T.ye T.zG (by have z:=Fd hr;exact z) jN,qm ea⟩) rfl (Or.inl rfl) rfl) nd rfl rfl rfl rfl);exact (Fc (i:=5) rfl rfl MW xB (fun n pn xe Pk W=>(Bq (cL hr.units (dv 1) aq) (cy (pY (kT 0 W T.aR T.dW.h jB (hm hr) T.dW.d (br (dv 2) (br (dv 3) cQ))))) (Bq (cL hr.units (dv 1) aq) (cy (pY (kT 0 W T.aR T.di.h iK (hm hr) T.di.d (br (dv 2) cQ)))) (Bq (cL hr.units (dv 1) aq) (cy (pY (kT 0 W T.aR T.dj.h iM (hm hr) T.dj.d (br (dv 4) cQ)))) (cy (Hl (cL hr.units (dv 1) aq) (cy (pY (sv 0 W T.aR T.cY.h iq (hm hr) T.cY.d))) Bo)))))) (wH (i:=5) T.cZ.u kg rfl hr rfl rfl T.cZ.d T.cZ.m (fun ea oe VQ s2 H2 jN=>⟨_,qD T T.MS T.uN T.B4 T.yg T.zH T.B5 (by have z:=Fd hr;exact z) jN,rR ea⟩) rfl (Or.inl rfl) rfl) nd rfl rfl rfl rfl);exact (Fc (i:=5) rfl rfl Qg xB (fun n pn xe Pk W=>(fy (cc (cL hr.units (dv 1) aq) (aD (ba (gq 0 T.aR T.dW.h jL (hm hr) T.dW.d (br (dv 2) (br (dv 3) cQ))))) bz) (fy (cc (cL hr.units (dv 1) aq) (aD (ba (gq 0 T.aR T.di.h ko (hm hr) T.di.d (br (dv 2) cQ)))) bz) (fy (cc (cL hr.units (dv 1) aq) (aD (ba (gq 0 T.aR T.dj.h kq (hm hr) T.dj.d (br (dv 4) cQ)))) bz) (fy (cc (cL hr.units (dv 1) aq) (aD (ba (gf 0 T.aR T.cY.h gJ (hm hr) T.cY.d))) bz) (cy (pY (OW (cL hr.units (dv 1) aq) (kT 0 W T.aR T.ft.h jC (hm hr) T.ft.d (br (dv 4) cQ)) OV)))))))) (wH (i:=5) T.cZ.u kg rfl hr rfl rfl T.cZ.d T.cZ.m (fun ea oe VQ s2 H2 jN=>⟨_,qD T T.P9 T.vS T.CO T.zI T.B6 T.CP (by have z:=Fd hr;exact z) jN,tu ea⟩) rfl (Or.inl rfl) rfl) nd rfl rfl rfl rfl)
def FV (T:Tx K mg t)  :(oJ P w K mg base t):=by
 refine zP (k:=0) T.ij.u w8 HV fun dM A outer s H E hr=>⟨yM,?_,HW⟩
 have nd:=(w8).nd;exact (ud (cc (cL hr.units (bb (dv 0) aq) fH) (aD (bR 3 nd (yu (AI (bb (dv 0) aq) eK) (jR aH) (jR (ah (bA (bb (dv 0) aq) (bb (dv 0) aq)) aH))))) (aD (cc (cL hr.units (bb (dv 0) aq) fH) (aA (bR 4 nd (yu (AI (bb (dv 0) aq) eK) (bA (iV (bA (dv 2) aq) (bb (dv 0) aq)) aq) (bb (dv 0) aq))) (aD (m5 ["_law_clock_here","_law_start","_law_end","_law_some","_law_many","_law_k"] 1 3 rfl (oV T.nX (ah (IS rfl T.D5 (ah (dv 4) (ah (bA (iV (bA (dv 2) aq) (bb (dv 0) aq)) aq) aH))) aH)) (fun cl C ex s H=>⟨(fM 5 (DK ["_law_clock_here","_law_start","_law_end","_law_some","_law_many","_law_k"])),pR,(bA (bb (dv 0) aq) (gN (bb (dv 0) aq) (dv 5)))⟩) (by show fg ["_law_clock_here","_law_start","_law_end","_law_some","_law_many"] (aC h9) ["_law_clock_here","_law_start","_law_end","_law_some","_law_many","_law_k"] _ 1=true;decide +kernel) (by intro _;rfl) nd rfl (by first | exact Or.inl rfl | exact Or.inr rfl) rfl (by first | exact .inl rfl | exact .inr rfl | assumption)))) (aA (m5 ["_law_clock_here","_law_start","_law_end","_law_some","_law_many","_law_day"] 1 3 rfl (oV T.nX (ah (bA (iV (dv 2) aq) aq) aH)) (fun cl C ex s H=>⟨(fM 5 (DK ["_law_clock_here","_law_start","_law_end","_law_some","_law_many","_law_day"])),(jT (Ez (by exact hr.units) (lQ (dv 5) aq) (bb (dv 0) aq))),(bA (gN (dv 5) aq) (bb (dv 0) aq))⟩) (by show fg ["_law_clock_here","_law_start","_law_end","_law_some","_law_many"] (aC h9) ["_law_clock_here","_law_start","_law_end","_law_some","_law_many","_law_day"] _ 1=true;decide +kernel) (by intro _;rfl) nd rfl (by first | exact Or.inl rfl | exact Or.inr rfl) rfl (by first | exact .inl rfl | exact .inr rfl | assumption)) (aD (m5 ["_law_clock_here","_law_start","_law_end","_law_some","_law_many","_law_moment"] 1 3 rfl (iX (dv 3)) (fun cl C ex s H=>⟨(fM 5 (DK ["_law_clock_here","_law_start","_law_end","_law_some","_law_many","_law_moment"])),(jT (Dh (by exact hr.units) (dv 5) (bb (dv 0) aq))),(dv 5)⟩) (by show fg ["_law_clock_here","_law_start","_law_end","_law_some","_law_many"] (aC h9) ["_law_clock_here","_law_start","_law_end","_law_some","_law_many","_law_moment"] _ 1=true;decide +kernel) (by intro _;rfl) nd rfl (by first | exact Or.inl rfl | exact Or.inr rfl) rfl (by first | exact .inl rfl | exact .inr rfl | assumption))))))) (aD (ba (jW ["_law_clock_here","_law_start","_law_end","_law_some","_law_many","_law_moment"] 1 rfl (iX (dv 3)) (fun cl C ex s H=>⟨(fM 5 (DK ["_law_clock_here","_law_start","_law_end","_law_some","_law_many","_law_moment"])),(jT (N4 SU SV (dv 1) (dv 5) (dv 2))),(dv 5)⟩) (by show fg ["_law_clock_here","_law_start","_law_end","_law_some","_law_many"] (aC h9) ["_law_clock_here","_law_start","_law_end","_law_some","_law_many","_law_moment"] _ 1=true;decide +kernel) (by intro _;rfl)))))
def Ke (T:Tx K mg t) (jM:(oJ P w K mg base t)) :(zf P w K mg base t):=by
 refine KC (k:=1) T.ux.u BR MM fun dM A outer s H E hr=>⟨fB,?_,MN⟩
 have nd:=(BR).nd;exact (aA (cc (uB (lN (cL hr.units (dv 1) aq) (iU (AI (gi (pX 0 (by exact dw hr))) eK)))) (aD (ba (gp (ah fH (ah aq aH))))) bz) (aA (cc (uB (lN (Gu (dv 1) aq) (iU (kZ (gi (pX 0 (by exact dw hr))) eK)))) (aD (ba (gp (ah fH (ah aq aH))))) bz) (aA (cc (uB (lN (Ez hr.units (dv 1) (gp (ah aq (ah aq aH)))) (iU (Gu (dv 4) (gi (pX 0 (by exact dw hr))))))) (aD (ba (gp (ah fH (ah aq aH))))) bz) (aA (cc (uB (lN (cL hr.units (dv 1) aq) (iU (OQ 0 (by exact dw hr) (jo 2))))) (aD (ba (gp (ah fH (ah aq aH))))) bz) (aA (bR 5 nd eK) (ud (cc (cL hr.units (dv 1) aq) (aD (OO 0 (by exact dw hr) (jo 3) (jo 2))) (aD (cc (cL hr.units (dv 1) aq) (aD (OP 0 (by exact dw hr) (jo 2))) (aD (cc (cL hr.units (dv 1) aq) (aD (E8 0 (by exact dw hr) (gi (pX 0 (by exact dw hr))))) (aA (Eo 5 nd aH) (aA (AF cB rfl (iX (Hh 0 rfl (by exact dw hr) T.ki)) (fM 6 nd) (aA (bR 7 nd (bu jM (hm hr) T.ij.m T.ij.u.kp T.ij.d (ah (gi (wF 0 (by exact dw hr) (jo 6))) (ah (gi (pX 0 (by exact dw hr))) (ah (dv 4) aH))))) (aD (cc (cL hr.units (dv 1) aq) (aD (O9 5 nd (jW ["_law_mine","_law_way","_law_name","_law_clock_here","_law_now","_law_found","_law_one","_law_some","_law_moment"] 1 rfl (iX (dv 7)) (fun cl C ex s H=>⟨(fM 8 (DK ["_law_mine","_law_way","_law_name","_law_clock_here","_law_now","_law_found","_law_one","_law_some","_law_moment"])),pR,(gp (ah (dv 8) (ah (dv 6) aH)))⟩) (by show fg ["_law_mine","_law_way","_law_name","_law_clock_here","_law_now","_law_found","_law_one","_law_some"] (aC uw) ["_law_mine","_law_way","_law_name","_law_clock_here","_law_now","_law_found","_law_one","_law_some","_law_moment"] _ 1=true;decide +kernel) (by intro _;rfl)) rfl (by first | exact Or.inl rfl | exact Or.inr rfl) (by first | exact Or.inl rfl | exact Or.inr (Or.inl rfl) | exact Or.inr (Or.inr rfl)) (by decide) (by decide) rfl (by first | exact .inl rfl | exact .inr rfl | assumption))) (aD (cc (uS hr.units (dv 7) (jR aH)) (aD (xD 5 (gp (ah (dv 6) (ah (bb (dv 7) (IT aq)) (ah (pQ T.B2 (ah (dv 7) aH)) aH)))))) bz)))))) (aA (La 5 (Mz 5 nd T.ki (ah (dv 5) aH))) (aA (E8 0 (by exact dw hr) (dv 4)) (aD (E8 0 (by exact dw hr) eK))))))))))) (aD (La 5 (ba (dv 5))))))))))
def zK (T:Tx K mg t)  :(pF P w K mg base t):=by
 refine KC (k:=0) T.nz.u qS (BE _) fun dM A outer s H E hr=>⟨nj t.af,?_,BF t.af⟩
 have nd:=(qS).nd;exact (aD (ba (gi (kF 0 T.aR T.cH))))
def B9 (T:Tx K mg t)  :(rD P w K mg base t):=by
 refine KC (k:=0) T.oF.u tK (CG _) fun dM A outer s H E hr=>⟨ou t.af,?_,CJ t.af⟩
 have nd:=(tK).nd;exact (aD (ba (OI 0 rfl T.ki T.aR T.du)))
def xo (T:Tx K mg t) (jK:(oI P w K mg base t)) :(nE P w K mg base t):=by
 refine KC (k:=4) T.kL.u nV (x6 _) fun dM A outer s H E hr=>⟨kI t.af,?_,yb t.af⟩
 have nd:=(nV).nd;exact (aA (Ot 0 (Md ["self","rows","dues","first","name","clock"] 2 1 rfl (A6 0 T.aR T.du) (fun cl C ex s H=>⟨(ug 4 5 rfl (DK ["self","rows","dues","first","name","clock"])),pR,(gp (ah (bu (by exact jK) (by exact hm hr) (by exact T.ic.m) (by exact T.ic.u.kp) (by exact T.ic.d) (ah (dv 5) (ah (gi (kF 0 (by exact T.aR) (by exact T.cH))) aH))) (ah (dv 4) aH)))⟩) (by show fg ["self","rows","dues","first"] (aC eC) ["self","rows","dues","first","name","clock"] _ 2=true;decide +kernel) (by intro _;rfl) nd rfl (by first | exact Or.inl rfl | exact Or.inr rfl) rfl (by first | exact .inl rfl | exact .inr rfl | assumption))) (aA (m5 ["self","rows","dues","first","row"] 1 2 rfl (iX (dv 1)) (fun cl C ex s H=>⟨(fM 4 (DK ["self","rows","dues","first","row"])),(jT (kZ (bb (dv 4) aq) eK)),(dv 4)⟩) (by show fg ["self","rows","dues","first"] (aC eC) ["self","rows","dues","first","row"] _ 1=true;decide +kernel) (by intro _;rfl) nd rfl (by first | exact Or.inl rfl | exact Or.inr rfl) rfl (by first | exact .inl rfl | exact .inr rfl | assumption)) (aA (cc (AD (iW (dv 2))) (aD (ba eK)) bz) (aA (bR 3 nd (RK rfl T.D5 (ah (jW ["self","rows","dues","first","moment","name"] 2 rfl (iX (dv 2)) (fun cl C ex s H=>⟨(ug 4 5 rfl (DK ["self","rows","dues","first","moment","name"])),pR,(dv 4)⟩) (by show fg ["self","rows","dues","first"] (aC eC) ["self","rows","dues","first","moment","name"] _ 2=true;decide +kernel) (by intro _;rfl)) aH)) rfl (by first | exact Or.inl rfl | exact Or.inr rfl) rfl (by first | exact .inl rfl | exact .inr rfl | assumption)) (aD (ba (gp (ah (dv 3) (ah (G8 T.ki (ah (jW ["self","rows","dues","first","moment","name"] 2 rfl (iX (dv 2)) (fun cl C ex s H=>⟨(ug 4 5 rfl (DK ["self","rows","dues","first","moment","name"])),(jT (cL (by exact hr.units) (dv 4) (dv 3))),(dv 5)⟩) (by show fg ["self","rows","dues","first"] (aC eC) ["self","rows","dues","first","moment","name"] _ 2=true;decide +kernel) (by intro _;rfl)) aH)) aH)))))))))
def VR (T:Tx K mg t) (cA:(oG P w K mg base t)) (qL:(tT P w K mg base t)) (t6:(vh P w K mg base t)) (qM:(xm P w K mg base t)) (yo:(zf P w K mg base t)) (nF:(pF P w K mg base t)) (oK:(rD P w K mg base t)) (gK:(mn P w K mg base t)) (jM:(oJ P w K mg base t)) (kP:(nE P w K mg base t)) :(Ls P w K mg base t):=by
 refine zP (k:=7) T.P4.u P1 YC fun dM A outer s H E hr=>⟨PL t.af,?_,YU t.af⟩
 have nd:=(P1).nd;exact (aA (bR 1 nd (bu cA (hm hr) T.aQ.m T.aQ.u.kp T.aQ.d (ah (dv 0) (ah aq (ah aq aH))))) (aA (Ro 2 nd T.SI qL (hm hr) T.SJ T.xg.d (ah (dv 1) aH)) (aA (Vm 3 nd (Ti (jo 1) (Ti UR (Yq Vl))) rfl rfl (List.cons_ne_nil _ _) (by decide)) (aA (AF cB rfl (oV T.nX (ah (xE rfl T.D4 (ah aq (ah (IS rfl T.D5 (ah aq (ah (pQ T.B2 (ah (dv 0) aH)) aH))) aH))) aH)) (fM 4 nd) (aA (bR 5 nd (bb (jR (by refine eZ ?_ ?_;exact aq;refine eZ ?_ ?_;exact aq;refine eZ ?_ ?_;exact aq;refine eZ ?_ ?_;exact aq;refine eZ ?_ ?_;exact aq;refine eZ ?_ ?_;exact aq;refine eZ ?_ ?_;exact aq;refine eZ ?_ ?_;exact aq;refine eZ ?_ ?_;exact aq;refine eZ ?_ ?_;exact aq;exact aH)) (bu cA (hm hr) T.aQ.m T.aQ.u.kp T.aQ.d (ah (dv 0) (ah (bA aq (gN aq (dv 4))) (ah aq aH)))))) (aA (bR 6 nd (Ri (bu cA (hm hr) T.aQ.m T.aQ.u.kp T.aQ.d (ah (dv 0) (ah (bA aq (gN aq (dv 4))) (ah aq aH)))))) (aA (bR 7 nd (bu t6 (hm hr) T.nW.m T.nW.u.kp T.nW.d (ah (dv 0) (ah (bA aq (gN aq (dv 4))) aH)))) (ud (cc (uB (lN (cL hr.units (bb (dv 7) aq) fH) (iU (AI (bb (dv 7) aq) eK)))) (aD (bR 7 nd (bA (xH (dv 7) Et (Eu aq)) (gp (ah aq aH))))) bz) (aA (bR 8 nd (xE rfl T.D4 (ah aq (ah (bA (gi (pX 3 (by exact dw hr))) (bb (jR (by refine eZ ?_ ?_;exact aq;refine eZ ?_ ?_;exact aq;refine eZ ?_ ?_;exact aq;refine eZ ?_ ?_;exact aq;refine eZ ?_ ?_;exact aq;refine eZ ?_ ?_;exact (IT aq);exact aH)) (bu cA (hm hr) T.aQ.m T.aQ.u.kp T.aQ.d (ah (dv 0) (ah (bA aq (gN aq (dv 4))) (ah aq aH)))))) aH)))) (aA (cc (uS hr.units (AZ qM (hm hr) T.jx.m T.jx.u.kp T.jx.d (Ji 2 (br (dv 5) (br (dv 6) (br (dv 7) (br (dv 8) cQ)))))) (AZ yo (hm hr) T.ux.m T.ux.u.kp T.ux.d (Ji 3 (br (dv 5) (br (dv 6) (br (dv 7) (br (dv 8) cQ))))))) (aD (ba wa)) bz) (aA (bR 9 nd (Hh 3 rfl (by exact dw hr) T.ki)) (aA (cc (uB (Kq (uS hr.units (gf 2 T.aR T.nz.h nF (hm hr) T.nz.d) (gi (pX 3 (by exact dw hr)))) (El (uS hr.units (gf 2 T.aR T.oF.h oK (hm hr) T.oF.d) (dv 9))))) (aD (ba wa)) bz) (aA (bR 10 nd (jR aH)) (aA (cc (uS hr.units (Mc ["_law_script","_law_start","_law_house","_law_mine","_law_k","_law_way","_law_name","_law_clock_here","_law_now","_law_names","_law_rows","!_law_one","_law_far","_law_some","_law_due_here","_law_one"] 1 rfl Oa (fun cl C ex s H=>⟨(fM 15 (DK ["_law_script","_law_start","_law_house","_law_mine","_law_k","_law_way","_law_name","_law_clock_here","_law_now","_law_names","_law_rows","!_law_one","_law_far","_law_some","_law_due_here","_law_one"])),(jT (uB (lN (Dh (by exact hr.units) (dv 15) (dv 9)) (iU (uS (by exact hr.units) (AZ (by exact qM) (by exact hm hr) (by exact T.jx.m) (by exact T.jx.u.kp) (by exact T.jx.d) (Ji 2 (br aq (br (dv 15) (br eK (br aq cQ)))))) (gp (ah fH (ah aq aH)))))))),(dv 15)⟩) (by show fg ["_law_script","_law_start","_law_house","_law_mine","_law_k","_law_way","_law_name","_law_clock_here","_law_now","_law_names","_law_rows","_law_one","_law_far","_law_some","_law_due_here"] (aC DY) ["_law_script","_law_start","_law_house","_law_mine","_law_k","_law_way","_law_name","_law_clock_here","_law_now","_law_names","_law_rows","!_law_one","_law_far","_law_some","_law_due_here","_law_one"] _ 1=true;decide +kernel) (by intro _;rfl)) (jR aH)) (aD (ba wa)) bz) (aA (AF cB rfl (iX (dv 9)) (fM 11 nd) (aA (cc (uS hr.units (gq 2 T.aR T.fw.h gK (hm hr) T.fw.d (br (dv 11) cQ)) (gi (wF 3 (by exact dw hr) (jo 11)))) (aD (ba wa)) bz) (aA (bR 12 nd (yu (cL hr.units (bb (gi (wF 3 (by exact dw hr) (jo 11))) aq) fH) aq aq)) (aA (bR 13 nd (bu jM (hm hr) T.ij.m T.ij.u.kp T.ij.d (ah (gi (wF 3 (by exact dw hr) (jo 11))) (ah (gi (pX 3 (by exact dw hr))) (ah (bA (gi (pX 3 (by exact dw hr))) (dv 12)) aH))))) (aD (bR 10 nd (bA (dv 10) (jW ["_law_script","_law_start","_law_house","_law_mine","_law_k","_law_way","_law_name","_law_clock_here","_law_now","_law_names","_law_rows","_law_one","_law_far","_law_some","_law_due_here","_law_moment"] 1 rfl (iX (xH (dv 13) Et (Eu aq))) (fun cl C ex s H=>⟨(fM 15 (DK ["_law_script","_law_start","_law_house","_law_mine","_law_k","_law_way","_law_name","_law_clock_here","_law_now","_law_names","_law_rows","_law_one","_law_far","_law_some","_law_due_here","_law_moment"])),pR,(gp (ah (dv 15) (ah (dv 11) aH)))⟩) (by show fg ["_law_script","_law_start","_law_house","_law_mine","_law_k","_law_way","_law_name","_law_clock_here","_law_now","_law_names","_law_rows","_law_one","_law_far","_law_some","_law_due_here"] (aC DY) ["_law_script","_law_start","_law_house","_law_mine","_law_k","_law_way","_law_name","_law_clock_here","_law_now","_law_names","_law_rows","_law_one","_law_far","_law_some","_law_due_here","_law_moment"] _ 1=true;decide +kernel) (by intro _;rfl))) rfl (by first | exact Or.inl rfl | exact Or.inr rfl) rfl (by first | exact .inl rfl | exact .inr rfl | assumption))))))) (aA (bR 14 nd eK) (ud (cc (uS hr.units (dv 10) (jR aH)) (aD (bR 14 nd (gp (ah (bb (K8 rfl hr.units T.D5 (ah (dv 10) aH)) aq) (ah (jW ["_law_script","_law_start","_law_house","_law_mine","_law_k","_law_way","_law_name","_law_clock_here","_law_now","_law_names","_law_rows","!_law_one","_law_far","_law_some","_law_due_here","_law_moment","_law_one"] 2 rfl (iX (vv T.ki (ah (dv 10) aH))) (fun cl C ex s H=>⟨(ug 15 16 rfl (DK ["_law_script","_law_start","_law_house","_law_mine","_law_k","_law_way","_law_name","_law_clock_here","_law_now","_law_names","_law_rows","!_law_one","_law_far","_law_some","_law_due_here","_law_moment","_law_one"])),(jT (cL (by exact hr.units) (dv 15) (bb (K8 rfl (by exact hr.units) (by exact T.D5) (ah (dv 10) aH)) aq))),(dv 16)⟩) (by show fg ["_law_script","_law_start","_law_house","_law_mine","_law_k","_law_way","_law_name","_law_clock_here","_law_now","_law_names","_law_rows","_law_one","_law_far","_law_some","_law_due_here"] (aC DY) ["_law_script","_law_start","_law_house","_law_mine","_law_k","_law_way","_law_name","_law_clock_here","_law_now","_law_names","_law_rows","!_law_one","_law_far","_law_some","_law_due_here","_law_moment","_law_one"] _ 2=true;decide +kernel) (by intro _;rfl)) aH))) rfl (by first | exact Or.inl rfl | exact Or.inr rfl) rfl (by first | exact .inl rfl | exact .inr rfl | assumption))) bz) (aD (cc (uS hr.units (gf 2 T.aR T.kL.h kP (hm hr) T.kL.d) (dv 14)) (aD (ba wa)) bz)))))))))))))))) (aD (ba wa))))))
def VS (T:Tx K mg t) (KB:K.In base) (NB:base.Ns mainGlobals mg):(Ls P w K mg base t):=by
 have vT:=Ib (P:=P) (w:=w) (base:=base) T;have cA:=FL T vT;have qL:=CQ (P:=P) (w:=w) (base:=base) T;have t6:=FN T cA;have aG:=qG (P:=P) (w:=w) (base:=base) T;have aT:=lK (P:=P) (w:=w) (base:=base) T KB NB;have jL:=FO T aG;have jB:=uO T KB NB aG aT;have bo:=pG (P:=P) (w:=w) (base:=base) T;have bS:=kA (P:=P) (w:=w) (base:=base) T KB NB;have ko:=CS T aG bo;have ip:=rT T KB NB aG bo bS;have iK:=tZ T KB NB aG bo aT;have bZ:=zJ (P:=P) (w:=w) (base:=base) T;have dF:=rV (P:=P) (w:=w) (base:=base) T KB NB;have mq:=yh (P:=P) (w:=w) (base:=base) T;have fJ:=yi (P:=P) (w:=w) (base:=base) T;have mr:=yj T fJ;have fQ:=FP (P:=P) (w:=w) (base:=base) T;have qH:=Ie T fQ;have gx:=CT (P:=P) (w:=w) (base:=base) T;have jJ:=FQ T gx;have fK:=yk T qH jJ;have jK:=FR T mq mr fK;have qI:=Ig T fQ;have mx:=ym T qI jJ;have qJ:=CU (P:=P) (w:=w) (base:=base) T;have mv:=yn T fQ gx qJ;have kN:=Kc T fJ mv;have fx:=FU T mx kN
 have kO:=xn T fK;have qE:=Qc T jK fx kO;have kq:=CV T aG bZ qE;have jz:=uP T KB NB aG bZ qE dF;have iM:=t5 T KB NB aG bZ qE aT;have gJ:=B7 T aG;have iq:=rW T KB NB aG aT;have jy:=Ih T kN
 have qK:=CW T bZ jy fx;have jA:=uQ T KB NB bZ jy fx dF;have jC:=uR T KB NB bZ jy fx;have gK:=B8 T bo;have gW:=qF T KB NB bo bS;have qM:=Ii T KB NB jL ko kq gJ qK gK jz jA ip gW jB iK iM iq jC;have jM:=FV (P:=P) (w:=w) (base:=base) T;have yo:=Ke T jM;have nF:=zK (P:=P) (w:=w) (base:=base) T;have oK:=B9 (P:=P) (w:=w) (base:=base) T;have kP:=xo T jK;exact VR T cA qL t6 qM yo nF oK gK jM kP
end
def VT {l:OpenLaw}{w:World}{K:Frag}{h:Heap}{mg:Str->Option Value}{fa:Addr} (X:K.In h) (G:h.Ns mainGlobals mg) (hfa:mg "law"=some (.ref fa)) {C0:Addr}{f0 f1 f2 f3 f4 f5 f6 f7 f8 f9 f10 f11 f12 f13 f14 f15 f16 f17 f18 f19 f20 f21 f22 f23 f24 f25 Zm Zn f28 Zo Zp f31 f32 f33 Zq Zr Zs f37 Zt ir eO fR iu fD:Addr}{g0 g1 g2 g3 g4 g5 g6 g7 g8 g9 g10 g11 g12 g13 g14 g15 g16 g17 g18 g19 g20 g21 g22 g23 g24 g25 g26 g27 g28 g29 g30 g31 g32 g33 g34 g35 g36 g37 g38:FuncData}{tk0 tk1:Tok}
  (aC0:nsIn K mainGlobals "House"=some (some (.ref C0))) (pg0:plainGet K C0 Str.empty=true) (hd0:hasDictIn K C0=true) (po0:plainOver K C0=true) (sa0:findIn K (.ref C0) "__setattr__"=some (some (.builtin "object.__setattr__"))) (mk0:makesIn K C0=true) (kc0:keepIn K (.ref C0)=true) (VU:findIn K (.ref C0) "asleep"=some none) (VW:findIn K (.ref C0) "clocks"=some none) (VX:findIn K (.ref C0) "reached"=some none) (a0:nsIn K mainGlobals "_law_cell"=some (some (.ref f0))) (F0:kY K "_law_cell" "_law_cell" vO f0 g0) (a1:nsIn K mainGlobals "_law_drawn"=some (some (.ref f1))) (F1:kY K "_law_drawn" "_law_drawn" tE f1 g1) (a2:findIn K (.ref C0) "__init__"=some (some (.ref f2))) (i2:isFn K (.ref f2)=true) (F2:kY K "__init__" "House.__init__" qp f2 g2) (a3:nsIn K mainGlobals "_law_clock"=some (some (.ref f3))) (F3:kY K "_law_clock" "_law_clock" lJ f3 g3) (a4:findIn K (.ref C0) "refuse_asleep"=some (some (.ref f4))) (i4:isFn K (.ref f4)=true) (F4:kY K "refuse_asleep" "House.refuse_asleep" gR f4 g4) (a5:findIn K (.ref C0) "put"=some (some (.ref f5))) (i5:isFn K (.ref f5)=true) (F5:kY K "put" "House.put" tF f5 g5) (a6:findIn K (.ref C0) "refuse_unknown"=some (some (.ref f6))) (i6:isFn K (.ref f6)=true) (F6:kY K "refuse_unknown" "House.refuse_unknown" gs f6 g6) (a7:findIn K (.ref C0) "drop"=some (some (.ref f7))) (i7:isFn K (.ref f7)=true) (F7:kY K "drop" "House.drop" qr f7 g7) (a8:nsIn K mainGlobals "refuse_early"=some (some (.ref f8))) (F8:kY K "refuse_early" "refuse_early" nt f8 g8) (a9:nsIn K mainGlobals "next_of_timer"=some (some (.ref f9))) (F9:kY K "next_of_timer" "next_of_timer" md f9 g9) (a10:nsIn K mainGlobals "rung_of_every"=some (some (.ref f10))) (F10:kY K "rung_of_every" "rung_of_every" me f10 g10) (a11:nsIn K mainGlobals "next_of_every"=some (some (.ref f11))) (F11:kY K "next_of_every" "next_of_every" mh f11 g11) (a12:nsIn K mainGlobals "days_gone"=some (some (.ref f12))) (F12:kY K "days_gone" "days_gone" tG f12 g12) (a13:nsIn K mainGlobals "next_set"=some (some (.ref f13))) (F13:kY K "next_set" "next_set" qt f13 g13) (a14:nsIn K mainGlobals "many_up_to"=some (some (.ref f14))) (F14:kY K "many_up_to" "many_up_to" qu f14 g14) (a15:nsIn K mainGlobals "stands_in"=some (some (.ref f15))) (F15:kY K "stands_in" "stands_in" tH f15 g15) (a16:nsIn K mainGlobals "next_of_alarm"=some (some (.ref f16))) (F16:kY K "next_of_alarm" "next_of_alarm" mj f16 g16) (a17:nsIn K mainGlobals "next_ring"=some (some (.ref f17))) (F17:kY K "next_ring" "next_ring" tI f17 g17) (a18:nsIn K mainGlobals "last_set"=some (some (.ref f18))) (F18:kY K "last_set" "last_set" qv f18 g18) (a19:nsIn K mainGlobals "last_of_alarm"=some (some (.ref f19))) (F19:kY K "last_of_alarm" "last_of_alarm" ml f19 g19) (a20:nsIn K mainGlobals "is_set_for"=some (some (.ref f20))) (F20:kY K "is_set_for" "is_set_for" qx f20 g20) (a21:nsIn K mainGlobals "rung_of_alarm"=some (some (.ref f21))) (F21:kY K "rung_of_alarm" "rung_of_alarm" je f21 g21) (a22:nsIn K mainGlobals "rung_by"=some (some (.ref f22))) (F22:kY K "rung_by" "rung_by" yd f22 g22) (a23:nsIn K mainGlobals "last_ring"=some (some (.ref f23))) (F23:kY K "last_ring" "last_ring" tJ f23 g23) (a24:nsIn K mainGlobals "rings_of_alarm"=some (some (.ref f24))) (F24:kY K "rings_of_alarm" "rings_of_alarm" kJ f24 g24) (a25:nsIn K mainGlobals "rings"=some (some (.ref f25))) (F25:kY K "rings" "rings" FI f25 g25) (a26:findIn K (.ref C0) "tick"=some (some (.ref Zm))) (i26:isFn K (.ref Zm)=true) (F26:kY K "tick" "House.tick" mG Zm g26) (a27:findIn K (.ref C0) "sleep"=some (some (.ref Zn))) (i27:isFn K (.ref Zn)=true) (F27:kY K "sleep" "House.sleep" ox Zn g27) (a28:nsIn K mainGlobals "how_many"=some (some (.ref f28))) (F28:kY K "how_many" "how_many" vP f28 g28) (a29:findIn K (.ref C0) "wake"=some (some (.ref Zo))) (i29:isFn K (.ref Zo)=true) (F29:kY K "wake" "House.wake" qy Zo g29) (a30:findIn K (.ref C0) "clock"=some (some (.ref Zp))) (i30:isFn K (.ref Zp)=true) (F30:kY K "clock" "House.clock" oy Zp g30) (a31:nsIn K mainGlobals "_law_told"=some (some (.ref f31))) (F31:kY K "_law_told" "_law_told" ju f31 g31) (a32:nsIn K mainGlobals "_law_rings"=some (some (.ref f32))) (F32:kY K "_law_rings" "_law_rings" h9 f32 g32) (a33:nsIn K mainGlobals "_law_due"=some (some (.ref f33))) (F33:kY K "_law_due" "_law_due" uw f33 g33) (a34:findIn K (.ref C0) "moment"=some (some (.ref Zq))) (i34:isFn K (.ref Zq)=true) (F34:kY K "moment" "House.moment" nu Zq g34) (a35:findIn K (.ref C0) "names"=some (some (.ref Zr))) (i35:isFn K (.ref Zr)=true) (F35:kY K "names" "House.names" oz Zr g35) (a36:findIn K (.ref C0) "next_due"=some (some (.ref Zs))) (i36:isFn K (.ref Zs)=true) (F36:kY K "next_due" "House.next_due" eC Zs g36) (a37:nsIn K mainGlobals "_law_refused"=some (some (.ref f37))) (F37:kY K "_law_refused" "_law_refused" iQ f37 g37) (a38:nsIn K mainGlobals "law"=some (some (.ref Zt))) (F38:kY K "law" "law" DY Zt g38) (Af:nsIn K mainGlobals "Early"=some (some (.ref ir))) (uz:nsIn K mainGlobals "NoClock"=some (some (.ref eO))) (xp:nsIn K mainGlobals "Asleep"=some (some (.ref fR))) (Ag:nsIn K mainGlobals "Awake"=some (some (.ref iu))) (og:nsIn K mainGlobals "RingError"=some (some (.ref fD))) (xr:P0 K fD) (Zu:P0 K ir) (VY:findIn K (.ref ir) "__getattribute__"=some (some (.builtin "BaseException.__getattribute__"))) (VZ:findIn K (.ref ir) "__getattr__"=some none) (V0:findIn K (.ref ir) "__class__"=some (some (.builtin "object.__class__"))) (V1:kitOne K (.ref ir) (.type "ValueError")=some true) (V2:kx K ir ir true) (V3:kx K ir eO false) (V4:kx K ir fR false) (V5:kx K ir iu false) (V6:mroIn K ir (.ref fD)=some true) (V7:ir≠fD) (Zv:P0 K eO) (V8:findIn K (.ref eO) "__getattribute__"=some (some (.builtin "BaseException.__getattribute__"))) (V9:findIn K (.ref eO) "__getattr__"=some none) (Wa:findIn K (.ref eO) "__class__"=some (some (.builtin "object.__class__"))) (Wb:kitOne K (.ref eO) (.type "ValueError")=some true) (Wc:kx K eO ir false) (Wd:kx K eO eO true) (We:kx K eO fR false) (Wf:kx K eO iu false) (Wg:mroIn K eO (.ref fD)=some true) (Wh:eO≠fD) (Zw:P0 K fR) (Wi:findIn K (.ref fR) "__getattribute__"=some (some (.builtin "BaseException.__getattribute__"))) (Wj:findIn K (.ref fR) "__getattr__"=some none) (Wl:findIn K (.ref fR) "__class__"=some (some (.builtin "object.__class__"))) (Wm:kitOne K (.ref fR) (.type "ValueError")=some true) (Wn:kx K fR ir false) (Wo:kx K fR eO false) (Wq:kx K fR fR true) (Wr:kx K fR iu false) (Ws:mroIn K fR (.ref fD)=some true) (Wt:fR≠fD) (Zx:P0 K iu) (Wu:findIn K (.ref iu) "__getattribute__"=some (some (.builtin "BaseException.__getattribute__"))) (Wv:findIn K (.ref iu) "__getattr__"=some none) (Ww:findIn K (.ref iu) "__class__"=some (some (.builtin "object.__class__"))) (Wx:kitOne K (.ref iu) (.type "ValueError")=some true) (Wy:kx K iu ir false) (Wz:kx K iu eO false) (WA:kx K iu fR false) (WB:kx K iu iu true) (WC:mroIn K iu (.ref fD)=some true) (WD:iu≠fD) (z0:nsIn K mainGlobals "ValueError"=some none) (z1:nsIn K mainGlobals "isinstance"=some none) (z2:nsIn K mainGlobals "len"=some none) (z3:nsIn K mainGlobals "list"=some none) (z4:nsIn K mainGlobals "max"=some none) (z5:nsIn K mainGlobals "min"=some none) (z6:nsIn K mainGlobals "range"=some none) (z7:nsIn K mainGlobals "set"=some none) (z8:nsIn K mainGlobals "sorted"=some none) (z9:nsIn K mainGlobals "tuple"=some none) (y0:nsIn K mainGlobals "DAY"=some (some (.int 1440 tk0))) (y1:nsIn K mainGlobals "WEEK"=some (some (.int 7 tk1))) :
  ∃fd:FuncData,(∀(s:Shared) (v:Value),BindsTo s fd ⟨[v],[]⟩ [("_law_script",v)])/\∀base:Heap,K.In base->base.Ns mainGlobals mg->cM l.prog w K mg base jQ 8 fa fd ["_law_script"] (jO K DL):=by
 obtain ⟨t,T,e1,e2⟩:∃t:Ad,Tx K mg t/\t.P2=Zt/\t.Lp=g38:=by
  exact ⟨⟨f0,g0,f1,g1,f2,g2,f3,g3,f4,g4,f5,g5,f6,g6,f7,g7,f8,g8,f9,g9,f10,g10,f11,g11,f12,g12,f13,g13,f14,g14,f15,g15,f16,g16,f17,g17,f18,g18,f19,g19,f20,g20,f21,g21,f22,g22,f23,g23,f24,g24,f25,g25,Zm,g26,Zn,g27,f28,g28,Zo,g29,Zp,g30,f31,g31,f32,g32,f33,g33,Zq,g34,Zr,g35,Zs,g36,f37,g37,Zt,g38,tk0,tk1,C0,ir,eO,fR,iu,fD⟩,⟨⟨F0,F0.binds (fun _ _ _ _ _ _=>Ab (fun _ _=>rfl)),mg_of X G a0⟩,⟨F1,F1.binds (fun _ _ _ _ _ _=>W3 (fun _ _ _=>rfl)),mg_of X G a1⟩,⟨F2,F2.binds (fun _ _ _ _ _ _=>Ab (fun _ _=>rfl)),⟨a2,i2,F2.kp⟩⟩,⟨F3,F3.binds (fun _ _ _ _ _ _=>Ab (fun _ _=>rfl)),mg_of X G a3⟩,⟨F4,F4.binds (fun _ _ _ _ _ _=>VN (fun _=>rfl)),⟨a4,i4,F4.kp⟩⟩,⟨F5,F5.binds (fun _ _ _ _ _ _=>W3 (fun _ _ _=>rfl)),⟨a5,i5,F5.kp⟩⟩,⟨F6,F6.binds (fun _ _ _ _ _ _=>Ab (fun _ _=>rfl)),⟨a6,i6,F6.kp⟩⟩,⟨F7,F7.binds (fun _ _ _ _ _ _=>Ab (fun _ _=>rfl)),⟨a7,i7,F7.kp⟩⟩,⟨F8,F8.binds (fun _ _ _ _ _ _=>Ab (fun _ _=>rfl)),mg_of X G a8⟩,⟨F9,F9.binds (fun _ _ _ _ _ _=>Ab (fun _ _=>rfl)),mg_of X G a9⟩,⟨F10,F10.binds (fun _ _ _ _ _ _=>Ab (fun _ _=>rfl)),mg_of X G a10⟩,⟨F11,F11.binds (fun _ _ _ _ _ _=>Ab (fun _ _=>rfl)),mg_of X G a11⟩,⟨F12,F12.binds (fun _ _ _ _ _ _=>Ab (fun _ _=>rfl)),mg_of X G a12⟩,⟨F13,F13.binds (fun _ _ _ _ _ _=>Ab (fun _ _=>rfl)),mg_of X G a13⟩,⟨F14,F14.binds (fun _ _ _ _ _ _=>Ab (fun _ _=>rfl)),mg_of X G a14⟩,⟨F15,F15.binds (fun _ _ _ _ _ _=>Ab (fun _ _=>rfl)),mg_of X G a15⟩,⟨F16,F16.binds (fun _ _ _ _ _ _=>Ab (fun _ _=>rfl)),mg_of X G a16⟩,⟨F17,F17.binds (fun _ _ _ _ _ _=>Ab (fun _ _=>rfl)),mg_of X G a17⟩,⟨F18,F18.binds (fun _ _ _ _ _ _=>Ab (fun _ _=>rfl)),mg_of X G a18⟩,⟨F19,F19.binds (fun _ _ _ _ _ _=>Ab (fun _ _=>rfl)),mg_of X G a19⟩,⟨F20,F20.binds (fun _ _ _ _ _ _=>Ab (fun _ _=>rfl)),mg_of X G a20⟩,⟨F21,F21.binds (fun _ _ _ _ _ _=>Ab (fun _ _=>rfl)),mg_of X G a21⟩,⟨F22,F22.binds (fun _ _ _ _ _ _=>Ab (fun _ _=>rfl)),mg_of X G a22⟩,⟨F23,F23.binds (fun _ _ _ _ _ _=>Ab (fun _ _=>rfl)),mg_of X G a23⟩,⟨F24,F24.binds (fun _ _ _ _ _ _=>W3 (fun _ _ _=>rfl)),mg_of X G a24⟩,⟨F25,F25.binds (fun _ _ _ _ _ _=>W3 (fun _ _ _=>rfl)),mg_of X G a25⟩,⟨F26,F26.binds (fun _ _ _ _ _ _=>Ab (fun _ _=>rfl)),⟨a26,i26,F26.kp⟩⟩,⟨F27,F27.binds (fun _ _ _ _ _ _=>VN (fun _=>rfl)),⟨a27,i27,F27.kp⟩⟩,⟨F28,F28.binds (fun _ _ _ _ _ _=>W3 (fun _ _ _=>rfl)),mg_of X G a28⟩,⟨F29,F29.binds (fun _ _ _ _ _ _=>Ab (fun _ _=>rfl)),⟨a29,i29,F29.kp⟩⟩,⟨F30,F30.binds (fun _ _ _ _ _ _=>Ab (fun _ _=>rfl)),⟨a30,i30,F30.kp⟩⟩,⟨F31,F31.binds (fun _ _ _ _ _ _=>us5 (fun _ _ _ _ _=>rfl)),mg_of X G a31⟩,⟨F32,F32.binds (fun _ _ _ _ _ _=>W3 (fun _ _ _=>rfl)),mg_of X G a32⟩,⟨F33,F33.binds (fun _ _ _ _ _ _=>us5 (fun _ _ _ _ _=>rfl)),mg_of X G a33⟩,⟨F34,F34.binds (fun _ _ _ _ _ _=>VN (fun _=>rfl)),⟨a34,i34,F34.kp⟩⟩,⟨F35,F35.binds (fun _ _ _ _ _ _=>VN (fun _=>rfl)),⟨a35,i35,F35.kp⟩⟩,⟨F36,F36.binds (fun _ _ _ _ _ _=>VN (fun _=>rfl)),⟨a36,i36,F36.kp⟩⟩,⟨F37,F37.binds (fun _ _ _ _ _ _=>VN (fun _=>rfl)),mg_of X G a37⟩,⟨F38,F38.binds (fun _ _ _ _ _ _=>VN (fun _=>rfl)),mg_of X G a38⟩,mg_none_of X G z0,mg_none_of X G z1,mg_none_of X G z2,mg_none_of X G z3,mg_none_of X G z4,mg_none_of X G z5,mg_none_of X G z6,mg_none_of X G z7,mg_none_of X G z8,mg_none_of X G z9,mg_of X G y0,mg_of X G y1,⟨pg0,hd0,po0,sa0⟩,VU,VW,VX,⟨mk0,a2,i2,kc0⟩,mg_of X G aC0,mg_of X G Af,mg_of X G uz,mg_of X G xp,mg_of X G Ag,mg_of X G og,xr,og,⟨⟨_,_,Zu,by decide,by decide⟩,VY,VZ,V0⟩,V1,V2,V3,V4,V5,Zu,Af,V6,V7,⟨⟨_,_,Zv,by decide,by decide⟩,V8,V9,Wa⟩,Wb,Wc,Wd,We,Wf,Zv,uz,Wg,Wh,⟨⟨_,_,Zw,by decide,by decide⟩,Wi,Wj,Wl⟩,Wm,Wn,Wo,Wq,Wr,Zw,xp,Ws,Wt,⟨⟨_,_,Zx,by decide,by decide⟩,Wu,Wv,Ww⟩,Wx,Wy,Wz,WA,WB,Zx,Ag,WC,WD⟩,rfl,rfl⟩
 have e:=hfa.symm.trans T.P4.m;cases e;refine ⟨t.Lp,fun s v=>?_,fun base KB NB=>VS T KB NB⟩;obtain ⟨_,_,_,_,_,_,_,_,_,e3,_⟩:=T.P4.u.ex;rw [e3];exact .of_eq rfl
def walk {l:OpenLaw}{q:Program}{loose:List Str}{XP:(Str->Option Value)->Heap->Prop}{YP:World->Heap->Prop}{d:DefRec}{K:Params->Frag} (hn:l.most=some 63) (Xz:d.params.defaults=[])
  (hY:∀(w:World) (h:Heap),YP w h->(K w.params).In h)
  (F:∀(w:World) (mg:Str->Option Value) (fa:Addr) (h:Heap),(K w.params).In h->h.Ns mainGlobals mg->mg d.name=some (.ref fa) ->
   ∃fd:FuncData,(∀(s:Shared) (u:Value),BindsTo s fd ⟨[u],[]⟩ [("_law_script",u)])/\∀base:Heap,(K w.params).In base->base.Ns mainGlobals mg->cM l.prog w (K w.params) mg base jQ 8 fa fd ["_law_script"] (jO (K w.params) DL)) :
  PySem.W.WalkO q loose XP YP l.row.toRowW d [] (fun f vs=>PySem.call f vs) :=
 L2.QR (n:=63) (k:=8) (x:="_law_script") (CX:=fun _=>jQ) (sp:=fun w=>jO (K w.params) DL) hn (by decide) Xz ⟨rfl,by decide,by decide⟩ hY F
  (fun w H a ns hl _ hS=>⟨H,[.lst (ns.map D.int)],fun d=>d=.bl true,aX.refl _,.cons (.lst hS (bP.ints ns)) .nil,⟨ns,rfl,hl,rfl⟩,fun v G' H' d _ dv e=>by subst e;exact dv.Az⟩) fun _ _ _ _ _ z=>z
end zX
open PySem PySem.W PyProof.Rows
set_option maxRecDepth 100000 in
set_option maxHeartbeats 0 in
theorem PySem.Challenge.cw_latebells_k50_houses_holds : PySem.Challenge.rw_latebells_k50_houses.Holds := by
 w_on; o_law; k_head; (case hw=>w_witness2)
 k_fill
 refine zX.walk (l:=PySem.Challenge.rw_latebells_k50_houses) rfl rfl (fun w h Y=>PySem.W.kIn_of Y) ?F
 case F =>
  intro w mg fa h KX G hmg
  refine' zX.VT KX G hmg ?aC0 ?pg0 ?hd0 ?po0 ?sa0 ?mk0 ?kc0 ?n0x0 ?n0x1 ?n0x2 ?a0 (.f ?l0 ?c0 ?k0) ?a1 (.f ?l1 ?c1 ?k1) ?a2 ?i2 (.f ?l2 ?c2 ?k2) ?a3 (.f ?l3 ?c3 ?k3) ?a4 ?i4 (.f ?l4 ?c4 ?k4) ?a5 ?i5 (.f ?l5 ?c5 ?k5) ?a6 ?i6 (.f ?l6 ?c6 ?k6) ?a7 ?i7 (.f ?l7 ?c7 ?k7) ?a8 (.f ?l8 ?c8 ?k8) ?a9 (.f ?l9 ?c9 ?k9) ?a10 (.f ?l10 ?c10 ?k10) ?a11 (.f ?l11 ?c11 ?k11) ?a12 (.f ?l12 ?c12 ?k12) ?a13 (.f ?l13 ?c13 ?k13) ?a14 (.f ?l14 ?c14 ?k14) ?a15 (.f ?l15 ?c15 ?k15) ?a16 (.f ?l16 ?c16 ?k16) ?a17 (.f ?l17 ?c17 ?k17) ?a18 (.f ?l18 ?c18 ?k18) ?a19 (.f ?l19 ?c19 ?k19) ?a20 (.f ?l20 ?c20 ?k20) ?a21 (.f ?l21 ?c21 ?k21) ?a22 (.f ?l22 ?c22 ?k22) ?a23 (.f ?l23 ?c23 ?k23) ?a24 (.f ?l24 ?c24 ?k24) ?a25 (.f ?l25 ?c25 ?k25) ?a26 ?i26 (.f ?l26 ?c26 ?k26) ?a27 ?i27 (.f ?l27 ?c27 ?k27) ?a28 (.f ?l28 ?c28 ?k28) ?a29 ?i29 (.f ?l29 ?c29 ?k29) ?a30 ?i30 (.f ?l30 ?c30 ?k30) ?a31 (.f ?l31 ?c31 ?k31) ?a32 (.f ?l32 ?c32 ?k32) ?a33 (.f ?l33 ?c33 ?k33) ?a34 ?i34 (.f ?l34 ?c34 ?k34) ?a35 ?i35 (.f ?l35 ?c35 ?k35) ?a36 ?i36 (.f ?l36 ?c36 ?k36) ?a37 (.f ?l37 ?c37 ?k37) ?a38 (.f ?l38 ?c38 ?k38) ?aeEarly ?aeNoClock ?aeAsleep ?aeAwake ?aeRingError ?xr ?xq0 ?xga0 ?xgn0 ?xcl0 ?xkv0 ?xk00 ?xk10 ?xk20 ?xk30 ?xmr0 ?xnr0 ?xq1 ?xga1 ?xgn1 ?xcl1 ?xkv1 ?xk01 ?xk11 ?xk21 ?xk31 ?xmr1 ?xnr1 ?xq2 ?xga2 ?xgn2 ?xcl2 ?xkv2 ?xk02 ?xk12 ?xk22 ?xk32 ?xmr2 ?xnr2 ?xq3 ?xga3 ?xgn3 ?xcl3 ?xkv3 ?xk03 ?xk13 ?xk23 ?xk33 ?xmr3 ?xnr3 ?z0 ?z1 ?z2 ?z3 ?z4 ?z5 ?z6 ?z7 ?z8 ?z9 ?y0 ?y1
  case aC0=>k_is
  case a0|a1|a2|a3|a4|a5|a6|a7|a8|a9|a10|a11|a12|a13|a14|a15|a16|a17|a18|a19|a20|a21|a22|a23|a24|a25|a26|a27|a28|a29|a30|a31|a32|a33|a34|a35|a36|a37|a38|aeEarly|aeNoClock|aeAsleep|aeAwake|aeRingError=>k_is
  case l0|l1|l2|l3|l4|l5|l6|l7|l8|l9|l10|l11|l12|l13|l14|l15|l16|l17|l18|l19|l20|l21|l22|l23|l24|l25|l26|l27|l28|l29|l30|l31|l32|l33|l34|l35|l36|l37|l38=>k_is
  case pg0|hd0|po0|sa0|mk0|kc0|n0x0|n0x1|n0x2|c0|k0|c1|k1|i2|c2|k2|c3|k3|i4|c4|k4|i5|c5|k5|i6|c6|k6|i7|c7|k7|c8|k8|c9|k9|c10|k10|c11|k11|c12|k12|c13|k13|c14|k14|c15|k15|c16|k16|c17|k17|c18|k18|c19|k19|c20|k20|c21|k21|c22|k22|c23|k23|c24|k24|c25|k25|i26|c26|k26|i27|c27|k27|c28|k28|i29|c29|k29|i30|c30|k30|c31|k31|c32|k32|c33|k33|i34|c34|k34|i35|c35|k35|i36|c36|k36|c37|k37|c38|k38|xga0|xgn0|xcl0|xmr0|xga1|xgn1|xcl1|xmr1|xga2|xgn2|xcl2|xmr2|xga3|xgn3|xcl3|xmr3|z0|z1|z2|z3|z4|z5|z6|z7|z8|z9|y0|y1=>k_is
  case xr|xq0|xq1|xq2|xq3=>unfold zX.P0; k_exc
  case xk00|xk10|xk20|xk30|xk01|xk11|xk21|xk31|xk02|xk12|xk22|xk32|xk03|xk13|xk23|xk33=>unfold zX.kx; kit_is
  case xkv0|xkv1|xkv2|xkv3=>kit_is
  case xnr0|xnr1|xnr2|xnr3=>exact (by decide)
