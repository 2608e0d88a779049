import PyProof.Rows.All
import Wide.All
import OpenK.AllK
import Wide.FinOn
import PyProof.EqAt
import PyProof.EqKinds
import PyProof.TupleCall
import PySem.Challenge.RW_selfword_k75_the_selfteller
set_option Elab.async false
set_option linter.all false
set_option maxRecDepth 100000
namespace L2
open PySem PySem.Spec PyProof.Rows
abbrev Key:=Sum Int Str
def keyIs:Key→Value→Bool
 | .inl k,v=>Value.isInt k v
 | .inr x,v=>Value.isStrOf x v
def keyH (w:World):Key→Int
 | .inl k=>hashInt k
 | .inr x=>hashStr w x
theorem keyIs_shape:∀ {k:Key}{v:Value},keyIs k v=true→(∃ i t,k=Sum.inl i∧v=Value.int i t)∨(∃ x t,k=Sum.inr x∧v=Value.str x t)
 | .inl i,v,h=>by
  obtain⟨t,e⟩:=Value.isInt_shape (k:=i) (v:=v) h
  exact .inl ⟨i,t,rfl,e⟩
 | .inr x,v,h=>by
  obtain⟨t,e⟩:=Value.isStrOf_shape (x:=x) (v:=v) h
  exact .inr ⟨x,t,rfl,e⟩
theorem key_ll (a b:Int):decide ((Sum.inl a:Key)=Sum.inl b)=(a == b):=by
 by_cases e:a=b
 ·subst e; simp
 ·have h:¬ (Sum.inl a:Key)=Sum.inl b:=fun q=>e (Sum.inl.inj q)
  rw [decide_eq_false h]
  exact (beq_eq_false_iff_ne.mpr e).symm
theorem key_rr (a b:Str):decide ((Sum.inr a:Key)=Sum.inr b)=decide (a=b):=by
 by_cases e:a=b
 ·subst e; simp
 ·have h:¬ (Sum.inr a:Key)=Sum.inr b:=fun q=>e (Sum.inr.inj q)
  rw [decide_eq_false h,decide_eq_false e]
theorem key_lr (a:Int) (b:Str):decide ((Sum.inl a:Key)=Sum.inr b)=false:=decide_eq_false (fun q=>nomatch q)
theorem key_rl (a:Str) (b:Int):decide ((Sum.inr a:Key)=Sum.inl b)=false:=decide_eq_false (fun q=>nomatch q)
def mixKind (prog:Program) (w:World):PySem.KeyKind prog w Key where
 is:=keyIs
 hash:=keyH w
 inj:=fun v a b ha hb=>by
  rcases keyIs_shape ha with⟨i,t,rfl,rfl⟩ | ⟨x,t,rfl,rfl⟩
  ·rcases keyIs_shape hb with⟨j,u,rfl,e⟩ | ⟨y,u,rfl,e⟩
   ·injection e with e1 _; rw [e1]
   ·exact nomatch e
  ·rcases keyIs_shape hb with⟨j,u,rfl,e⟩ | ⟨y,u,rfl,e⟩
   ·exact nomatch e
   ·injection e with e1 _; rw [e1]
 byValue:=fun k v h=>by
  rcases keyIs_shape h with⟨i,t,rfl,rfl⟩ | ⟨x,t,rfl,rfl⟩ <;> rfl
 pyHash:=fun hv h=>by
  rcases keyIs_shape hv with⟨i,t,rfl,rfl⟩ | ⟨x,t,rfl,rfl⟩
  ·exact wpAny_pyHash_int h
  ·exact wpAny_pyHash_str h
 eqBool:=fun hu hv h=>by
  rcases keyIs_shape hu with⟨i,t,rfl,rfl⟩ | ⟨x,t,rfl,rfl⟩
  ·rcases keyIs_shape hv with⟨j,u,rfl,rfl⟩ | ⟨y,u,rfl,rfl⟩
   ·rw [key_ll] at h; exact wpAny_eqBool_int h
   ·rw [key_lr] at h; exact SeqAt.EqAt.int_str i t y u _ _ _ _ h
  ·rcases keyIs_shape hv with⟨j,u,rfl,rfl⟩ | ⟨y,u,rfl,rfl⟩
   ·rw [key_rl] at h; exact SeqAt.EqAt.str_int x t j u _ _ _ _ h
   ·rw [key_rr] at h; exact wpAny_eqBool_str h
 «strs»:=fun k x t v h=>by
  rcases keyIs_shape h with⟨i,u,rfl,e⟩ | ⟨y,u,rfl,e⟩
  ·exact nomatch e
  ·injection e with e1 _
   subst e1
   cases v <;> rfl
end L2
namespace L2
open PySem PySem.Spec PyProof.Rows
inductive V where
 | non | bl (b:Bool) | int (i:Int) | str (x:Str) | byt (b:Array UInt8) | flt (b:UInt64) | ref (a:Addr) | ty (n:String)
 deriving DecidableEq
def RelV:V→Value→Prop
 | .non,u=>u=Value.none
 | .bl b,u=>u=Value.bool b
 | .int i,u=>∃ t,u=Value.int i t
 | .str x,u=>∃ t,u=Value.str x t
 | .byt b,u=>∃ t,u=Value.bytes b t
 | .flt b,u=>∃ t,u=Value.float b t
 | .ref a,u=>u=Value.ref a
 | .ty n,u=>u=Value.type n
abbrev Vals:List V→List Value→Prop:=Paired RelV
theorem Vals.length {xs:List V}{us:List Value} (r:Vals xs us):xs.length=us.length:=Paired.length r
theorem Vals.get:∀ {xs:List V}{us:List Value}{i:Nat}{x:V},Vals xs us→xs[i]?=some x→∃ u,us[i]?=some u∧RelV x u
 | _,_,_,_,.nil,e=>by simp at e
 | _,_,0,_,.cons r _,e=>by simp at e; subst e; exact⟨_,rfl,r⟩
 | _,_,i+1,x,.cons _ t,e=>by
  obtain⟨u,h1,h2⟩:=Vals.get (i:=i) (x:=x) t (by simpa using e)
  exact⟨u,by simpa using h1,h2⟩
theorem Vals.set {x:V}{u:Value} (r:RelV x u):∀ {xs:List V}{us:List Value} (i:Nat),Vals xs us→Vals (xs.set i x) (us.set i u)
 | _,_,_,.nil=>.nil
 | _,_,0,.cons _ t=>.cons r t
 | _,_,i+1,.cons q t=>.cons q (Vals.set r i t)
theorem Vals.append:∀ {xs ys:List V}{us ws:List Value},Vals xs us→Vals ys ws→Vals (xs++ys) (us++ws)
 | _,_,_,_,.nil,s=>s
 | _,_,_,_,.cons r t,s=>.cons r (Vals.append t s)
theorem Vals.take:∀ {xs:List V}{us:List Value} (n:Nat),Vals xs us→Vals (xs.take n) (us.take n)
 | _,_,0,_=>.nil
 | _,_,_+1,.nil=>.nil
 | _,_,n+1,.cons r t=>.cons r (Vals.take n t)
theorem Vals.drop:∀ {xs:List V}{us:List Value} (n:Nat),Vals xs us→Vals (xs.drop n) (us.drop n)
 | _,_,0,r=>r
 | _,_,_+1,.nil=>.nil
 | _,_,n+1,.cons _ t=>Vals.drop n t
def RelO:Option V→Option Value→Prop
 | some v,some u=>RelV v u
 | none,none=>True
 | _,_=>False
def KV {κ:Type}:List (κ×V)→List (κ×Value)→Prop:=Paired fun (p:κ×V) (q:κ×Value)=>p.1=q.1∧RelV p.2 q.2
def kV:Key→V
 | .inl i=>.int i
 | .inr x=>.str x
inductive HO where
 | lst (xs:List V)
 | tup (xs:List V)
 | dK (kvs:List (Key×V)) | dT (kvs:List (List Key×V))
 | set (S:Int→Bool) (n:Nat)
 | ins (C dx:Addr) (fs:List (Str×V))
 | own (x:Addr)
 | xd (fs:List (Str×V))
 | met (f x:Addr)
 | rng (lo hi:Int)
 | frz (o:Obj) (u:HO)
 | tbl (ps:Array Value)
 | ext (φ:Heap→Prop)
abbrev Hp:=Addr→Option HO
def upd (H:Hp) (a:Addr) (o:HO):Hp:=fun b=>if b=a then some o else H b
theorem upd_same {H:Hp}{a:Addr}{o:HO}:upd H a o a=some o:=by unfold upd; rw [if_pos rfl]
theorem upd_ne {H:Hp}{a b:Addr}{o:HO} (h:b≠a):upd H a o b=H b:=by unfold upd; rw [if_neg h]
theorem upd_upd {H:Hp}{a:Addr}{o u:HO}:upd (upd H a o) a u=upd H a u:=by
 funext b; unfold upd; split <;> rfl
theorem ne_of {H:Hp}{a b:Addr}{o u:HO} (h:H a=some o) (h':H b=some u) (d:o≠u):a≠b:=by
 intro e; subst e; rw [h] at h'; exact d (Option.some.inj h')
theorem ne_of_none {H:Hp}{a b:Addr}{o:HO} (h:H a=some o) (h':H b=none):a≠b:=by
 intro e; subst e; rw [h] at h'; cases h'
section
variable (P:Program) (w:World)
def ObjOk (H:Hp) (h:Heap) (a:Addr):HO→Prop
 | .lst xs=>xs.length≤sizeLine∧∃ (its:List Value) (n:Nat),Vals xs its∧h.get? a=some { cls:=.type "list",data:=.seq its.toArray n }
 | .tup xs=>xs.length≤sizeLine∧∃ its:List Value,Vals xs its∧IsTup h a its.toArray
 | .dK kvs=>kvs.length≤sizeLine∧(a == sysModules)=false∧∃ vs,KV kvs vs∧h.DictOf (mixKind P w) a vs
 | .dT kvs=>kvs.length≤sizeLine∧(a == sysModules)=false∧∃ xs:List (List Key×Addr×Value),
   Paired (fun (p:List Key×V) (q:List Key×Addr×Value)=>p.1=q.1∧H q.2.1=some (.tup (p.1.map kV))∧RelV p.2 q.2.2) kvs xs ∧
   ∃ o es ep,h.get? a=some o∧o.ExactDict∧o.data=.dict es ep∧es.toList=xs.map (entryOfKey (tupleKind (mixKind P w)))∧(xs.map (·.1)).Nodup
 | .set S n=>h.SetOf (intKind P w) a S n
 | .ins C dx fs=>H dx=some (.own a)∧fs.length≤1000∧dx≠a∧h.get? a=some (PySem.W.instObj C dx) ∧
   ∃ mA,h.Ns1 dx mA∧(∀ f,RelO (fs.lookup f) (mA f))∧PySem.Within mA (fs.map (·.1))
 | .own _=>∃ o,h.get? a=some o
 | .xd fs=>∃ mA,h.Ns1 a mA∧∀ f,RelO (fs.lookup f) (mA f)
 | .rng lo hi=>∃ t u v,h.get? a=some { cls:=.type "range",data:=.fields #[.int lo t,.int hi u,.int 1 v] }
 | .frz o u=>h.get? a=some o∧ObjOk H h a u
 | .tbl ps=>h.get? a=some { cls:=.none,data:=.fields ps }
 | .met f x=>h.get? a=some (PySem.W.methodObj (.ref f) (.ref x))
 | .ext φ=>φ h∧(∃ o,h.get? a=some o)∧∀ h1 h2:Heap,φ h1→(∀ o,h1.get? a=some o→h2.get? a=some o)→φ h2
def HOk (H:Hp) (h:Heap):Prop:=∀ a o,H a=some o→ObjOk P w H h a o
end
section
variable {P:Program}{w:World}{H H':Hp}{h h':Heap}{a:Addr}{o:HO}
theorem ObjOk.lt (x:ObjOk P w H h a o):a<h.objs.size:=by
 cases o with
 | lst xs=>obtain⟨_,_,_,_,e⟩:=x; exact Heap.lt_size e
 | tup xs=>obtain⟨_,_,_,p⟩:=x; exact p.lt
 | dK kvs=>obtain⟨_,_,_,_,o,_,_,e,_⟩:=x; exact Heap.lt_size e
 | dT kvs=>obtain⟨_,_,_,_,o,_,_,e,_⟩:=x; exact Heap.lt_size e
 | set S n=>obtain⟨o,_,_,_,e,_⟩:=x; exact Heap.lt_size e
 | ins C dx fs=>obtain⟨_,_,_,e,_⟩:=x; exact Heap.lt_size e
 | own y=>obtain⟨_,e⟩:=x; exact Heap.lt_size e
 | xd fs=>obtain⟨_,⟨_,_,_,e,_⟩,_⟩:=x; exact Heap.lt_size e
 | rng lo hi=>obtain⟨_,_,_,e⟩:=x; exact Heap.lt_size e
 | frz ob u=>obtain⟨e,_⟩:=x; exact Heap.lt_size e
 | tbl ps=>exact Heap.lt_size (show h.get? a=some _ from x)
 | met f y=>exact Heap.lt_size (show h.get? a=some _ from x)
 | ext φ=>obtain⟨_,⟨_,e⟩,_⟩:=x; exact Heap.lt_size e
theorem Paired.mapP {α β:Type}{F G:α→β→Prop}:∀ {l₁:List α}{l₂:List β},Paired F l₁ l₂→(∀ a b,F a b→G a b)→Paired G l₁ l₂
 | _,_,.nil,_=>.nil
 | _,_,.cons r t,f=>.cons (f _ _ r) (Paired.mapP t f)
theorem ObjOk.stay (x:ObjOk P w H h a o) (k:∀ b u,(b=a∨H b=some (.own a))→h.get? b=some u→h'.get? b=some u)
  (ho:∀ b,H b=some (.own a)→H' b=some (.own a)) (ht:∀ b xs,H b=some (.tup xs)→H' b=some (.tup xs)):ObjOk P w H' h' a o:=by
 induction o with
 | lst xs=>obtain⟨z,its,n,r,e⟩:=x; exact⟨z,its,n,r,k _ _ (.inl rfl) e⟩
 | tup xs=>obtain⟨z,its,r,ob,e,c⟩:=x; exact⟨z,its,r,ob,k _ _ (.inl rfl) e,c⟩
 | dK kvs=>obtain⟨z,y,vs,r,ob,es,ep,e,c⟩:=x; exact⟨z,y,vs,r,ob,es,ep,k _ _ (.inl rfl) e,c⟩
 | dT kvs =>
  obtain⟨z,y,xs,r,ob,es,ep,e,c⟩:=x
  exact⟨z,y,xs,Paired.mapP r fun p q z=>⟨z.1,ht _ _ z.2.1,z.2.2⟩,ob,es,ep,k _ _ (.inl rfl) e,c⟩
 | set S n=>obtain⟨ob,es,ep,t,e,c⟩:=x; exact⟨ob,es,ep,t,k _ _ (.inl rfl) e,c⟩
 | ins C dx fs =>
  obtain⟨d,z,ne,e,mA,⟨od,es,ep,e2,c⟩,r⟩:=x
  exact⟨ho _ d,z,ne,k _ _ (.inl rfl) e,mA,⟨od,es,ep,k _ _ (.inr d) e2,c⟩,r⟩
 | own y=>obtain⟨ob,e⟩:=x; exact⟨ob,k _ _ (.inl rfl) e⟩
 | xd fs=>obtain⟨mA,⟨od,es,ep,e,c⟩,r⟩:=x; exact⟨mA,⟨od,es,ep,k _ _ (.inl rfl) e,c⟩,r⟩
 | rng lo hi=>obtain⟨t,u,v,e⟩:=x; exact⟨t,u,v,k _ _ (.inl rfl) e⟩
 | frz ob u ih=>obtain⟨e,q⟩:=x; exact⟨k _ _ (.inl rfl) e,ih q⟩
 | tbl ps =>
  have e:h.get? a=some { cls:=.none,data:=.fields ps }:=x
  show h'.get? a=some { cls:=.none,data:=.fields ps }
  exact k a _ (.inl rfl) e
 | met f y =>
  have e:h.get? a=some (PySem.W.methodObj (.ref f) (.ref y)):=x
  show h'.get? a=some (PySem.W.methodObj (.ref f) (.ref y))
  exact k a _ (.inl rfl) e
 | ext φ=>obtain⟨p,⟨o,e⟩,st⟩:=x; exact⟨st _ _ p fun o q=>k _ _ (.inl rfl) q,⟨o,k _ _ (.inl rfl) e⟩,st⟩
theorem HOk.lt (x:HOk P w H h) (e:H a=some o):a<h.objs.size:=(x a o e).lt
theorem HOk.fresh (x:HOk P w H h) (e:h.objs.size≤a):H a=none:=by
 cases q:H a with
 | none=>rfl
 | some u=>exact absurd (Nat.lt_of_lt_of_le (x.lt q) e) (Nat.lt_irrefl _)
theorem HOk.kept (x:HOk P w H h) (k:∀ b u,h.get? b=some u→h'.get? b=some u):HOk P w H h':=fun a o e =>
 (x a o e).stay (fun b u _ q=>k b u q) (fun _ q=>q) fun _ _ q=>q
theorem HOk.laid (x:HOk P w H h) (k:∀ b u,h.get? b=some u→h'.get? b=some u) (hp:h.objs.size≤a) (new:ObjOk P w (upd H a o) h' a o):HOk P w (upd H a o) h':=fun b u e=>by
 have hn:=x.fresh hp
 by_cases hb:b=a
 ·subst hb; rw [upd_same] at e; cases e; exact new
 ·rw [upd_ne hb] at e
  exact (x b u e).stay (fun c v _ q=>k c v q) (fun c q=>by rw [upd_ne (ne_of_none q hn)]; exact q) fun c xs q=>by rw [upd_ne (ne_of_none q hn)]; exact q
end
def Rd (H:Hp) (a:Addr) (u:HO):Prop:=H a=some u∨∃ o,H a=some (.frz o u)
theorem Rd.ok {P:Program}{w:World}{H:Hp}{h:Heap}{a:Addr}{u:HO} (r:Rd H a u) (x:HOk P w H h):ObjOk P w H h a u:=by
 rcases r with r | ⟨o,r⟩
 ·exact x a u r
 ·obtain⟨_,q⟩:=x a _ r
  exact q
def Mut:Option HO→Prop
 | some (.lst _)=>True
 | some (.dK _)=>True
 | some (.dT _)=>True
 | some (.set _ _)=>True
 | some (.ins _ _ _)=>True
 | some (.ext _)=>True
 | _=>False
section
variable {P:Program}{w:World}{H:Hp}{h h':Heap}{x e:Addr}{o':HO}
theorem HOk.write (ok:HOk P w H h) (mu:Mut (H x)) (he:e=x∨H e=some (.own x)) (k:∀ b u,b≠e→h.get? b=some u→h'.get? b=some u) (heo:∃ u,h'.get? e=some u)
  (new:ObjOk P w (upd H x o') h' x o'):HOk P w (upd H x o') h':=fun b u q=>by
 have nown:∀ c y,H c=some (.own y)→c≠x:=fun c y r z=>by subst z; rw [r] at mu; exact mu
 have ntup:∀ c xs,H c=some (.tup xs)→c≠x:=fun c xs r z=>by subst z; rw [r] at mu; exact mu
 by_cases hb:b=x
 ·subst hb; rw [upd_same] at q; cases q; exact new
 ·rw [upd_ne hb] at q
  by_cases hbe:b=e
  ·have q':H b=some (.own x):=by
    rcases he with z | z
    ·exact absurd (hbe.trans z) hb
    ·rw [hbe]; exact z
   rw [q] at q'; cases q'
   obtain⟨v,hv⟩:=heo
   exact⟨v,by rw [hbe]; exact hv⟩
  ·refine (ok b u q).stay (fun c v hc r=>k c v ?_ r) (fun c r=>by rw [upd_ne (nown c b r)]; exact r) fun c xs r=>by rw [upd_ne (ntup c xs r)]; exact r
   rcases hc with rfl | hc
   ·exact hbe
   ·rintro rfl
    rcases he with z | z
    ·exact nown c b hc z
    ·rw [hc] at z; cases z; exact hb rfl
end
structure Un (fs ex:List Addr) (H H':Hp) (h h':Heap):Prop where
 keep:∀ b o,h.get? b=some o→H b=none→b ∉ fs→b ∉ ex→h'.get? b=some o
 slot:∀ b o,h.get? b=some o→H b=none→b∈fs→b ∉ ex→∃ sl,h'.get? b=some { o with slots:=sl }
 free:∀ b o,h.get? b=some o→H b=none→b ∉ ex→H' b=none
 there:∀ b o,h.get? b=some o→b ∉ ex→∃ o',h'.get? b=some o'
 tups:∀ b xs,H b=some (.tup xs)→H' b=some (.tup xs)
 frzs:∀ b o u,H b=some (.frz o u)→H' b=some (.frz o u)
 tbls:∀ b ps,H b=some (.tbl ps)→∃ more,H' b=some (.tbl (ps++more))
section
variable {fs fs' ex ex':List Addr}{H H1 H2:Hp}{h h1 h2 h':Heap}{a x e:Addr}{o:HO}
theorem Un.any (u:Un fs ex H H1 h h1) {b:Addr}{ob:Obj} (q:h.get? b=some ob) (n:H b=none) (hx:b ∉ ex):∃ sl,h1.get? b=some { ob with slots:=sl }:=by
 by_cases hb:b∈fs
 ·exact u.slot b ob q n hb hx
 ·exact⟨ob.slots,u.keep b ob q n hb hx⟩
theorem Un.kept (k:∀ b u,h.get? b=some u→h'.get? b=some u):Un fs ex H H h h' :=
 ⟨fun b ob q _ _ _=>k b ob q,fun b ob q _ _ _=>⟨ob.slots,k b ob q⟩,fun _ _ _ n _=>n,fun b ob q _=>⟨ob,k b ob q⟩,fun _ _ q=>q,fun _ _ _ q=>q,fun _ ps q=>⟨#[],by rw [q]; simp⟩⟩
theorem Un.refl:Un fs ex H H h h:=Un.kept fun _ _ q=>q
theorem Un.laid (k:∀ b u,h.get? b=some u→h'.get? b=some u) (hp:h.objs.size≤a) (hn:H a=none):Un fs ex H (upd H a o) h h' where
 keep:=fun b u q _ _ _=>k b u q
 slot:=fun b u q _ _ _=>⟨u.slots,k b u q⟩
 free:=fun b u q n _=>by rw [upd_ne (Nat.ne_of_lt (Nat.lt_of_lt_of_le (Heap.lt_size q) hp))]; exact n
 there:=fun b u q _=>⟨u,k b u q⟩
 tups:=fun b xs q=>by rw [upd_ne (ne_of_none q hn)]; exact q
 frzs:=fun b u xs q=>by rw [upd_ne (ne_of_none q hn)]; exact q
 tbls:=fun b ps q=>⟨#[],by rw [upd_ne (ne_of_none q hn),q]; simp⟩
theorem Un.write (mu:Mut (H x)) (he:e=x∨H e=some (.own x)) (k:∀ b u,b≠e→h.get? b=some u→h'.get? b=some u) (heo:∃ u,h'.get? e=some u):Un fs ex H (upd H x o) h h':=by
 have hx:∀ b,H b=none→b≠x:=fun b n z=>by subst z; rw [n] at mu; exact mu
 have hb:∀ b,H b=none→b≠e:=fun b n z=>by
  subst z
  rcases he with r | r
  ·exact hx b n r
  ·rw [n] at r; cases r
 have hm:∀ b u,H b=some u→¬ Mut (some u)→b≠x:=fun b u q nm z=>by subst z; rw [q] at mu; exact nm mu
 refine⟨fun b u q n _ _=>k b u (hb b n) q,fun b u q n _ _=>⟨u.slots,k b u (hb b n) q⟩,fun b u q n _=>by rw [upd_ne (hx b n)]; exact n,fun b u q _=>?_,
  fun b xs q=>by rw [upd_ne (hm b _ q fun z=>z)]; exact q,fun b u xs q=>by rw [upd_ne (hm b _ q fun z=>z)]; exact q,fun b ps q=>⟨#[],by rw [upd_ne (hm b _ q fun z=>z),q]; simp⟩⟩
 by_cases hbe:b=e
 ·subst hbe; exact heo
 ·exact⟨u,k b u hbe q⟩
end
def trk (h:Heap) (H:Hp):List Addr:=(List.range h.objs.size).filter fun a=>(H a).isSome
def hidT (h:Heap) (H:Hp):Heap:=PySem.W.hideAll h (trk h H)
theorem hidT_size (h:Heap) (H:Hp):(hidT h H).objs.size=h.objs.size:=PySem.W.hideAll_size _ _
theorem hidT_get {h:Heap}{H:Hp}{b:Addr}{o:Obj} (e:h.get? b=some o) (n:H b=none):(hidT h H).get? b=some o :=
 PySem.W.hideAll_get _ e fun hm=>by
  have q:(H b).isSome=true:=(List.mem_filter.mp hm).2
  rw [n] at q; simp at q
theorem of_hidT {h:Heap}{H:Hp}{b:Addr}{o:Obj} (e:(hidT h H).get? b=some o):h.get? b=some o∧H b=none:=by
 have e':h.get? b=some o:=PySem.W.of_hideAll (trk h H) e
 refine⟨e',?_⟩
 cases q:H b with
 | none=>rfl
 | some x =>
  have hm:b∈trk h H:=List.mem_filter.mpr ⟨List.mem_range.mpr (Heap.lt_size e'),by simp [q]⟩
  have z:(hidT h H).get? b=none:=PySem.W.hideAll_none (trk h H) hm
  rw [z] at e; cases e
end L2
namespace L2
open PySem PySem.Spec PyProof.Rows
structure Mod (K:PySem.W.Frag) (mg:Str→Option Value) (base:Heap):Prop where
 kin:K.In base
 glob:base.Ns mainGlobals mg
 blt:∃ mb,base.Ns builtinsNs mb∧∀ x:Str,x≠"__name__"→mb x=bootBuiltins x
 nolimit:base.NoLimit
structure Cx where
 prog:Program
 w:World
 K:PySem.W.Frag
 mg:Str→Option Value
 base:Heap
 A:Around
 N:List Str
 s₀:Shared
 H₀:Hp
 env:Env
 outer:List Env
 stack:List Env
 ex:List Addr
 fn:Str→Bool
 calm:Bool
 pn:List (Addr×Obj)
 xe:Value→Shared→Prop
def frs (l:List Env):List Addr:=l.filterMap (·.frame)
abbrev Cx.fs (X:Cx):List Addr:=frs X.outer
def Vis (sc:Scope) (x:Str):Prop:=sc.names.lookup x=some .local∨sc.names.lookup x=some .cell∨sc.names.lookup x=some .free
def Loc (sc:Scope) (x:Str):Prop:=sc.names.lookup x=some .local∨sc.names.lookup x=some .cell
def Look (env:Env) (h:Heap) (m:Str→Option Value) (x:Str) (u:Value):Prop :=
 (env.kindOf x=some .local∧m x=some u)∨((env.kindOf x=some .cell∨env.kindOf x=some .free)∧∃ c,env.cells.lookup x=some c∧h.IsCell c (some u))
structure Cx.Ok (X:Cx):Prop where
 mod:Mod X.K X.mg X.base
 kind:X.env.scope.kind=.function
 glob:X.env.globals=mainGlobals
 blt:X.env.builtins=builtinsNs
 above:X.s₀.heap.objs.size≤X.env.locals
 inj:∀ x y c,X.env.cells.lookup x=some c→X.env.cells.lookup y=some c→x=y
 has:∀ x,(X.env.kindOf x=some .cell∨X.env.kindOf x=some .free)→∃ c,X.env.cells.lookup x=some c
 cab:∀ x c,X.fn x=true→X.env.cells.lookup x=some c→X.s₀.heap.objs.size≤c
 hd:X.calm=true→X.A.handled=none
 frames:X.A.frames=some X.stack
 stk:X.stack=X.outer∨(X.stack=X.env::X.outer∧X.env.frame=some X.env.locals)
 exf:∀ b∈X.ex,b≠X.env.locals∧∀ x c,X.env.cells.lookup x=some c→c≠b
 bs:∀ b o,X.base.get? b=some o→X.s₀.heap.get? b=some o∧X.H₀ b=none
 bsz:X.base.objs.size≤X.s₀.heap.objs.size
 noex:∀ b o,X.base.get? b=some o→b ∉ X.ex
 exfs:∀ b∈X.ex,b ∉ X.fs
 funs:X.s₀.heap.FunFrames X.base X.outer
 frf:∀ b∈X.fs,X.H₀ b=none
structure Inv (X:Cx) (pins:List (Addr×Obj)) (σ:List (Option V)) (H:Hp) (s:Shared):Prop where
 ok:X.Ok
 os:s.os=X.s₀.os
 bare:AllBare s.gens
 base:Un X.fs X.ex X.H₀ H X.s₀.heap s.heap
 loc:∃ m,s.heap.Ns X.env.locals m∧∀ (i:Nat) (x:Str) (v:V),X.N[i]?=some x→σ[i]?=some (some v)→Vis X.env.scope x→∃ u,RelV v u∧Look X.env s.heap m x u
 cell:∀ x c,X.env.cells.lookup x=some c→∃ v,s.heap.IsCell c v
 free:H X.env.locals=none
 freeC:∀ x c,X.env.cells.lookup x=some c→H c=none
 pin:∀ p∈X.pn++pins,s.heap.get? p.1=some p.2∧H p.1=none∧p.1≠X.env.locals∧p.1 ∉ X.fs∧∀ v,p.2.data≠.cell v
 hok:HOk X.prog X.w H s.heap
 len:σ.length=X.N.length
section
variable {X:Cx}{pins:List (Addr×Obj)}{σ:List (Option V)}{H H':Hp}{s:Shared}{h':Heap}
theorem Cx.Ok.nofr (ok:X.Ok) {b:Addr}{o:Obj} (e:X.base.get? b=some o):b ∉ X.fs:=fun hb=>by
 have:=(ok.funs.mem hb).1
 rw [e] at this; cases this
theorem Inv.bs (I:Inv X pins σ H s):∀ b o,X.base.get? b=some o→s.heap.get? b=some o∧H b=none:=fun b o e =>
 ⟨I.base.keep b o (I.ok.bs b o e).1 (I.ok.bs b o e).2 (I.ok.nofr e) (I.ok.noex b o e),I.base.free b o (I.ok.bs b o e).1 (I.ok.bs b o e).2 (I.ok.noex b o e)⟩
theorem Inv.bk (I:Inv X pins σ H s):∀ b o,X.base.get? b=some o→s.heap.get? b=some o:=fun b o e=>(I.bs b o e).1
theorem Inv.mod (I:Inv X pins σ H s):Mod X.K X.mg X.base:=I.ok.mod
theorem Inv.kIn (I:Inv X pins σ H s):X.K.In s.heap:=I.ok.mod.kin.keeps I.bk
theorem Inv.lt (I:Inv X pins σ H s):X.env.locals<s.heap.objs.size:=let ⟨_,hn,_⟩:=I.loc; hn.lt
theorem Inv.sz (I:Inv X pins σ H s):X.s₀.heap.objs.size≤s.heap.objs.size:=Nat.le_trans I.ok.above (Nat.le_of_lt I.lt)
theorem Inv.nofs (I:Inv X pins σ H s) {a:Addr} (h:s.heap.objs.size≤a):a ∉ X.fs:=fun hb=>by
 obtain⟨_,o,ho,_⟩:=I.ok.funs.mem hb
 exact absurd (Nat.lt_of_lt_of_le (Heap.lt_size ho) (Nat.le_trans I.sz h)) (Nat.lt_irrefl _)
theorem Inv.cne (I:Inv X pins σ H s):∀ x c,X.env.cells.lookup x=some c→c≠X.env.locals:=fun x c e z=>by
 obtain⟨v,o,ho,hd⟩:=I.cell x c e
 obtain⟨m,⟨o',es,ep,ho',hd',_⟩,_⟩:=I.loc
 rw [z,ho'] at ho; cases ho; rw [hd'] at hd; cases hd
theorem Inv.funs (I:Inv X pins σ H s):s.heap.FunFrames X.base X.outer:=by
 have all:∀ (l:List Env),(∀ b∈frs l,b∈X.fs)→X.s₀.heap.FunFrames X.base l→s.heap.FunFrames X.base l:=by
  intro l
  induction l with
  | nil=>intro _ _; trivial
  | cons env r ih =>
   intro hs hl
   obtain⟨hk,⟨L,o,hf,hn,ho,hd⟩,hr⟩:=hl
   have hL:L∈X.fs:=hs L (by unfold frs; rw [List.filterMap_cons,hf]; exact List.mem_cons_self)
   obtain⟨sl,e⟩:=I.base.slot L o ho (I.ok.frf L hL) hL fun z=>I.ok.exfs L z hL
   exact⟨hk,⟨L,_,hf,hn,e,hd⟩,ih (fun b hb=>hs b (by unfold frs; rw [List.filterMap_cons,hf]; exact List.mem_cons_of_mem _ hb)) hr⟩
 exact all X.outer (fun _ hb=>hb) I.ok.funs
theorem Inv.stack (I:Inv X pins σ H s):s.heap.FunFrames X.base X.stack:=by
 rcases I.ok.stk with e | ⟨e,hf⟩
 ·rw [e]; exact I.funs
 ·rw [e]
  obtain⟨m,hn,_⟩:=I.loc
  refine .cons (by rw [I.ok.kind]; decide) hf hn ?_ I.funs
  exact Heap.get?_none_of_le (Nat.le_trans I.ok.bsz I.ok.above)
theorem Inv.stkSub (I:Inv X pins σ H s):∀ b∈frs X.stack,b∈X.env.locals::X.fs:=fun b hb=>by
 rcases I.ok.stk with e | ⟨e,hf⟩
 ·rw [e] at hb; exact List.mem_cons_of_mem _ hb
 ·rw [e] at hb
  unfold frs at hb
  rw [List.filterMap_cons,hf] at hb
  exact hb
theorem Inv.stkFree (I:Inv X pins σ H s):∀ b∈frs X.stack,H b=none:=fun b hb=>by
 rcases List.mem_cons.mp (I.stkSub b hb) with e | hb
 ·rw [e]; exact I.free
 ·obtain⟨_,o,ho,_⟩:=I.ok.funs.mem hb
  exact I.base.free b o ho (I.ok.frf b hb) fun z=>I.ok.exfs b z hb
theorem Inv.step {g':Array GenState}{t':Nat}{d':Drawn}{ch:List Addr} (I:Inv X pins σ H s)
  (hch:∀ b∈ch,(b∈X.ex∨X.s₀.heap.objs.size≤b)∧b≠X.env.locals∧(∀ x c,X.env.cells.lookup x=some c→c≠b)∧∀ p∈X.pn++pins,p.1≠b)
  (keep:∀ b o,b≠X.env.locals→b ∉ X.fs→b ∉ ch→s.heap.get? b=some o→H b=none→h'.get? b=some o)
  (slot:∀ b o,b≠X.env.locals→b∈X.fs→b ∉ ch→s.heap.get? b=some o→H b=none→∃ sl,h'.get? b=some { o with slots:=sl }) (free:∀ b o,b ∉ ch→s.heap.get? b=some o→H b=none→H' b=none)
  (there:∀ b o,b ∉ ch→s.heap.get? b=some o→∃ o',h'.get? b=some o')
  (tups:∀ b xs,H b=some (.tup xs)→H' b=some (.tup xs)) (frzs:∀ b o u,H b=some (.frz o u)→H' b=some (.frz o u)) (tbls:∀ b ps,H b=some (.tbl ps)→∃ more,H' b=some (.tbl (ps++more)))
  (ns:∀ m,s.heap.Ns X.env.locals m→h'.Ns X.env.locals m) (hok:HOk X.prog X.w H' h') (hg:AllBare g') :
  Inv X pins σ H' { s with heap:=h',gens:=g',drawn:=d',toks:=t' }:=by
 have neL:∀ b o,X.s₀.heap.get? b=some o→b≠X.env.locals:=fun b o e=>Nat.ne_of_lt (Nat.lt_of_lt_of_le (Heap.lt_size e) I.ok.above)
 have neC:∀ b o,X.s₀.heap.get? b=some o→b ∉ X.ex→b ∉ ch:=fun b o e hx hb=>by
  rcases (hch b hb).1 with z | z
  ·exact hx z
  ·exact absurd (Nat.lt_of_lt_of_le (Heap.lt_size e) z) (Nat.lt_irrefl _)
 have cellK:∀ x c,X.env.cells.lookup x=some c→∀ v,s.heap.IsCell c v→h'.IsCell c v:=fun x c e v ⟨o,ho,hd⟩=>by
  have nch:c ∉ ch:=fun z=>(hch c z).2.2.1 x c e rfl
  by_cases hc:c∈X.fs
  ·obtain⟨sl,q⟩:=slot c o (I.cne x c e) hc nch ho (I.freeC x c e)
   exact⟨_,q,hd⟩
  ·exact⟨o,keep c o (I.cne x c e) hc nch ho (I.freeC x c e),hd⟩
 refine⟨I.ok,I.os,hg,⟨fun b o e n hb hx=>?_,fun b o e n hb hx=>?_,fun b o e n hx=>?_,fun b o e hx=>?_,fun b xs e=>tups b xs (I.base.tups b xs e),fun b o xs e=>frzs b o xs (I.base.frzs b o xs e),fun b ps e=>?_⟩,?_,fun x c e=>?_,?_,fun x c e=>?_,fun p hp=>?_,hok,I.len⟩
 ·exact keep b o (neL b o e) hb (neC b o e hx) (I.base.keep b o e n hb hx) (I.base.free b o e n hx)
 ·obtain⟨sl,e1⟩:=I.base.slot b o e n hb hx
  obtain⟨sl',e2⟩:=slot b _ (neL b o e) hb (neC b o e hx) e1 (I.base.free b o e n hx)
  exact⟨sl',e2⟩
 ·obtain⟨o',e1⟩:=I.base.there b o e hx
  exact free b o' (neC b o e hx) e1 (I.base.free b o e n hx)
 ·obtain⟨o',e1⟩:=I.base.there b o e hx
  exact there b o' (neC b o e hx) e1
 ·obtain⟨m1,e1⟩:=I.base.tbls b ps e
  obtain⟨m2,e2⟩:=tbls b _ e1
  exact⟨m1++m2,by rw [e2,Array.append_assoc]⟩
 ·obtain⟨m,hn,hl⟩:=I.loc
  refine⟨m,ns m hn,fun i x v e1 e2 e3=>?_⟩
  obtain⟨u,r,l⟩:=hl i x v e1 e2 e3
  refine⟨u,r,?_⟩
  rcases l with l | ⟨k,c,e,z⟩
  ·exact .inl l
  ·exact .inr ⟨k,c,e,cellK x c e _ z⟩
 ·obtain⟨v,z⟩:=I.cell x c e
  exact⟨v,cellK x c e v z⟩
 ·obtain⟨m,⟨o,_,_,ho,_⟩,_⟩:=I.loc
  exact free _ o (fun z=>(hch _ z).2.1 rfl) ho I.free
 ·obtain⟨v,o,ho,hd⟩:=I.cell x c e
  exact free c o (fun z=>(hch c z).2.2.1 x c e rfl) ho (I.freeC x c e)
 ·obtain⟨e,n,ne,nf,d⟩:=I.pin p hp
  have nch:p.1 ∉ ch:=fun z=>(hch p.1 z).2.2.2 p hp rfl
  exact⟨keep p.1 p.2 ne nf nch e n,free p.1 p.2 nch e n,ne,nf,d⟩
theorem Inv.un {t':Nat} (I:Inv X pins σ H s) (u:Un X.fs [] H H' s.heap h') (hok:HOk X.prog X.w H' h'):Inv X pins σ H' { s with heap:=h',toks:=t' }:=by
 obtain⟨m,⟨o,es,ep,ho,r⟩,_⟩:=id I.loc
 obtain⟨sl,hL⟩:=u.any ho I.free (by simp)
 exact I.step (g':=s.gens) (d':=s.drawn) (ch:=[]) (fun _ z=>nomatch z) (fun b o _ hb _ e n=>u.keep b o e n hb (by simp)) (fun b o _ hb _ e n=>u.slot b o e n hb (by simp)) (fun b o _ e n=>u.free b o e n (by simp)) (fun b o _ e=>u.there b o e (by simp)) u.tups u.frzs u.tbls (fun m' hm=>by
  obtain⟨o',es',ep',ho',r'⟩:=hm
  rw [ho] at ho'; cases ho'
  exact⟨_,es',ep',hL,r'⟩) hok I.bare
theorem Inv.call {g':Array GenState}{t':Nat}{d':Drawn}{ch:List Addr} (I:Inv X pins σ H s) (u:Un (frs X.stack) ch H H' s.heap h') (hok:HOk X.prog X.w H' h') (hg:AllBare g')
  (hch:∀ b∈ch,(b∈X.ex∨X.s₀.heap.objs.size≤b)∧b≠X.env.locals∧(∀ x c,X.env.cells.lookup x=some c→c≠b)∧∀ p∈X.pn++pins,p.1≠b) :
  Inv X pins σ H' { s with heap:=h',gens:=g',drawn:=d',toks:=t' }:=by
 obtain⟨m,⟨o,es,ep,ho,r⟩,_⟩:=id I.loc
 obtain⟨sl,hL⟩:=u.any ho I.free fun z=>(hch _ z).2.1 rfl
 exact I.step (ch:=ch) hch (fun b o hL hb hc e n=>u.keep b o e n (fun z=>(List.mem_cons.mp (I.stkSub b z)).elim hL hb) hc) (fun b o _ _ hc e n=>u.any e n hc) (fun b o hc e n=>u.free b o e n hc) (fun b o hc e=>u.there b o e hc) u.tups u.frzs u.tbls (fun m' hm=>by
  obtain⟨o',es',ep',ho',r'⟩:=hm
  rw [ho] at ho'; cases ho'
  exact⟨_,es',ep',hL,r'⟩) hok hg
theorem Inv.turned {t':Nat}{it:Addr} (I:Inv X pins σ H s) (k:∀ b o,b≠it→s.heap.get? b=some o→h'.get? b=some o) (hn:H it=none) (hL:it≠X.env.locals)
  (h1:it∈X.ex∨X.s₀.heap.objs.size≤it) (h2:∀ x c,X.env.cells.lookup x=some c→c≠it) (h3:∀ p∈X.pn++pins,p.1≠it):Inv X pins σ H { s with heap:=h',toks:=t' }:=by
 have nit:∀ b u,H b=some u→b≠it:=fun b u e z=>by rw [z,hn] at e; cases e
 refine I.step (g':=s.gens) (d':=s.drawn) (ch:=[it]) (fun b hb=>?_) (fun b o _ _ hc e _=>k b o (fun z=>hc (by simp [z])) e) (fun b o _ _ hc e _=>⟨o.slots,k b o (fun z=>hc (by simp [z])) e⟩) (fun _ _ _ _ n=>n)
  (fun b o hc e=>⟨o,k b o (fun z=>hc (by simp [z])) e⟩) (fun _ _ e=>e) (fun _ _ _ e=>e) (fun b ps e=>⟨#[],by rw [e]; simp⟩) (fun m hm=>?_) (fun b u e=>?_) I.bare
 ·have e:b=it:=by simpa using hb
  subst e
  exact⟨h1,hL,h2,h3⟩
 ·obtain⟨o,es,ep,ho,r⟩:=hm
  exact⟨o,es,ep,k _ o (Ne.symm hL) ho,r⟩
 ·refine (I.hok b u e).stay (fun c v hc q=>k c v ?_ q) (fun _ q=>q) fun _ _ q=>q
  rcases hc with z | z
  ·rw [z]; exact nit b u e
  ·exact nit c _ z
theorem Inv.tok (I:Inv X pins σ H s) (t:Nat):Inv X pins σ H { s with toks:=t }:=I.un (h':=s.heap) (t':=t) Un.refl I.hok
theorem Inv.kept {t':Nat} (I:Inv X pins σ H s) (k:∀ b u,s.heap.get? b=some u→h'.get? b=some u):Inv X pins σ H { s with heap:=h',toks:=t' }:=I.un (Un.kept k) (I.hok.kept k)
theorem Inv.laid {a:Addr}{o:HO}{t':Nat} (I:Inv X pins σ H s) (k:∀ b u,s.heap.get? b=some u→h'.get? b=some u) (hp:s.heap.objs.size≤a) (new:ObjOk X.prog X.w (upd H a o) h' a o) :
  Inv X pins σ (upd H a o) { s with heap:=h',toks:=t' }:=I.un (Un.laid k hp (I.hok.fresh hp)) (I.hok.laid k hp new)
theorem Inv.write {x e:Addr}{o:HO}{t':Nat} (I:Inv X pins σ H s) (mu:Mut (H x)) (he:e=x∨H e=some (.own x)) (k:∀ b u,b≠e→s.heap.get? b=some u→h'.get? b=some u) (heo:∃ u,h'.get? e=some u)
  (new:ObjOk X.prog X.w (upd H x o) h' x o):Inv X pins σ (upd H x o) { s with heap:=h',toks:=t' }:=I.un (Un.write mu he k heo) (I.hok.write mu he k heo new)
theorem Inv.pins_of {pins':List (Addr×Obj)} (I:Inv X pins σ H s) (h:∀ p∈pins',s.heap.get? p.1=some p.2∧H p.1=none∧p.1≠X.env.locals∧p.1 ∉ X.fs∧∀ v,p.2.data≠.cell v):Inv X pins' σ H s :=
 ⟨I.ok,I.os,I.bare,I.base,I.loc,I.cell,I.free,I.freeC,fun p hp=>(List.mem_append.mp hp).elim (fun z=>I.pin p (List.mem_append_left _ z)) (h p),I.hok,I.len⟩
theorem nodup_ix {N:List Str} (hN:N.Nodup) {i j:Nat}{x:Str} (a:N[i]?=some x) (b:N[j]?=some x):i=j:=by
 obtain⟨h1,e1⟩:=List.getElem?_eq_some_iff.mp a
 obtain⟨h2,e2⟩:=List.getElem?_eq_some_iff.mp b
 exact (List.getElem_inj hN).mp (e1.trans e2.symm)
theorem store_ok2 {M:Model}{A:Around}{E:Value→Shared→Prop}{i:Nat}{x:Str}{v:V}{u:Value}{Q:Unit→Shared→Prop} (I:Inv X pins σ H s) (hN:X.N.Nodup) (hi:X.N[i]?=some x) (hx:Loc X.env.scope x) (r:RelV v u)
  (h:∀ s',Inv X pins (σ.set i (some v)) H s'→(∃ a,Heap.SameBut a s.heap s'.heap∧(a=X.env.locals∨X.env.cells.lookup x=some a))→Q () s') (hf:X.fn x=true∨X.env.scope.names.lookup x=some .local:=by first | exact .inl rfl | exact .inr rfl | assumption):wpAny M A (storeName X.env x u) Q E s:=by
 obtain⟨m,hn,hl⟩:=id I.loc
 have hcls:(X.env.scope.kind == .class || (X.env.scope.kind == .module && X.env.locals != X.env.globals))=false:=by rw [I.ok.kind]; rfl
 have hiσ:i<σ.length:=by rw [I.len]; exact (List.getElem?_eq_some_iff.mp hi).1
 have cne:=I.cne
 have tracked:∀ {a:Addr}{h':Heap},(∃ o,s.heap.get? a=some o∧H a=none)→Heap.SameBut a s.heap h'→HOk X.prog X.w H h':=fun {a h'} ha hs b ob e=>by
  obtain⟨_,_,hfree⟩:=ha
  refine (I.hok b ob e).stay (fun c w' hc q=>(hs.2 c ?_).trans q) (fun _ q=>q) fun _ _ q=>q
  rintro rfl
  rcases hc with rfl | hc
  ·rw [hfree] at e; cases e
  ·rw [hfree] at hc; cases hc
 rcases hx with hk | hk
 ·refine wpAny_storeName_local hk hn (fun h' hn' hs=>?_) hcls
  obtain⟨oL,_,_,hoL,_⟩:=id hn
  refine h _ ⟨I.ok,I.os,I.bare,⟨fun b o e n hb hx=>?_,fun b o e n hb hx=>?_,I.base.free,fun b o e hx=>?_,I.base.tups,I.base.frzs,I.base.tbls⟩,⟨_,hn',fun j y v' e1 e2 e3=>?_⟩,fun y c e=>?_,I.free,I.freeC,fun p hp=>?_,tracked ⟨oL,hoL,I.free⟩ hs,by simpa using I.len⟩ ⟨_,hs,.inl rfl⟩
  ·exact (hs.2 b (Nat.ne_of_lt (Nat.lt_of_lt_of_le (Heap.lt_size e) I.ok.above))).trans (I.base.keep b o e n hb hx)
  ·obtain⟨sl,e1⟩:=I.base.slot b o e n hb hx
   exact⟨sl,(hs.2 b (Nat.ne_of_lt (Nat.lt_of_lt_of_le (Heap.lt_size e) I.ok.above))).trans e1⟩
  ·obtain⟨o',e1⟩:=I.base.there b o e hx
   exact⟨o',(hs.2 b (Nat.ne_of_lt (Nat.lt_of_lt_of_le (Heap.lt_size e) I.ok.above))).trans e1⟩
  ·by_cases hj:j=i
   ·subst hj
    rw [hi] at e1; cases e1
    rw [List.getElem?_set_self hiσ] at e2
    cases e2
    exact⟨u,r,.inl ⟨hk,by simp⟩⟩
   ·rw [List.getElem?_set_ne (Ne.symm hj)] at e2
    obtain⟨u',r',q⟩:=hl j y v' e1 e2 e3
    refine⟨u',r',?_⟩
    rcases q with⟨k,e⟩ | ⟨k,c,e,z⟩
    ·refine .inl ⟨k,?_⟩
     have:y≠x:=fun e=>hj (nodup_ix hN e1 (e ▸ hi))
     simp [this,e]
    ·exact .inr ⟨k,c,e,z.sameBut hs (cne y c e)⟩
  ·obtain⟨w',z⟩:=I.cell y c e
   exact⟨w',z.sameBut hs (cne y c e)⟩
  ·obtain⟨e,n,ne,nf,d⟩:=I.pin p hp
   exact⟨(hs.2 p.1 ne).trans e,n,ne,nf,d⟩
 ·have hfn:X.fn x=true:=by
   rcases hf with z | z
   ·exact z
   ·rw [z] at hk; cases hk
  obtain⟨c,hc⟩:=I.ok.has x (.inl hk)
  obtain⟨w',z⟩:=I.cell x c hc
  refine wpAny_storeName_cell I.ok.kind hk hc z (fun h' hc' hs=>?_)
  obtain⟨oc,hoc,hocd⟩:=id z
  refine h { s with heap:=h' } ⟨I.ok,I.os,I.bare,⟨fun b o e n hb hx=>?_,fun b o e n hb hx=>?_,I.base.free,fun b o e hx=>?_,I.base.tups,I.base.frzs,I.base.tbls⟩,⟨m,hn.sameBut hs (Ne.symm (cne x c hc)),fun j y v' e1 e2 e3=>?_⟩,fun y c' e=>?_,I.free,I.freeC,fun p hp=>?_,tracked ⟨oc,hoc,I.freeC x c hc⟩ hs,by simpa using I.len⟩ ⟨c,hs,.inr hc⟩
  ·exact (hs.2 b (Nat.ne_of_lt (Nat.lt_of_lt_of_le (Heap.lt_size e) (I.ok.cab x c hfn hc)))).trans (I.base.keep b o e n hb hx)
  ·obtain⟨sl,e1⟩:=I.base.slot b o e n hb hx
   exact⟨sl,(hs.2 b (Nat.ne_of_lt (Nat.lt_of_lt_of_le (Heap.lt_size e) (I.ok.cab x c hfn hc)))).trans e1⟩
  ·obtain⟨o',e1⟩:=I.base.there b o e hx
   exact⟨o',(hs.2 b (Nat.ne_of_lt (Nat.lt_of_lt_of_le (Heap.lt_size e) (I.ok.cab x c hfn hc)))).trans e1⟩
  ·by_cases hj:j=i
   ·subst hj
    rw [hi] at e1; cases e1
    rw [List.getElem?_set_self hiσ] at e2
    cases e2
    exact⟨u,r,.inr ⟨.inl hk,c,hc,hc'⟩⟩
   ·rw [List.getElem?_set_ne (Ne.symm hj)] at e2
    obtain⟨u',r',q⟩:=hl j y v' e1 e2 e3
    refine⟨u',r',?_⟩
    rcases q with q | ⟨k,c',e,z'⟩
    ·exact .inl q
    ·refine .inr ⟨k,c',e,z'.sameBut hs ?_⟩
     rintro rfl
     exact hj (nodup_ix hN e1 (I.ok.inj _ _ _ e hc ▸ hi))
  ·by_cases hcc:c'=c
   ·subst hcc; exact⟨_,hc'⟩
   ·obtain⟨w2,z2⟩:=I.cell y c' e
    exact⟨w2,z2.sameBut hs hcc⟩
  ·obtain⟨e,n,ne,nf,d⟩:=I.pin p hp
   refine⟨(hs.2 p.1 ?_).trans e,n,ne,nf,d⟩
   intro q
   rw [q,hoc] at e
   have q':oc=p.2:=Option.some.inj e
   exact d w' (by rw [← q']; exact hocd)
theorem store_ok {M:Model}{A:Around}{E:Value→Shared→Prop}{i:Nat}{x:Str}{v:V}{u:Value}{Q:Unit→Shared→Prop} (I:Inv X pins σ H s) (hN:X.N.Nodup) (hi:X.N[i]?=some x) (hx:Loc X.env.scope x) (r:RelV v u)
  (h:∀ s',Inv X pins (σ.set i (some v)) H s'→Q () s') (hf:X.fn x=true∨X.env.scope.names.lookup x=some .local:=by first | exact .inl rfl | exact .inr rfl | assumption):wpAny M A (storeName X.env x u) Q E s :=
 store_ok2 I hN hi hx r (fun s' I' _=>h s' I') hf
end
abbrev XK:=Value→Option Addr→Hp→Prop
abbrev St:=List (Option V)
abbrev VK:=V→Hp→Prop
abbrev TE:=St→Hp→VK→Prop
abbrev TT:=St→Hp→(Bool→Hp→Prop)→Prop
abbrev TA:=St→Hp→(List V→Hp→Prop)→Prop
structure Ends where
 nx:St→Hp→Prop
 rt:VK
 bk:St→Hp→Prop:=fun _ _=>False
 ct:St→Hp→Prop:=fun _ _=>False
abbrev TS:=Ends→St→Hp→Prop
def EP (X:Cx) (pins:List (Addr×Obj)) (σ:St) (Q:VK) (u:Value) (s':Shared):Prop:=∃ v H',Inv X pins σ H' s'∧RelV v u∧Q v H'
def TP (X:Cx) (pins:List (Addr×Obj)) (σ:St) (Q:Bool→Hp→Prop) (b:Bool) (s':Shared):Prop:=∃ H',Inv X pins σ H' s'∧Q b H'
def AP (X:Cx) (pins:List (Addr×Obj)) (σ:St) (Q:List V→Hp→Prop) (us:List Value) (s':Shared):Prop:=∃ vs H',Inv X pins σ H' s'∧Vals vs us∧Q vs H'
def SP (X:Cx) (pins:List (Addr×Obj)) (D:Ends) (f:Flow) (s':Shared):Prop :=
 match f with
 | .next=>∃ σ' H',Inv X pins σ' H' s'∧D.nx σ' H'
 | .brk=>∃ σ' H',Inv X pins σ' H' s'∧D.bk σ' H'
 | .cont=>∃ σ' H',Inv X pins σ' H' s'∧D.ct σ' H'
 | .ret u=>∃ v σ' H',Inv X pins σ' H' s'∧RelV v u∧D.rt v H'
def PE (X:Cx) (e:Expr) (t:TE):Prop :=
 ∀ (pins:List (Addr×Obj)) (s:Shared) (σ:St) (H:Hp) (Q:VK),Inv X pins σ H s→t σ H Q→wpAny (model X.prog X.w) X.A (eval e X.env) (EP X pins σ Q) X.xe s
def PT (X:Cx) (e:Expr) (t:TT):Prop :=
 ∀ (pins:List (Addr×Obj)) (s:Shared) (σ:St) (H:Hp) (Q:Bool→Hp→Prop),Inv X pins σ H s→t σ H Q→wpAny (model X.prog X.w) X.A (isTrue e X.env (eval e X.env)) (TP X pins σ Q) X.xe s
def PW (X:Cx) (e:Expr) (t:TT):Prop :=
 ∀ (whole:Sem Value) (pins:List (Addr×Obj)) (s:Shared) (σ:St) (H:Hp) (Q:Bool→Hp→Prop),Inv X pins σ H s→t σ H Q→wpAny (model X.prog X.w) X.A (isTrue e X.env whole) (TP X pins σ Q) X.xe s
theorem PW.pt {X:Cx}{e:Expr}{t:TT} (h:PW X e t):PT X e t:=h _
def PA (X:Cx) (es:List Expr) (t:TA):Prop :=
 ∀ (pos:Pos) (pins:List (Addr×Obj)) (s:Shared) (σ:St) (H:Hp) (Q:List V→Hp→Prop),Inv X pins σ H s→t σ H Q→wpAny (model X.prog X.w) X.A (spliced (backTo pos (starEach es X.env))) (AP X pins σ Q) X.xe s
def PS (X:Cx) (st:Stmt) (t:TS):Prop :=
 ∀ (pins:List (Addr×Obj)) (s:Shared) (σ:St) (H:Hp) (D:Ends),Inv X pins σ H s→t D σ H→wpAny (model X.prog X.w) X.A (exec st X.env) (SP X pins D) X.xe s
def PSs (X:Cx) (st:List Stmt) (t:TS):Prop :=
 ∀ (pins:List (Addr×Obj)) (s:Shared) (σ:St) (H:Hp) (D:Ends),Inv X pins σ H s→t D σ H→wpAny (model X.prog X.w) X.A (execs st X.env) (SP X pins D) X.xe s
theorem thn {α:Type}{t:Sem α}{Q Q':α→Shared→Prop}{M:Model}{A:Around}{E:Value→Shared→Prop}{s:Shared} (h:wpAny M A t Q E s) (hQ:∀ a s,Q a s→Q' a s):wpAny M A t Q' E s:=wpAny_mono h hQ fun _ _ x=>x
end L2
namespace L2
open PySem PySem.Spec PyProof.Rows
section
variable {X:Cx}
def tVar (i:Nat):TE:=fun σ H Q=>∃ v,σ[i]?=some (some v)∧Q v H
def tC (v:V):TE:=fun _ H Q=>Q v H
theorem pe_var {i:Nat}{x:Str}{pos:Pos} (hN:X.N[i]?=some x) (hv:Vis X.env.scope x) (hd:(x == ("__debug__":Str))=false:=by decide) (hcd:(x == ("__classdict__":Str))=false:=by decide):PE X (.Name x pos) (tVar i):=by
 intro pins s σ H Q I h
 obtain⟨v,e,h⟩:=h
 obtain⟨m,hn,hl⟩:=I.loc
 obtain⟨u,r,l⟩:=hl i x v hN e hv
 have fin:EP X pins σ Q u s:=⟨v,H,I,r,h⟩
 rcases l with⟨hk,hm⟩ | ⟨hk,c,hc,hcell⟩
 ·exact wpAny_Name (wpAny_loadName_local I.ok.kind hk hn hm fin) hd
 ·rcases hk with hk | hk
  ·exact wpAny_Name (wpAny_loadName_cell I.ok.kind hk hc hcell fin) hd
  ·exact wpAny_Name (wpAny_loadName_free I.ok.kind hk hc hcell fin hcd) hd
theorem pe_int {i j pos}:PE X (.Constant (.int i) j pos) (tC (.int i)):=fun _ _ _ H _ I h=>wpAny_Constant_int ⟨.int i,H,I.tok _,⟨_,rfl⟩,h⟩
theorem pe_bl {b j pos}:PE X (.Constant (.bool b) j pos) (tC (.bl b)):=fun _ _ _ H _ I h=>Constant_bool ⟨.bl b,H,I,rfl,h⟩
theorem pe_non {j pos}:PE X (.Constant .none j pos) (tC .non):=fun _ _ _ H _ I h=>Constant_none ⟨.non,H,I,rfl,h⟩
theorem pe_str {x j pos}:PE X (.Constant (.str x) j pos) (tC (.str x)):=fun _ _ _ H _ I h=>Calls.Constant_str ⟨.str x,H,I.tok _,⟨_,rfl⟩,h⟩
def Gl (X:Cx) (x:Str):Prop:=X.env.kindOf x=some .globalImplicit
theorem ld_glob {E:Value→Shared→Prop}{pins:List (Addr×Obj)}{s:Shared}{σ:St}{H:Hp}{x:Str}{u:Value}{pos:Pos}{Q:Value→Shared→Prop} (I:Inv X pins σ H s) (hg:Gl X x) (hm:X.mg x=some u) (h:Q u s)
  (hd:(x == ("__debug__":Str))=false:=by decide):wpAny (model X.prog X.w) X.A (eval (.Name x pos) X.env) Q E s :=
 Calls.Name_function_global I.ok.kind hg (Calls.loadGlobal_global (by rw [I.ok.glob]; exact I.mod.glob.keeps I.bk) hm h) hd
theorem ld_blt {E:Value→Shared→Prop}{pins:List (Addr×Obj)}{s:Shared}{σ:St}{H:Hp}{x:Str}{u:Value}{pos:Pos}{Q:Value→Shared→Prop} (I:Inv X pins σ H s) (hg:Gl X x) (hm:X.mg x=none) (hv:bootBuiltins x=some u) (h:Q u s)
  (hn:x≠"__name__":=by decide) (hd:(x == ("__debug__":Str))=false:=by decide):wpAny (model X.prog X.w) X.A (eval (.Name x pos) X.env) Q E s:=by
 obtain⟨mb,h1,h2⟩:=I.mod.blt
 exact Calls.Name_function_global I.ok.kind hg (Calls.loadGlobal_builtin (by rw [I.ok.glob]; exact I.mod.glob.keeps I.bk) hm (by rw [I.ok.blt]; exact h1.keeps I.bk) ((h2 x hn).trans hv) h) hd
theorem pe_glob {x:Str}{v:V}{u:Value}{pos:Pos} (hg:Gl X x) (hm:X.mg x=some u) (r:RelV v u) (hd:(x == ("__debug__":Str))=false:=by decide):PE X (.Name x pos) (tC v) :=
 fun _ _ _ H _ I h=>ld_glob I hg hm ⟨v,H,I,r,h⟩ hd
theorem pe_bltn {x:Str}{v:V}{u:Value}{pos:Pos} (hg:Gl X x) (hm:X.mg x=none) (hv:bootBuiltins x=some u) (r:RelV v u) (hn:x≠"__name__":=by decide) (hd:(x == ("__debug__":Str))=false:=by decide):PE X (.Name x pos) (tC v) :=
 fun _ _ _ H _ I h=>ld_blt I hg hm hv ⟨v,H,I,r,h⟩ hn hd
variable {a b:Expr}{ta tb:TE}{pos:Pos}
def tB (t:TE):TT:=fun σ H Q=>t σ H fun x H1=>∃ c,x=.bl c∧Q c H1
theorem pt_val {e:Expr}{t:TE} (h:PE X e t) (he:∀ whole,isTrue e X.env whole=(do let v ← whole; standAt e.pos; holding [v] (truthy v)):=by intro _; rfl):PT X e (tB t):=by
 intro pins s σ H Q I hw
 refine isTrue_plain (thn (h pins s σ H _ I hw) fun v s1 ⟨x,H1,I1,r1,q1⟩=>?_) (he _)
 obtain⟨d,rfl,q⟩:=q1
 cases r1
 exact wpAny_truthy_bool ⟨H1,I1,q⟩
variable {tA tB':TT}{rest:List Expr}
def tAnd (t u:TT):TT:=fun σ H Q=>t σ H fun c H1=>if c=true then u σ H1 Q else Q false H1
def tOr (t u:TT):TT:=fun σ H Q=>t σ H fun c H1=>if c=true then Q true H1 else u σ H1 Q
def tNot (t:TT):TT:=fun σ H Q=>t σ H fun c H1=>Q (!c) H1
theorem pw_and1 (ha:PT X a tA):PW X (.BoolOp .And [a] pos) tA:=by
 intro wh pins s σ H Q I h
 refine isTrue_and (thn (ha pins s σ H Q I h) fun c s1 e=>?_)
 cases c with
 | true=>exact isTrue_and_nil e
 | false=>exact e
theorem pw_or1 (ha:PT X a tA):PW X (.BoolOp .Or [a] pos) tA:=by
 intro wh pins s σ H Q I h
 refine isTrue_or (thn (ha pins s σ H Q I h) fun c s1 e=>?_)
 cases c with
 | false=>exact isTrue_or_nil e
 | true=>exact e
theorem pw_and (ha:PT X a tA) (hb:PW X (.BoolOp .And (b::rest) pos) tB'):PW X (.BoolOp .And (a::b::rest) pos) (tAnd tA tB'):=by
 intro wh pins s σ H Q I h
 refine isTrue_and (thn (ha pins s σ H _ I h) fun c s1 ⟨H1,I1,q1⟩=>?_)
 cases c with
 | true=>exact hb wh pins s1 σ H1 Q I1 q1
 | false=>exact⟨H1,I1,q1⟩
theorem pw_or (ha:PT X a tA) (hb:PW X (.BoolOp .Or (b::rest) pos) tB'):PW X (.BoolOp .Or (a::b::rest) pos) (tOr tA tB'):=by
 intro wh pins s σ H Q I h
 refine isTrue_or (thn (ha pins s σ H _ I h) fun c s1 ⟨H1,I1,q1⟩=>?_)
 cases c with
 | true=>exact⟨H1,I1,q1⟩
 | false=>exact hb wh pins s1 σ H1 Q I1 q1
theorem pt_not (ha:PT X a tA):PT X (.UnaryOp .Not a pos) (tNot tA):=by
 intro pins s σ H Q I h
 exact isTrue_not (ha pins s σ H (fun c H1=>Q (!c) H1) I h)
def tAndV (ta tb:TE):TE:=fun σ H Q=>ta σ H fun x H1=>∃ c,x=.bl c∧if c=true then tb σ H1 Q else Q (.bl false) H1
def tOrV (ta tb:TE):TE:=fun σ H Q=>ta σ H fun x H1=>∃ c,x=.bl c∧if c=true then Q (.bl true) H1 else tb σ H1 Q
def tNotV (ta:TE):TE:=fun σ H Q=>ta σ H fun x H1=>∃ c,x=.bl c∧Q (.bl (!c)) H1
theorem pe_one {op}{t:TE} (h:PE X a t):PE X (.BoolOp op [a] pos) t:=fun pins s σ H Q I hw=>BoolOp_one (h pins s σ H Q I hw)
theorem pe_and (ha:PE X a ta) (hb:PE X (.BoolOp .And (b::rest) pos) tb):PE X (.BoolOp .And (a::b::rest) pos) (tAndV ta tb):=by
 intro pins s σ H Q I h
 refine BoolOp_and (thn (ha pins s σ H _ I h) fun v s1 ⟨x,H1,I1,r1,q1⟩=>?_)
 obtain⟨c,rfl,q1⟩:=q1
 cases r1
 refine wpAny_truthy_bool ?_
 cases c with
 | true=>exact hb pins s1 σ H1 Q I1 q1
 | false=>exact⟨.bl false,H1,I1,rfl,q1⟩
theorem pe_or (ha:PE X a ta) (hb:PE X (.BoolOp .Or (b::rest) pos) tb):PE X (.BoolOp .Or (a::b::rest) pos) (tOrV ta tb):=by
 intro pins s σ H Q I h
 refine BoolOp_or (thn (ha pins s σ H _ I h) fun v s1 ⟨x,H1,I1,r1,q1⟩=>?_)
 obtain⟨c,rfl,q1⟩:=q1
 cases r1
 refine wpAny_truthy_bool ?_
 cases c with
 | false=>exact hb pins s1 σ H1 Q I1 q1
 | true=>exact⟨.bl true,H1,I1,rfl,q1⟩
theorem pe_not (ha:PE X a ta):PE X (.UnaryOp .Not a pos) (tNotV ta):=by
 intro pins s σ H Q I h
 refine UnaryOp_ (thn (ha pins s σ H _ I h) fun v s1 ⟨x,H1,I1,r1,q1⟩=>?_)
 obtain⟨c,rfl,q1⟩:=q1
 cases r1
 exact not_of (wpAny_truthy_bool ⟨.bl (!c),H1,I1,rfl,q1⟩)
def tIf (t:TT) (ta tb:TE):TE:=fun σ H Q=>t σ H fun c H1=>if c=true then ta σ H1 Q else tb σ H1 Q
theorem pe_ifExp {c:Expr} (hc:PT X c tA) (ha:PE X a ta) (hb:PE X b tb):PE X (.IfExp c a b pos) (tIf tA ta tb):=by
 intro pins s σ H Q I h
 refine wpAny_IfExp (thn (hc pins s σ H _ I h) fun d s1 ⟨H1,I1,q1⟩=>?_)
 cases d with
 | true=>exact ha pins s1 σ H1 Q I1 q1
 | false=>exact hb pins s1 σ H1 Q I1 q1
end
end L2
namespace L2
open PySem PySem.Spec PyProof.Rows
def SqL (K:PySem.W.Frag) (H:Hp) (a:Addr) (xs:List V):Prop :=
 Rd H a (.lst xs) ∨
  ∃ (o:Obj) (its:Array Value) (n:Nat),K.lookup a=some o∧o.cls=.type "list"∧o.dict=none∧o.data=.seq its n∧its.size≤sizeLine∧Vals xs its.toList
def SqT (K:PySem.W.Frag) (H:Hp) (a:Addr) (xs:List V):Prop :=
 Rd H a (.tup xs) ∨
  ∃ (o:Obj) (its:Array Value) (n:Nat),K.lookup a=some o∧o.cls=.type "tuple"∧o.data=.seq its n∧its.size≤sizeLine∧Vals xs its.toList
def absV:Value→Option V
 | .none=>some .non
 | .bool b=>some (.bl b)
 | .int i _=>some (.int i)
 | .str x _=>some (.str x)
 | .bytes b _=>some (.byt b)
 | .float b _=>some (.flt b)
 | .ref a=>some (.ref a)
 | .type n=>some (.ty n)
 | _=>none
theorem RelV.abs {x:V}{u:Value} (r:RelV x u):absV u=some x:=by
 cases x with
 | non=>cases r; rfl
 | bl _=>cases r; rfl
 | int _=>obtain⟨t,rfl⟩:=r; rfl
 | str _=>obtain⟨t,rfl⟩:=r; rfl
 | byt _=>obtain⟨t,rfl⟩:=r; rfl
 | flt _=>obtain⟨t,rfl⟩:=r; rfl
 | ref _=>cases r; rfl
 | ty _=>cases r; rfl
theorem RelV.inj {x y:V}{u:Value} (r:RelV x u) (q:RelV y u):x=y:=Option.some.inj (r.abs.symm.trans q.abs)
theorem Vals.inj:∀ {xs ys:List V}{us:List Value},Vals xs us→Vals ys us→xs=ys
 | _,_,_,.nil,.nil=>rfl
 | _,_,_,.cons r t,.cons r' t'=>by rw [r.inj r',Vals.inj t t']
section
variable {X:Cx}{pins:List (Addr×Obj)}{σ:St}{H:Hp}{s:Shared}{a:Addr}{xs ys:List V}
theorem SqL.of {K:PySem.W.Frag} (h:H a=some (.lst xs)):SqL K H a xs:=.inl (.inl h)
theorem SqT.of {K:PySem.W.Frag} (h:H a=some (.tup xs)):SqT K H a xs:=.inl (.inl h)
theorem Inv.list (I:Inv X pins σ H s) (h:SqL X.K H a xs):∃ its:List Value,Vals xs its∧PlainL s.heap a its.toArray∧xs.length≤sizeLine:=by
 rcases h with h | ⟨o,its,n,hk,hc,hd,hs,hz,r⟩
 ·obtain⟨z,its,n,r,e⟩:=h.ok I.hok
  exact⟨its,r,⟨_,n,e,rfl,rfl,rfl⟩,z⟩
 ·refine⟨its.toList,r,⟨o,n,I.kIn a o hk,hc,hd,by simpa using hs⟩,?_⟩
  have e:=r.length
  simp only [Array.length_toList] at e
  lia
theorem Inv.tuple (I:Inv X pins σ H s) (h:SqT X.K H a xs):∃ its:List Value,Vals xs its∧IsTup s.heap a its.toArray∧xs.length≤sizeLine:=by
 rcases h with h | ⟨o,its,n,hk,hc,hs,hz,r⟩
 ·obtain⟨z,its,r,p⟩:=h.ok I.hok
  exact⟨its,r,p,z⟩
 ·refine⟨its.toList,r,⟨o,I.kIn a o hk,hc,n,by simpa using hs⟩,?_⟩
  have e:=r.length
  simp only [Array.length_toList] at e
  lia
theorem Inv.list_inj (I:Inv X pins σ H s) (h:SqL X.K H a xs) (h':SqL X.K H a ys):xs=ys:=by
 obtain⟨its,r,⟨o,n,e,_,_,d⟩,_⟩:=I.list h
 obtain⟨its',r',⟨o',n',e',_,_,d'⟩,_⟩:=I.list h'
 rw [e] at e'; cases e'
 rw [d] at d'
 injection d' with d1 _
 have:its=its':=by simpa using congrArg Array.toList d1
 subst this
 exact r.inj r'
theorem Inv.tuple_inj (I:Inv X pins σ H s) (h:SqT X.K H a xs) (h':SqT X.K H a ys):xs=ys:=by
 obtain⟨its,r,⟨o,e,_,n,d⟩,_⟩:=I.tuple h
 obtain⟨its',r',⟨o',e',_,n',d'⟩,_⟩:=I.tuple h'
 rw [e] at e'; cases e'
 rw [d] at d'
 injection d' with d1 _
 have:its=its':=by simpa using congrArg Array.toList d1
 subst this
 exact r.inj r'
end
abbrev Cx.wish (X:Cx) (E:Value→Shared→Prop):Cx:={ X with xe:=E }
abbrev Cx.nox (X:Cx):Cx:=X.wish fun _ _=>False
theorem Cx.Ok.wish {X:Cx} (ok:X.Ok) (E:Value→Shared→Prop):(X.wish E).Ok :=
 ⟨ok.mod,ok.kind,ok.glob,ok.blt,ok.above,ok.inj,ok.has,ok.cab,ok.hd,ok.frames,ok.stk,ok.exf,ok.bs,ok.bsz,ok.noex,ok.exfs,ok.funs,ok.frf⟩
theorem Cx.Ok.unwish {X:Cx}{E:Value→Shared→Prop} (ok:(X.wish E).Ok):X.Ok :=
 ⟨ok.mod,ok.kind,ok.glob,ok.blt,ok.above,ok.inj,ok.has,ok.cab,ok.hd,ok.frames,ok.stk,ok.exf,ok.bs,ok.bsz,ok.noex,ok.exfs,ok.funs,ok.frf⟩
section
variable {X:Cx}{pins:List (Addr×Obj)}{σ:St}{H:Hp}{s:Shared}{E:Value→Shared→Prop}
theorem Inv.wish (I:Inv X pins σ H s) (E:Value→Shared→Prop):Inv (X.wish E) pins σ H s:=⟨I.ok.wish E,I.os,I.bare,I.base,I.loc,I.cell,I.free,I.freeC,I.pin,I.hok,I.len⟩
theorem Inv.unwish (I:Inv (X.wish E) pins σ H s):Inv X pins σ H s:=⟨I.ok.unwish,I.os,I.bare,I.base,I.loc,I.cell,I.free,I.freeC,I.pin,I.hok,I.len⟩
theorem SP.unwish {D:Ends}{f:Flow}{s':Shared} (h:SP (X.wish E) pins D f s'):SP X pins D f s':=by
 cases f with
 | next=>obtain⟨σ',H',I,q⟩:=h; exact⟨σ',H',I.unwish,q⟩
 | brk=>obtain⟨σ',H',I,q⟩:=h; exact⟨σ',H',I.unwish,q⟩
 | cont=>obtain⟨σ',H',I,q⟩:=h; exact⟨σ',H',I.unwish,q⟩
 | ret u=>obtain⟨v,σ',H',I,r,q⟩:=h; exact⟨v,σ',H',I.unwish,r,q⟩
theorem PSs.nox {st:List Stmt}{t:TS} (h:PSs X.nox st t):PSs X st t:=fun pins s σ H D I hw =>
 wpAny_mono (h pins s σ H D (I.wish _) hw) (fun _ _ q=>q.unwish) fun _ _ z=>False.elim z
end
section
variable {X:Cx}{st:Stmt}{rest:List Stmt}{t u:TS}{e:Expr}{te:TE}{pos:Pos}
def tNext:TS:=fun D σ H=>D.nx σ H
def tSeq (t u:TS):TS:=fun D σ H=>t { D with nx:=u D } σ H
theorem pss_nil:PSs X [] tNext:=fun _ _ σ H _ I h=>wpAny_execs_nil ⟨σ,H,I,h⟩
theorem pss_cons (h1:PS X st t) (h2:PSs X rest u):PSs X (st::rest) (tSeq t u):=by
 intro pins s σ H D I h
 refine wpAny_execs_cons (thn (h1 pins s σ H { D with nx:=u D } I h) fun f s1 q=>?_)
 cases f with
 | next =>
  obtain⟨σ',H',I',q⟩:=q
  exact h2 pins s1 σ' H' D I' q
 | ret v=>exact q
 | brk=>exact q
 | cont=>exact q
theorem pss_one (h1:PS X st t):PSs X [st] t:=by
 intro pins s σ H D I h
 refine wpAny_execs_cons (thn (h1 pins s σ H D I h) fun f s1 q=>?_)
 cases f with
 | next=>exact wpAny_execs_nil q
 | ret v=>exact q
 | brk=>exact q
 | cont=>exact q
def tCont:TS:=fun D σ H=>D.ct σ H
theorem ps_pass:PS X (.Pass pos) tNext:=fun _ _ σ H _ I h=>wpAny_Pass ⟨σ,H,I,h⟩
theorem ps_continue:PS X (.Continue pos) tCont:=fun _ _ σ H _ I h=>wpAny_Continue ⟨σ,H,I,h⟩
theorem Inv.quiet {pins:List (Addr×Obj)}{σ:St}{H:Hp}{s:Shared} (I:Inv X pins σ H s):interactive X.env=false:=by simp [interactive,I.ok.kind]
def tDrop (te:TE):TS:=fun D σ H=>te σ H fun _ H1=>D.nx σ H1
theorem ps_expr (he:PE X e te) (hs:swapsWith e none pos.line X.env=pure false:=by rfl):PS X (.Expr e pos) (tDrop te):=by
 intro pins s σ H D I h
 exact wpAny_Expr_any (thn (he pins s σ H _ I h) fun v s1 ⟨x,H1,I1,r1,q1⟩=>⟨σ,H1,I1,q1⟩) I.quiet hs
def tRet (te:TE):TS:=fun D σ H=>te σ H D.rt
theorem ps_ret (he:PE X e te):PS X (.Return (some e) pos) (tRet te):=by
 intro pins s σ H D I h
 exact wpAny_Return_some (thn (he pins s σ H _ I h) fun v s1 ⟨x,H1,I1,r1,q1⟩=>⟨x,σ,H1,I1,r1,q1⟩)
def tRetN:TS:=fun D _ H=>D.rt .non H
theorem ps_retN:PS X (.Return none pos) tRetN:=fun _ _ σ H _ I h=>wpAny_Return_none ⟨.non,σ,H,I,rfl,h⟩
def tIfS (c:TT) (t u:TS):TS:=fun D σ H=>c σ H fun b H1=>if b=true then t D σ H1 else u D σ H1
theorem ps_if {c:Expr}{a b:List Stmt}{tc:TT} (hc:PT X c tc) (ha:PSs X a t) (hb:PSs X b u):PS X (.If c a b pos) (tIfS tc t u):=by
 intro pins s σ H D I h
 refine wpAny_If (thn (hc pins s σ H _ I h) fun d s1 ⟨H1,I1,q1⟩=>?_)
 cases d with
 | true=>exact ha pins s1 σ H1 D I1 q1
 | false=>exact hb pins s1 σ H1 D I1 q1
def tNever:TS:=fun _ _ _=>False
theorem ps_never:PS X st tNever:=fun _ _ _ _ _ _ h=>h.elim
end
abbrev TG:=V→St→Hp→(St→Hp→Prop)→Prop
def PG (X:Cx) (target:Expr) (t:TG):Prop :=
 ∀ (pins:List (Addr×Obj)) (s:Shared) (σ:St) (H:Hp) (v:V) (u:Value) (Q:St→Hp→Prop),Inv X pins σ H s→RelV v u→t v σ H Q →
  wpAny (model X.prog X.w) X.A (assign target X.env u) (fun _ s'=>∃ σ' H',Inv X pins σ' H' s'∧Q σ' H') X.xe s
abbrev TSet:=V→V→V→Hp→(Hp→Prop)→Prop
def PSet (X:Cx) (t:TSet):Prop :=
 ∀ (pins:List (Addr×Obj)) (s:Shared) (σ:St) (H:Hp) (o i v:V) (ov iv u:Value) (Q:Hp→Prop),Inv X pins σ H s→RelV o ov→RelV i iv→RelV v u→t o i v H Q →
  wpAny (model X.prog X.w) X.A (setItem ov iv u) (fun _ s'=>∃ H',Inv X pins σ H' s'∧Q H') X.xe s
abbrev TIp:=V→V→Hp→VK→Prop
def PIp (X:Cx) (op:Operator) (t:TIp):Prop :=
 ∀ (pins:List (Addr×Obj)) (s:Shared) (σ:St) (H:Hp) (x y:V) (v u:Value) (Q:VK),Inv X pins σ H s→RelV x v→RelV y u→t x y H Q →
  wpAny (model X.prog X.w) X.A (inplaceOp op v u) (EP X pins σ Q) X.xe s
section
variable {X:Cx}{pos:Pos}
def gName (i:Nat):TG:=fun v σ H Q=>Q (σ.set i (some v)) H
theorem pg_name {i:Nat}{x:Str} (hN:X.N.Nodup) (hi:X.N[i]?=some x) (hx:Loc X.env.scope x) (hf:X.fn x=true∨X.env.scope.names.lookup x=some .local:=by first | exact .inl rfl | exact .inr rfl | assumption):PG X (.Name x pos) (gName i):=by
 intro pins s σ H v u Q I r h
 exact wpAny_assign_Name (store_ok I hN hi hx r (fun s' I'=>⟨_,H,I',h⟩) hf)
def gSub (to ti:TE) (t:TSet):TG:=fun v σ H Q=>to σ H fun o H1=>ti σ H1 fun i H2=>t o i v H2 fun H3=>Q σ H3
theorem pg_sub {o i:Expr}{to ti:TE}{t:TSet} (ho:PE X o to) (hi:PE X i ti) (hs:PSet X t)
  (ha:∀ v,assign (.Subscript o i pos) X.env v=(do
   let ov ← holding [v] (eval o X.env)
   let iv ← holding [v,ov] (eval i X.env)
   standAt pos
   holding [v,ov,iv] (setItem ov iv v)
   release [v,ov,iv] []):=by intro _; rfl):PG X (.Subscript o i pos) (gSub to ti t):=by
 intro pins s σ H v u Q I r h
 rw [ha]
 refine wpAny_bind (wpAny_holding (thn (ho pins s σ H _ I h) fun ov s1 ⟨x,H1,I1,r1,q1⟩=>?_))
 refine wpAny_bind (wpAny_holding (thn (hi pins s1 σ H1 _ I1 q1) fun iv s2 ⟨y,H2,I2,r2,q2⟩=>?_))
 refine wpAny_bind (wpAny_standAt (wpAny_bind (wpAny_holding (thn (hs pins s2 σ H2 x y v ov iv u _ I2 r1 r2 r q2) fun _ s3 ⟨H3,I3,q3⟩=>?_))))
 exact wpAny_release ⟨σ,H3,I3,q3⟩
def tAsg (te:TE) (g:TG):TS:=fun D σ H=>te σ H fun x H1=>g x σ H1 D.nx
theorem ps_asg {tg e:Expr}{te:TE}{g:TG} (he:PE X e te) (hg:PG X tg g) (hs:swapsWithSole [tg] e pos.line X.env=pure false:=by rfl) (hw:swappedStores [tg] e X.env=pure none:=by rfl)
  (h1:(assignEach [tg] X.env).map (·.2)=[assign tg X.env]:=by rfl):PS X (.Assign [tg] e pos) (tAsg te g):=by
 intro pins s σ H D I h
 refine wpAny_Assign_stores (thn (he pins s σ H _ I h) fun v s1 ⟨x,H1,I1,r1,q1⟩=>?_) hs hw
 rw [h1]
 exact thn (hg pins s1 σ H1 x v _ I1 r1 q1) fun _ s2 q=>q
theorem ps_set {i:Nat}{x:Str}{e:Expr}{te:TE}{pos':Pos} (hN:X.N.Nodup) (hi:X.N[i]?=some x) (hx:Loc X.env.scope x) (he:PE X e te) (hs:swapsWith e (some (.Name x pos')) pos.line X.env=pure false:=by rfl) (hf:X.fn x=true∨X.env.scope.names.lookup x=some .local:=by first | exact .inl rfl | exact .inr rfl | assumption) :
  PS X (.Assign [.Name x pos'] e pos) (tAsg te (gName i)):=by
 intro pins s σ H D I h
 refine wpAny_Assign_Name (thn (he pins s σ H _ I h) fun v s1 ⟨y,H1,I1,r1,q1⟩=>?_) hs
 exact store_ok I1 hN hi hx r1 (fun s2 I2=>⟨_,H1,I2,q1⟩) hf
def tAug (i:Nat) (te:TE) (ti:TIp):TS:=fun D σ H=>∃ x,σ[i]?=some (some x)∧te σ H fun y H1=>ti x y H1 fun z H2=>D.nx (σ.set i (some z)) H2
theorem ps_aug {i:Nat}{x:Str}{e:Expr}{te:TE}{op:Operator}{ti:TIp}{pos':Pos} (hN:X.N.Nodup) (hi:X.N[i]?=some x) (hx:Loc X.env.scope x) (he:PE X e te) (ho:PIp X op ti) (hf:X.fn x=true∨X.env.scope.names.lookup x=some .local:=by first | exact .inl rfl | exact .inr rfl | assumption) :
  PS X (.AugAssign (.Name x pos') op e pos) (tAug i te ti):=by
 intro pins s σ H D I h
 obtain⟨v,e1,h⟩:=h
 obtain⟨m,hn,hl⟩:=I.loc
 have vis:Vis X.env.scope x:=by rcases hx with k | k; exact .inl k; exact .inr (.inl k)
 obtain⟨u,r,l⟩:=hl i x v hi e1 vis
 refine wpAny_AugAssign_Name ?_
 have go:wpAny (model X.prog X.w) X.A (eval e X.env) (fun w s₂=>wpAny (model X.prog X.w) X.A (inplaceOp op u w) (fun r s₃=>wpAny (model X.prog X.w) X.A (storeName X.env x r) (fun _=>SP X pins D .next) X.xe s₃) X.xe s₂) X.xe s:=by
  refine thn (he pins s σ H _ I h) fun w s1 ⟨y,H1,I1,r1,q1⟩=>?_
  refine thn (ho pins s1 σ H1 v y u w _ I1 r r1 q1) fun z s2 ⟨zv,H2,I2,r2,q2⟩=>?_
  exact store_ok I2 hN hi hx r2 (fun s3 I3=>⟨_,H2,I3,q2⟩) hf
 rcases l with⟨hk,hm⟩ | ⟨hk,c,hc,hcell⟩
 ·exact wpAny_loadName_local I.ok.kind hk hn hm go
 ·rcases hk with hk | hk
  ·exact wpAny_loadName_cell I.ok.kind hk hc hcell go
  ·rcases hx with k | k
   ·have:X.env.scope.names.lookup x=some .free:=hk
    rw [k] at this; cases this
   ·have:X.env.scope.names.lookup x=some .free:=hk
    rw [k] at this; cases this
def tAugS (to ti te:TE) (tget:V→V→Hp→VK→Prop) (tip:TIp) (tset:TSet):TS:=fun D σ H=>to σ H fun o H1=>ti σ H1 fun i H2=>tget o i H2 fun x H3=>te σ H3 fun y H4=>tip x y H4 fun z H5=>tset o i z H5 fun H6=>D.nx σ H6
def PGet (X:Cx) (t:V→V→Hp→VK→Prop):Prop :=
 ∀ (pins:List (Addr×Obj)) (s:Shared) (σ:St) (H:Hp) (o i:V) (ov iv:Value) (Q:VK),Inv X pins σ H s→RelV o ov→RelV i iv→t o i H Q →
  wpAny (model X.prog X.w) X.A (getItem ov iv) (EP X pins σ Q) X.xe s
theorem ps_augS {o i e:Expr}{to ti te:TE}{tget:V→V→Hp→VK→Prop}{tip:TIp}{tset:TSet}{op:Operator}{tpos:Pos} (ho:PE X o to) (hi:PE X i ti) (hg:PGet X tget) (he:PE X e te) (hp:PIp X op tip) (hs:PSet X tset)
  (ha:∀ ov iv new,augStore i ov iv new=(do holding [new,ov,iv] (setItem ov iv new); release [new,ov,iv] []; pure .next):=by intros; rfl):PS X (.AugAssign (.Subscript o i tpos) op e pos) (tAugS to ti te tget tip tset):=by
 intro pins s σ H D I h
 refine wpAny_AugAssign_SubscriptAny (thn (ho pins s σ H _ I h) fun ov s1 ⟨x1,H1,I1,r1,q1⟩=>?_) ha
 refine thn (hi pins s1 σ H1 _ I1 q1) fun iv s2 ⟨x2,H2,I2,r2,q2⟩=>?_
 refine thn (hg pins s2 σ H2 x1 x2 ov iv _ I2 r1 r2 q2) fun old s3 ⟨x3,H3,I3,r3,q3⟩=>?_
 refine thn (he pins s3 σ H3 _ I3 q3) fun v s4 ⟨x4,H4,I4,r4,q4⟩=>?_
 refine thn (hp pins s4 σ H4 x3 x4 old v _ I4 r3 r4 q4) fun new s5 ⟨x5,H5,I5,r5,q5⟩=>?_
 exact thn (hs pins s5 σ H5 x1 x2 x5 ov iv new _ I5 r1 r2 r5 q5) fun _ s6 ⟨H6,I6,q6⟩=>⟨σ,H6,I6,q6⟩
def ipI (f:Int→Int→Int):TIp:=fun x y H Q=>∃ i j,x=.int i∧y=.int j∧Q (.int (f i j)) H
theorem ip_add:PIp X .Add (ipI fun i j=>i+j):=by
 intro pins s σ H x y v u Q I r1 r2 h
 obtain⟨i,j,e1,e2,q⟩:=h
 subst e1; subst e2
 obtain⟨t,rfl⟩:=r1
 obtain⟨t',rfl⟩:=r2
 exact iadd_int ⟨.int _,H,I.tok _,⟨_,rfl⟩,q⟩
end
section
variable {X:Cx}{pos:Pos}
def tWhile (c:TT) (tb:TS):TS:=fun D σ H=>∃ W:Nat→St→Hp→Prop,(∃ m,W m σ H)∧∀ m σ H,W m σ H →
 c σ H fun b H1=>if b=true then ∃ N:St→Hp→Prop,(∀ σ' H',N σ' H'→∃ m',m'<m∧W m' σ' H')∧tb { D with nx:=N,ct:=N,bk:=D.nx } σ H1 else D.nx σ H1
theorem ps_while {c:Expr}{body:List Stmt}{tc:TT}{tb:TS} (hp:PassesOwn (model X.prog X.w) X.A X.env X.xe) (hc:PT X c tc) (hb:PSs X body tb):PS X (.While c body [] pos) (tWhile tc tb):=by
 intro pins s σ H D I h
 obtain⟨W,⟨m0,w0⟩,turn⟩:=h
 refine wpAny_While (codeAny_whileLoop (fun n s'=>∃ σ' H',Inv X pins σ' H' s'∧W n σ' H') ?_ m0 ⟨σ,H,I,w0⟩)
 rintro n s1 ⟨σ1,H1,I1,w1⟩
 refine wpAny_passesOwn hp (thn (hc pins s1 σ1 H1 _ I1 (turn n σ1 H1 w1)) fun b s2 ⟨H2,I2,q2⟩=>?_)
 cases b with
 | true =>
  obtain⟨N,hN,q2⟩:=q2
  rw [if_pos rfl]
  refine wpAny_passesOwn hp (thn (hb pins s2 σ1 H2 _ I2 q2) fun f s3 q3=>?_)
  cases f with
  | next =>
   obtain⟨σ3,H3,I3,n3⟩:=q3
   obtain⟨m',hm,w3⟩:=hN σ3 H3 n3
   exact⟨m',hm,σ3,H3,I3,w3⟩
  | cont =>
   obtain⟨σ3,H3,I3,n3⟩:=q3
   obtain⟨m',hm,w3⟩:=hN σ3 H3 n3
   exact⟨m',hm,σ3,H3,I3,w3⟩
  | brk=>exact q3
  | ret v=>exact q3
 | false =>
  rw [if_neg Bool.false_ne_true]
  exact wpAny_execs_nil ⟨σ1,H2,I2,q2⟩
end
structure It where
 go:Nat→Hp→Prop
 yld:Nat→Hp→V→Hp→Prop
 stop:Nat→Hp→Prop
def FpOk (X:Cx) (pins:List (Addr×Obj)) (H:Hp) (b:Addr):Prop :=
 H b=none∧b≠X.env.locals∧b ∉ X.fs∧(b∈X.ex∨X.s₀.heap.objs.size≤b)∧(∀ x c,X.env.cells.lookup x=some c→c≠b)∧∀ p∈X.pn++pins,p.1≠b
theorem Inv.fpOk {X:Cx}{pins:List (Addr×Obj)}{σ:St}{H H':Hp}{s:Shared}{b:Addr} (I:Inv X pins σ H s) (hb:s.heap.objs.size≤b) (hn:H' b=none):FpOk X pins H' b:=by
 refine⟨hn,Nat.ne_of_gt (Nat.lt_of_lt_of_le I.lt hb),I.nofs hb,.inr (Nat.le_trans I.sz hb),fun x c e z=>?_,fun p hp z=>?_⟩
 ·obtain⟨v,q⟩:=I.cell x c e
  exact absurd (Nat.lt_of_lt_of_le q.lt (by rw [z]; exact hb)) (Nat.lt_irrefl _)
 ·exact absurd (Nat.lt_of_lt_of_le (Heap.lt_size (I.pin p hp).1) (by rw [z]; exact hb)) (Nat.lt_irrefl _)
structure Turn (P:Program) (w:World) (K:PySem.W.Frag) (tg:Expr) (J:It) (fp:List Addr) (it:Addr) (tn:Nat→Heap→Prop):Prop where
 mem:it∈fp
 obj:∀ i h,tn i h→∀ b∈fp,∃ o,h.get? b=some o∧∀ v,o.data≠.cell v
 keep:∀ i h h',tn i h→(∀ b∈fp,∀ o,h.get? b=some o→h'.get? b=some o)→tn i h'
 item:∀ (X:Cx),X.prog=P→X.w=w→X.K=K→X.calm=true→∀ (i:Nat) (pins:List (Addr×Obj)) (s:Shared) (σ:St) (H:Hp) (E:Value→Shared→Prop),Inv X pins σ H s→(∀ b∈fp,FpOk X pins H b)→tn i s.heap→J.go i H →
  wpAny (model P w) X.A (pyNext (.ref it)) (fun r s1=>∃ u,r=some u ∧
   wpAny (model P w) X.A (letOwnedTupleGo tg (.ref it) u) (fun _ s2=>∃ x H',Inv X pins σ H' s2∧RelV x u∧J.yld i H x H'∧tn (i+1) s2.heap∧∀ b∈fp,H' b=none) E s1) E s
 done:∀ (X:Cx),X.prog=P→X.w=w→X.K=K→X.calm=true→∀ (i:Nat) (pins:List (Addr×Obj)) (s:Shared) (σ:St) (H:Hp) (E:Value→Shared→Prop),Inv X pins σ H s→(∀ b∈fp,FpOk X pins H b)→tn i s.heap→J.stop i H →
  wpAny (model P w) X.A (pyNext (.ref it)) (fun r s1=>r=none∧Inv X pins σ H s1) E s
 self:∀ (A:Around) (i:Nat) (s:Shared) (Q:Value→Shared→Prop) (E:Value→Shared→Prop),tn i s.heap→Q (.ref it) s→wpAny (model P w) A (pyIter (.ref it)) Q E s
abbrev TI:=St→Hp→(It→Hp→Prop)→Prop
def PIE (X:Cx) (pins:List (Addr×Obj)) (σ:St) (tg:Expr) (R:It→Hp→Prop) (itv:Value) (s2:Shared):Prop :=
 ∃ (it:Addr) (fp:List Addr) (tn:Nat→Heap→Prop) (J:It) (H':Hp),itv=.ref it∧Inv X pins σ H' s2∧Turn X.prog X.w X.K tg J fp it tn∧tn 0 s2.heap∧(∀ b∈fp,FpOk X pins H' b)∧R J H'
def PI (X:Cx) (tg iter:Expr) (wi:TI):Prop :=
 ∀ (pins:List (Addr×Obj)) (s:Shared) (σ:St) (H:Hp) (R:It→Hp→Prop),Inv X pins σ H s→wi σ H R →
  wpAny (model X.prog X.w) X.A (eval iter X.env) (fun v s1=>wpAny (model X.prog X.w) X.A (pyIter v) (PIE X pins σ tg R) X.xe s1) X.xe s
theorem go_of {M:Model}{A:Around}{E:Value→Shared→Prop}{s:Shared}{tg:Expr}{it:Addr}{u:Value}{o:Obj}{n:String}{vs:Array Value}{Q:Unit→Shared→Prop} (ho:s.heap.get? it=some o) (hc:o.cls=.type n) (hd:o.data=.fields vs)
  (hn:["enumerate","zip","dict_itemiterator","dict_reverseitemiterator","odict_iterator","itertools.zip_longest","itertools.pairwise"].contains n=false) (hQ:Q () s):wpAny M A (letOwnedTupleGo tg (.ref it) u) Q E s:=by
 unfold letOwnedTupleGo
 cases tg <;> first
  | exact wpAny_pure hQ
  | (cases u <;> first
    | exact wpAny_pure hQ
    | (refine wpAny_bind (wpAny_load ho ?_);rw [hc,hd];show wpAny M A (if (["enumerate","zip","dict_itemiterator","dict_reverseitemiterator","odict_iterator","itertools.zip_longest","itertools.pairwise"].contains n && vs[0]? == some (rawInt _))=true then _ else _) Q E s;rw [if_neg (by intro h; rw [hn,Bool.false_and] at h; cases h)];exact wpAny_pure hQ))
def Itl (K:PySem.W.Frag) (a:Addr):It :=
 ⟨fun i H=>∃ xs x,SqL K H a xs∧xs[i]?=some x,fun i H x H'=>H'=H∧∀ xs,SqL K H a xs→xs[i]?=some x,fun i H=>∃ xs,SqL K H a xs∧xs.length≤i⟩
def Itt (K:PySem.W.Frag) (a:Addr):It :=
 ⟨fun i H=>∃ xs x,SqT K H a xs∧xs[i]?=some x,fun i H x H'=>H'=H∧∀ xs,SqT K H a xs→xs[i]?=some x,fun i H=>∃ xs,SqT K H a xs∧xs.length≤i⟩
def Itr (lo:Int) (n:Nat):It:=⟨fun i _=>i<n,fun i H x H'=>H'=H∧x=.int (lo+i),fun i _=>n≤i⟩
theorem turn_list {P:Program}{w:World}{K:PySem.W.Frag}{tg:Expr} (a it:Addr):Turn P w K tg (Itl K a) [it] it (fun i h=>h.IsListIter it a i) where
 mem:=by simp
 obj:=fun i h st b hb=>by
  have e:b=it:=by simpa using hb
  subst e
  obtain⟨o,e,c,d⟩:=st
  exact⟨o,e,fun v z=>by rw [d] at z; cases z⟩
 keep:=fun i h h' st k=>st.at fun o e=>k it (by simp) o e
 item:=by
  intro X hP hw hK hc i pins s σ H E I hf st hg
  subst hP hw hK
  obtain⟨xs,x,hq,hx⟩:=hg
  obtain⟨its,rv,p,hz⟩:=I.list hq
  obtain⟨u,hu,ru⟩:=rv.get hx
  obtain⟨f0,f1,f2,f3,f4,f5⟩:=hf it (by simp)
  refine wpAny_pyNext_list_item st p.isList (x:=u) (by simpa using hu) fun h' st' sb=>?_
  have I1:Inv X pins σ H { s with heap:=h' }:=I.turned (t':=s.toks) (fun b o hb e=>(sb.2 b hb).trans e) f0 f1 f3 f4 f5
  obtain⟨o,e,c,d⟩:=id st'
  exact⟨u,rfl,go_of (s:={ s with heap:=h' }) e c d (by decide) ⟨x,H,I1,ru,⟨rfl,fun ys hy=>by rw [I.list_inj hy hq]; exact hx⟩,st',fun b hb=>(hf b hb).1⟩⟩
 done:=by
  intro X hP hw hK hc i pins s σ H E I hf st hg
  subst hP hw hK
  obtain⟨xs,hq,hx⟩:=hg
  obtain⟨its,rv,p,hz⟩:=I.list hq
  obtain⟨f0,f1,f2,f3,f4,f5⟩:=hf it (by simp)
  have hl:=rv.length
  exact wpAny_pyNext_list_end (I.ok.hd hc) st p.isList (by simp; lia) fun h' eb=>⟨rfl,I.turned (t':=s.toks) (fun b o hb e=>eb b o hb e) f0 f1 f3 f4 f5⟩
 self:=fun _ _ _ _ _ st h=>wpAny_pyIter_listiter st h
theorem turn_tuple {P:Program}{w:World}{K:PySem.W.Frag}{tg:Expr} (a it:Addr):Turn P w K tg (Itt K a) [it] it (fun i h=>h.IsTupleIter it a i) where
 mem:=by simp
 obj:=fun i h st b hb=>by
  have e:b=it:=by simpa using hb
  subst e
  obtain⟨o,e,c,d⟩:=st
  exact⟨o,e,fun v z=>by rw [d] at z; cases z⟩
 keep:=fun i h h' st k=>st.at fun o e=>k it (by simp) o e
 item:=by
  intro X hP hw hK hc i pins s σ H E I hf st hg
  subst hP hw hK
  obtain⟨xs,x,hq,hx⟩:=hg
  obtain⟨its,rv,p,hz⟩:=I.tuple hq
  obtain⟨u,hu,ru⟩:=rv.get hx
  obtain⟨f0,f1,f2,f3,f4,f5⟩:=hf it (by simp)
  refine wpAny_pyNext_tuple_item st (show s.heap.IsTuple a its.toArray from p) (x:=u) (by simpa using hu) fun h' st' sb=>?_
  have I1:Inv X pins σ H { s with heap:=h' }:=I.turned (t':=s.toks) (fun b o hb e=>(sb.2 b hb).trans e) f0 f1 f3 f4 f5
  obtain⟨o,e,c,d⟩:=id st'
  exact⟨u,rfl,go_of (s:={ s with heap:=h' }) e c d (by decide) ⟨x,H,I1,ru,⟨rfl,fun ys hy=>by rw [I.tuple_inj hy hq]; exact hx⟩,st',fun b hb=>(hf b hb).1⟩⟩
 done:=by
  intro X hP hw hK hc i pins s σ H E I hf st hg
  subst hP hw hK
  obtain⟨xs,hq,hx⟩:=hg
  obtain⟨its,rv,p,hz⟩:=I.tuple hq
  obtain⟨f0,f1,f2,f3,f4,f5⟩:=hf it (by simp)
  have hl:=rv.length
  exact wpAny_pyNext_tuple_end (I.ok.hd hc) st (show s.heap.IsTuple a its.toArray from p) (by simp; lia) fun h' eb=>⟨rfl,I.turned (t':=s.toks) (fun b o hb e=>eb b o hb e) f0 f1 f3 f4 f5⟩
 self:=fun _ _ _ _ _ st h=>wpAny_pyIter_tupleiter st h
theorem turn_range {P:Program}{w:World}{K:PySem.W.Frag}{tg:Expr} (it:Addr) (lo:Int) (n:Nat):Turn P w K tg (Itr lo n) [it] it (fun i h=>IsRangeIter h it (lo+(i:Nat) * 1) ((n:Int) - (i:Nat)) 1) where
 mem:=by simp
 obj:=fun i h st b hb=>by
  have e:b=it:=by simpa using hb
  subst e
  exact⟨_,st,fun v z=>by
   have z':Data.fields _=Data.cell v:=z
   cases z'⟩
 keep:=fun i h h' st k=>k it (by simp) _ st
 item:=by
  intro X hP hw hK hc i pins s σ H E I hf st hg
  subst hP hw hK
  obtain⟨f0,f1,f2,f3,f4,f5⟩:=hf it (by simp)
  have W:=Walks.range (prog:=X.prog) (w:=X.w) (I.ok.hd hc) it lo 1 n
  refine W.item i s _ _ hg st fun v h' tk hv st' kk=>?_
  obtain⟨t,rfl⟩:=hv
  have I1:Inv X pins σ H { s with heap:=h',toks:=tk }:=I.turned (fun b o hb e=>kk b o (by simpa using hb) e) f0 f1 f3 f4 f5
  refine⟨_,rfl,go_of (s:={ s with heap:=h',toks:=tk }) (n:="range_iterator") st' rfl rfl (by decide) ⟨.int (lo+i),H,I1,⟨t,?_⟩,⟨rfl,rfl⟩,st',fun b hb=>(hf b hb).1⟩⟩
  rw [Int.mul_one]
 done:=by
  intro X hP hw hK hc i pins s σ H E I hf st hg
  subst hP hw hK
  obtain⟨f0,f1,f2,f3,f4,f5⟩:=hf it (by simp)
  exact wpAny_pyNext_range_end (I.ok.hd hc) st (by have:n≤i:=hg; lia) fun h' eb=>⟨rfl,I.turned (t':=s.toks) (fun b o hb e=>eb b o hb e) f0 f1 f3 f4 f5⟩
 self:=fun _ _ _ _ _ st h=>wpAny_pyIter_rangeiter st h
end L2
namespace L2
open PySem PySem.Spec PyProof.Rows
section
variable {X:Cx}{tg:Expr}
def iList (K:PySem.W.Frag) (tl:TE):TI:=fun σ H R=>tl σ H fun x H1=>∃ a,x=.ref a∧(∃ xs,SqL K H1 a xs)∧R (Itl K a) H1
def iTup (K:PySem.W.Frag) (tl:TE):TI:=fun σ H R=>tl σ H fun x H1=>∃ a,x=.ref a∧(∃ xs,SqT K H1 a xs)∧R (Itt K a) H1
theorem pi_list {l:Expr}{tl:TE} (hl:PE X l tl):PI X tg l (iList X.K tl):=by
 intro pins s σ H R I h
 refine thn (hl pins s σ H _ I h) fun v s1 ⟨x,H1,I1,r1,q1⟩=>?_
 obtain⟨a,e,⟨xs,hq⟩,q⟩:=q1
 subst e
 cases r1
 obtain⟨its,rv,p,hz⟩:=I1.list hq
 refine wpAny_pyIter_list p.isList ?_
 refine⟨s1.heap.objs.size,[s1.heap.objs.size],_,_,H1,rfl,I1.kept (t':=s1.toks) fun b o e=>Heap.get?_push_of_some _ e,turn_list a _,⟨_,Heap.get?_push_size _ rfl,rfl,rfl⟩,fun b hb=>?_,q⟩
 have e:b=s1.heap.objs.size:=by simpa using hb
 subst e
 exact I1.fpOk (Nat.le_refl _) (I1.hok.fresh (Nat.le_refl _))
theorem pi_tup {l:Expr}{tl:TE} (hl:PE X l tl):PI X tg l (iTup X.K tl):=by
 intro pins s σ H R I h
 refine thn (hl pins s σ H _ I h) fun v s1 ⟨x,H1,I1,r1,q1⟩=>?_
 obtain⟨a,e,⟨xs,hq⟩,q⟩:=q1
 subst e
 cases r1
 obtain⟨its,rv,p,hz⟩:=I1.tuple hq
 refine wpAny_pyIter_tuple (show s1.heap.IsTuple a its.toArray from p) ?_
 refine⟨s1.heap.objs.size,[s1.heap.objs.size],_,_,H1,rfl,I1.kept (t':=s1.toks) fun b o e=>Heap.get?_push_of_some _ e,turn_tuple a _,⟨_,Heap.get?_push_size _ rfl,rfl,rfl⟩,fun b hb=>?_,q⟩
 have e:b=s1.heap.objs.size:=by simpa using hb
 subst e
 exact I1.fpOk (Nat.le_refl _) (I1.hok.fresh (Nat.le_refl _))
theorem range_it {pins:List (Addr×Obj)}{σ:St}{H:Hp}{s:Shared}{R:It→Hp→Prop}{E:Value→Shared→Prop}{lo hi:Int}{t u v:Tok}{tk:Nat} (I:Inv X pins σ H s) (h1:-(2 ^ 62)≤lo) (h2:lo<2 ^ 62) (h3:-(2 ^ 62)≤hi) (h4:hi<2 ^ 62)
  (q:R (Itr lo (hi - lo).toNat) H):wpAny (model X.prog X.w) X.A (pyIter (.ref s.heap.objs.size)) (PIE X pins σ tg R) E { s with heap:=s.heap.push { cls:=.type "range",data:=.fields #[.int lo t,.int hi u,.int 1 v] },toks:=tk }:=by
 refine wpAny_pyIter_range (IsRange.new ..) (small_one h1 h2 h3 h4) ?_
 have I1:Inv X pins σ H { s with heap:=s.heap.push { cls:=.type "range",data:=.fields #[.int lo t,.int hi u,.int 1 v] },toks:=tk }:=I.kept fun b o e=>Heap.get?_push_of_some _ e
 refine⟨(s.heap.push { cls:=.type "range",data:=.fields #[.int lo t,.int hi u,.int 1 v] }).objs.size,[(s.heap.push { cls:=.type "range",data:=.fields #[.int lo t,.int hi u,.int 1 v] }).objs.size],_,_,H,rfl,
  I1.kept (t':=tk) fun b o e=>Heap.get?_push_of_some _ e,turn_range _ lo (hi - lo).toNat,?_,fun b hb=>?_,q⟩
 ·have e1:lo+((0:Nat):Int) * 1=lo:=by simp
  have e2:(((hi - lo).toNat:Nat):Int) - ((0:Nat):Int)=Builtin.Range.rangeSize lo hi 1:=by rw [rangeSize_one]; split <;> lia
  show IsRangeIter _ _ (lo+((0:Nat):Int) * 1) ((((hi - lo).toNat:Nat):Int) - ((0:Nat):Int)) 1
  rw [e1,e2]
  exact Heap.get?_push_size _ rfl
 ·have e:b=(s.heap.push { cls:=.type "range",data:=.fields #[.int lo t,.int hi u,.int 1 v] }).objs.size:=by simpa using hb
  subst e
  exact I1.fpOk (Nat.le_refl _) (I1.hok.fresh (Nat.le_refl _))
def iRng1 (ta:TA):TI:=fun σ H R=>ta σ H fun vs H1=>∃ j:Int,vs=[.int j]∧-(2 ^ 62)≤j∧j<2 ^ 62∧R (Itr 0 j.toNat) H1
theorem pi_range1 {a:Expr}{ta:TA}{p pos:Pos} (hg:Gl X "range") (hm:X.mg "range"=none) (ha:PA X [a] ta) (hs:starEach [a] X.env=[(false,eval a X.env)]:=by rfl):PI X tg (.Call (.Name "range" p) [a] [] pos) (iRng1 ta):=by
 intro pins s σ H R I h
 refine Call_ (ld_blt I hg hm boot_range (PyProof.Rows.callWith_type1 (thn (ha pos pins s σ H _ I h) fun us s1 ⟨vs,H1,I1,r1,q1⟩=>?_) hs rfl))
 obtain⟨j,e,q1,q2,q⟩:=q1
 subst e
 cases r1 with
 | cons r rr =>
  cases rr
  obtain⟨t,rfl⟩:=r
  exact call_range_1 (range_it I1 (by lia) (by lia) q1 q2 (by simpa using q))
def tFor (wi:TI) (g:TG) (tb:TS):TS:=fun D σ H=>wi σ H fun J H1=>∃ W:Nat→Nat→St→Hp→Prop,(∃ m,W 0 m σ H1)∧∀ i m σ H,W i m σ H →
 (J.stop i H∧D.nx σ H)∨(J.go i H∧∃ N:St→Hp→Prop,(∀ σ' H',N σ' H'→∃ m',m'<m∧W (i+1) m' σ' H')∧∀ x H',J.yld i H x H'→g x σ H' fun σ2 H2=>tb { D with nx:=N,ct:=N,bk:=D.nx } σ2 H2)
def pinsAt (fp:List Addr) (h:Heap):List (Addr×Obj):=fp.filterMap fun b=>(h.get? b).map fun o=>(b,o)
theorem mem_pinsAt {fp:List Addr}{h:Heap}{b:Addr}{o:Obj} (hb:b∈fp) (e:h.get? b=some o):(b,o)∈pinsAt fp h:=List.mem_filterMap.mpr ⟨b,hb,by rw [e]; rfl⟩
theorem of_pinsAt {fp:List Addr}{h:Heap}{p:Addr×Obj} (hp:p∈pinsAt fp h):p.1∈fp∧h.get? p.1=some p.2:=by
 obtain⟨b,hb,e⟩:=List.mem_filterMap.mp hp
 cases q:h.get? b with
 | none=>rw [q] at e; cases e
 | some o =>
  rw [q] at e
  have e':(b,o)=p:=Option.some.inj e
  subst e'
  exact⟨hb,q⟩
theorem Inv.pinned {pins:List (Addr×Obj)}{σ:St}{H:Hp}{s:Shared}{fp:List Addr} (I:Inv X pins σ H s) (hf:∀ b∈fp,FpOk X pins H b) (ho:∀ b∈fp,∃ o,s.heap.get? b=some o∧∀ v,o.data≠.cell v):Inv X (pins++pinsAt fp s.heap) σ H s :=
 I.pins_of fun p hp=>(List.mem_append.mp hp).elim (fun z=>I.pin p (List.mem_append_right _ z)) fun z=>by
  obtain⟨hb,e⟩:=of_pinsAt z
  obtain⟨f0,f1,f2,_⟩:=hf p.1 hb
  obtain⟨o,e',d⟩:=ho p.1 hb
  rw [e] at e'; cases e'
  exact⟨e,f0,f1,f2,d⟩
theorem Inv.unpinned {pins pl:List (Addr×Obj)}{σ:St}{H:Hp}{s:Shared} (I:Inv X (pins++pl) σ H s):Inv X pins σ H s:=I.pins_of fun p hp=>I.pin p (List.mem_append_right _ (List.mem_append_left _ hp))
theorem ps_for {iter:Expr}{body:List Stmt}{wi:TI}{g:TG}{tb:TS}{pos:Pos} (hp:PassesOwn (model X.prog X.w) X.A X.env X.xe) (hc:X.calm=true) (hi:PI X tg iter wi) (hg:PG X tg g) (hb:PSs X body tb)
  (hs:∀ x,foldedSetIterable iter X.env x=pure x:=by intro _; rfl):PS X (.For tg iter body [] pos) (tFor wi g tb):=by
 intro pins s σ H D I h
 refine wpAny_For (thn (hi pins s σ H _ I h) fun v s1 h1=>thn h1 fun itv s2 h2=>?_) hs
 obtain⟨it,fp,tn,J,H2,e,I2,T,st2,f2,W,⟨m0,w0⟩,turn⟩:=h2
 subst e
 have stat:∀ {H':Hp},(∀ b∈fp,H' b=none)→∀ b∈fp,FpOk X pins H' b:=fun hn b hb=>⟨hn b hb,(f2 b hb).2⟩
 refine codeAny_forLoop_any (fun n s'=>∃ i σ' H',Inv X pins σ' H' s'∧tn i s'.heap∧(∀ b∈fp,H' b=none)∧W i n σ' H') ?_ m0 ⟨0,σ,H2,I2,st2,fun b hb=>(f2 b hb).1,w0⟩
 rintro n s3 ⟨i,σ3,H3,I3,st3,fr3,w3⟩
 rcases turn i n σ3 H3 w3 with⟨stop,qn⟩ | ⟨go,N,hN,step⟩
 ·refine wpAny_passesOwn hp (thn (T.done X rfl rfl rfl hc i pins s3 σ3 H3 X.xe I3 (stat fr3) st3 stop) fun r s4 ⟨hr,I4⟩=>?_)
  subst hr
  exact wpAny_execs_nil ⟨σ3,H3,I4,qn⟩
 ·refine wpAny_passesOwn hp (thn (T.item X rfl rfl rfl hc i pins s3 σ3 H3 X.xe I3 (stat fr3) st3 go) fun r s4 ⟨u,hr,h4⟩=>?_)
  subst hr
  refine wpAny_passesOwn hp (thn h4 fun _ s5 ⟨x,H5,I5,r5,y5,st5,fr5⟩=>?_)
  have I5':=I5.pinned (stat fr5) (T.obj _ _ st5)
  refine wpAny_passesOwn hp (thn (hg _ s5 σ3 H5 x u _ I5' r5 (step x H5 y5)) fun _ s6 ⟨σ6,H6,I6,q6⟩=>?_)
  refine wpAny_passesOwn hp (thn (hb _ s6 σ6 H6 _ I6 q6) fun f s7 q7=>?_)
  have again:∀ {σ7:St}{H7:Hp},Inv X (pins++pinsAt fp s5.heap) σ7 H7 s7→N σ7 H7→∃ m,m<n∧∃ i σ' H',Inv X pins σ' H' s7∧tn i s7.heap∧(∀ b∈fp,H' b=none)∧W i m σ' H':=fun {σ7 H7} I7 n7=>by
   obtain⟨m',hm,w7⟩:=hN σ7 H7 n7
   refine⟨m',hm,i+1,σ7,H7,I7.unpinned,T.keep _ _ _ st5 fun b hb o e=>(I7.pin (b,o) (List.mem_append_right _ (List.mem_append_right _ (mem_pinsAt hb e)))).1,fun b hb=>?_,w7⟩
   obtain⟨o,e,d⟩:=T.obj _ _ st5 b hb
   exact (I7.pin (b,o) (List.mem_append_right _ (List.mem_append_right _ (mem_pinsAt hb e)))).2.1
  cases f with
  | next=>obtain⟨σ7,H7,I7,n7⟩:=q7; exact again I7 n7
  | cont=>obtain⟨σ7,H7,I7,n7⟩:=q7; exact again I7 n7
  | brk=>obtain⟨σ7,H7,I7,q7⟩:=q7; exact⟨σ7,H7,I7.unpinned,q7⟩
  | ret v=>obtain⟨x7,σ7,H7,I7,r7,q7⟩:=q7; exact⟨x7,σ7,H7,I7.unpinned,r7,q7⟩
end
theorem for_list {K:PySem.W.Frag}{a:Addr}{xs:List V}{g:TG}{tb:TS}{D:Ends}{σ:St}{H:Hp} (Pv:Nat→St→Hp→Prop) (h0:Pv 0 σ H) (hl:∀ i σ H,i≤xs.length→Pv i σ H→SqL K H a xs)
  (hs:∀ i x σ H,xs[i]?=some x→Pv i σ H→g x σ H fun σ2 H2=>tb { D with nx:=Pv (i+1),ct:=Pv (i+1),bk:=D.nx } σ2 H2) (hd:∀ σ H,Pv xs.length σ H→D.nx σ H) :
  ∃ W:Nat→Nat→St→Hp→Prop,(∃ m,W 0 m σ H)∧∀ i m σ H,W i m σ H →
   ((Itl K a).stop i H∧D.nx σ H)∨((Itl K a).go i H∧∃ N:St→Hp→Prop,(∀ σ' H',N σ' H'→∃ m',m'<m∧W (i+1) m' σ' H')∧∀ x H',(Itl K a).yld i H x H'→g x σ H' fun σ2 H2=>tb { D with nx:=N,ct:=N,bk:=D.nx } σ2 H2):=by
 refine⟨fun i m σ H=>m=xs.length - i∧i≤xs.length∧Pv i σ H,⟨xs.length,by simp,Nat.zero_le _,h0⟩,?_⟩
 rintro i m σ H ⟨rfl,hi,p⟩
 have q:=hl i σ H hi p
 by_cases hlt:i<xs.length
 ·refine .inr ⟨⟨xs,xs[i],q,by simp [hlt]⟩,Pv (i+1),fun σ' H' p'=>⟨xs.length - (i+1),by lia,rfl,hlt,p'⟩,fun x H' y=>?_⟩
  obtain⟨e,y⟩:=y
  subst e
  exact hs i x σ _ (y xs q) p
 ·have e:i=xs.length:=by lia
  subst e
  exact .inl ⟨⟨xs,q,Nat.le_refl _⟩,hd σ H p⟩
theorem for_range {lo:Int}{n:Nat}{g:TG}{tb:TS}{D:Ends}{σ:St}{H:Hp} (Pv:Nat→St→Hp→Prop) (h0:Pv 0 σ H)
  (hs:∀ i σ H,i<n→Pv i σ H→g (.int (lo+i)) σ H fun σ2 H2=>tb { D with nx:=Pv (i+1),ct:=Pv (i+1),bk:=D.nx } σ2 H2) (hd:∀ σ H,Pv n σ H→D.nx σ H) :
  ∃ W:Nat→Nat→St→Hp→Prop,(∃ m,W 0 m σ H)∧∀ i m σ H,W i m σ H →
   ((Itr lo n).stop i H∧D.nx σ H)∨((Itr lo n).go i H∧∃ N:St→Hp→Prop,(∀ σ' H',N σ' H'→∃ m',m'<m∧W (i+1) m' σ' H')∧∀ x H',(Itr lo n).yld i H x H'→g x σ H' fun σ2 H2=>tb { D with nx:=N,ct:=N,bk:=D.nx } σ2 H2):=by
 refine⟨fun i m σ H=>m=n - i∧i≤n∧Pv i σ H,⟨n,by simp,Nat.zero_le _,h0⟩,?_⟩
 rintro i m σ H ⟨rfl,hi,p⟩
 by_cases hlt:i<n
 ·refine .inr ⟨hlt,Pv (i+1),fun σ' H' p'=>⟨n - (i+1),by lia,rfl,hlt,p'⟩,fun x H' y=>?_⟩
  obtain⟨e,y⟩:=y
  subst e y
  exact hs i σ _ hlt p
 ·have e:i=n:=by lia
  subst e
  exact .inl ⟨Nat.le_refl _,hd σ H p⟩
end L2
namespace L2
open PySem PySem.Spec PyProof.Rows
abbrev R2:=V→V→Hp→VK→Prop
def OpR (X:Cx) (f:Value→Value→Sem Value) (r:R2):Prop :=
 ∀ (pins:List (Addr×Obj)) (s:Shared) (σ:St) (H:Hp) (x y:V) (v u:Value) (Q:VK),Inv X pins σ H s→RelV x v→RelV y u→r x y H Q →
  wpAny (model X.prog X.w) X.A (f v u) (EP X pins σ Q) X.xe s
def UnR (X:Cx) (f:Value→Sem Value) (r:V→Hp→VK→Prop):Prop :=
 ∀ (pins:List (Addr×Obj)) (s:Shared) (σ:St) (H:Hp) (x:V) (v:Value) (Q:VK),Inv X pins σ H s→RelV x v→r x H Q →
  wpAny (model X.prog X.w) X.A (f v) (EP X pins σ Q) X.xe s
def CallR (X:Cx) (f:Value) (r:List V→Hp→VK→Prop):Prop :=
 ∀ (pins:List (Addr×Obj)) (s:Shared) (σ:St) (H:Hp) (xs:List V) (us:List Value) (Q:VK),Inv X pins σ H s→Vals xs us→r xs H Q →
  wpAny (model X.prog X.w) X.A (call f us) (EP X pins σ Q) X.xe s
def TruR (X:Cx) (r:V→Hp→(Bool→Hp→Prop)→Prop):Prop :=
 ∀ (pins:List (Addr×Obj)) (s:Shared) (σ:St) (H:Hp) (x:V) (v:Value) (Q:Bool→Hp→Prop),Inv X pins σ H s→RelV x v→r x H Q →
  wpAny (model X.prog X.w) X.A (truthy v) (TP X pins σ Q) X.xe s
def tOp (r:R2) (ta tb:TE):TE:=fun σ H Q=>ta σ H fun x H1=>tb σ H1 fun y H2=>r x y H2 Q
def tUn (r:V→Hp→VK→Prop) (ta:TE):TE:=fun σ H Q=>ta σ H fun x H1=>r x H1 Q
def rI (C:Int→Int→Prop) (g:Int→Int→V):R2:=fun x y H Q=>∃ i j,x=.int i∧y=.int j∧C i j∧Q (g i j) H
def rI0 (g:Int→Int→V):R2:=fun x y H Q=>∃ i j,x=.int i∧y=.int j∧Q (g i j) H
def rU (g:Int→V):V→Hp→VK→Prop:=fun x H Q=>∃ i,x=.int i∧Q (g i) H
section
variable {X:Cx}{a b c:Expr}{ta tb tc:TE}{pos:Pos}
theorem binT (ha:PE X a ta) (hb:PE X b tb) {pins:List (Addr×Obj)}{s:Shared}{σ:St}{H:Hp}{R:V→V→Hp→Prop} (I:Inv X pins σ H s)
  (h:ta σ H fun x H1=>tb σ H1 fun y H2=>R x y H2) {Q:Value→Shared→Prop}{f:Value→Value→Sem Value}
  (hf:∀ v u s2 x y H2,Inv X pins σ H2 s2→RelV x v→RelV y u→R x y H2→wpAny (model X.prog X.w) X.A (f v u) Q X.xe s2) :
  wpAny (model X.prog X.w) X.A (eval a X.env) (fun v s₁=>wpAny (model X.prog X.w) X.A (eval b X.env) (fun u s₂=>wpAny (model X.prog X.w) X.A (f v u) Q X.xe s₂) X.xe s₁) X.xe s:=by
 refine thn (ha pins s σ H _ I h) fun v s1 ⟨x,H1,I1,r1,q1⟩=>?_
 refine thn (hb pins s1 σ H1 _ I1 q1) fun u s2 ⟨y,H2,I2,r2,q2⟩=>?_
 exact hf v u s2 x y H2 I2 r1 r2 q2
theorem pe_op {op:Operator}{r:R2} (ho:OpR X (binaryOp op) r) (ha:PE X a ta) (hb:PE X b tb):PE X (.BinOp a op b pos) (tOp r ta tb):=by
 intro pins s σ H Q I h
 exact wpAny_BinOp (binT ha hb I h fun v u s2 x y H2 I2 rx ry q=>ho pins s2 σ H2 x y v u Q I2 rx ry q)
theorem pe_un {op:UnaryOp}{r:V→Hp→VK→Prop} (ho:UnR X (unaryOp op) r) (ha:PE X a ta):PE X (.UnaryOp op a pos) (tUn r ta):=by
 intro pins s σ H Q I h
 exact UnaryOp_ (thn (ha pins s σ H _ I h) fun v s1 ⟨x,H1,I1,r1,q1⟩=>ho pins s1 σ H1 x v Q I1 r1 q1)
theorem opI {f:Value→Value→Sem Value}{C:Int→Int→Prop}{g:Int→Int→Int}
  (rule:∀ (i j:Int) (t u:Tok) (s:Shared) (Q:Value→Shared→Prop) (E:Value→Shared→Prop),C i j→Q (.int (g i j) s.toks) { s with toks:=s.toks+1 }→wpAny (model X.prog X.w) X.A (f (.int i t) (.int j u)) Q E s) :
  OpR X f (rI C fun i j=>.int (g i j)):=by
 intro pins s σ H x y v u Q I rx ry h
 obtain⟨i,j,rfl,rfl,hc,q⟩:=h
 obtain⟨t,rfl⟩:=rx
 obtain⟨t',rfl⟩:=ry
 exact rule i j t t' s _ _ hc ⟨.int (g i j),H,I.tok _,⟨_,rfl⟩,q⟩
theorem opI0 {f:Value→Value→Sem Value}{g:Int→Int→Int}
  (rule:∀ (i j:Int) (t u:Tok) (s:Shared) (Q:Value→Shared→Prop) (E:Value→Shared→Prop),Q (.int (g i j) s.toks) { s with toks:=s.toks+1 }→wpAny (model X.prog X.w) X.A (f (.int i t) (.int j u)) Q E s) :
  OpR X f (rI0 fun i j=>.int (g i j)):=by
 intro pins s σ H x y v u Q I rx ry h
 obtain⟨i,j,rfl,rfl,q⟩:=h
 obtain⟨t,rfl⟩:=rx
 obtain⟨t',rfl⟩:=ry
 exact rule i j t t' s _ _ ⟨.int (g i j),H,I.tok _,⟨_,rfl⟩,q⟩
theorem opB0 {f:Value→Value→Sem Value}{g:Int→Int→Bool}
  (rule:∀ (i j:Int) (t u:Tok) (s:Shared) (Q:Value→Shared→Prop) (E:Value→Shared→Prop),Q (.bool (g i j)) s→wpAny (model X.prog X.w) X.A (f (.int i t) (.int j u)) Q E s) :
  OpR X f (rI0 fun i j=>.bl (g i j)):=by
 intro pins s σ H x y v u Q I rx ry h
 obtain⟨i,j,rfl,rfl,q⟩:=h
 obtain⟨t,rfl⟩:=rx
 obtain⟨t',rfl⟩:=ry
 exact rule i j t t' s _ _ ⟨.bl (g i j),H,I,rfl,q⟩
def CDiv (i j:Int):Prop:=0<j∧j<1073741824
def CMul (i j:Int):Prop:=(-(2 ^ 64)<i∧i<2 ^ 64)∨(-(2 ^ 64)<j∧j<2 ^ 64)
theorem CMul.ok {i j:Int} (h:CMul i j):IntMulOk i j:=by
 rcases h with⟨h1,h2⟩ | ⟨h1,h2⟩
 ·exact .of_left (intBits_le_64 h1 h2)
 ·exact .of_right (intBits_le_64 h1 h2)
theorem op_add:OpR X (binaryOp .Add) (rI0 fun i j=>.int (i+j)):=opI0 fun _ _ _ _ _ _ _ q=>add_int q
theorem op_sub:OpR X (binaryOp .Sub) (rI0 fun i j=>.int (i - j)):=opI0 fun _ _ _ _ _ _ _ q=>sub_int q
theorem op_mul:OpR X (binaryOp .Mult) (rI CMul fun i j=>.int (i * j)):=opI fun _ _ _ _ _ _ _ hc q=>mul_int q hc.ok
theorem op_fdiv:OpR X (binaryOp .FloorDiv) (rI CDiv fun i j=>.int (i / j)):=opI fun i j _ _ _ _ _ hc q=>by
 have h1:(0:Int)<j:=hc.1
 have h2:j<1073741824:=hc.2
 exact floordiv_int (by lia) (by rw [Int.fdiv_eq_ediv_of_nonneg i (by lia)]; exact q) (.inl (PyProof.noPylong_small (by lia)))
theorem op_mod:OpR X (binaryOp .Mod) (rI (fun _ j=>0<j) fun i j=>.int (i % j)):=opI fun i j _ _ _ _ _ hc q=>by
 have h1:(0:Int)<j:=hc
 exact mod_int' (by lia) (by rw [Int.fmod_eq_emod_of_nonneg i (by lia)]; exact q)
theorem unI {f:Value→Sem Value}{g:Int→Int}
  (rule:∀ (i:Int) (t:Tok) (s:Shared) (Q:Value→Shared→Prop) (E:Value→Shared→Prop),Q (.int (g i) s.toks) { s with toks:=s.toks+1 }→wpAny (model X.prog X.w) X.A (f (.int i t)) Q E s) :
  UnR X f (rU fun i=>.int (g i)):=by
 intro pins s σ H x v Q I rx h
 obtain⟨i,rfl,q⟩:=h
 obtain⟨t,rfl⟩:=rx
 exact rule i t s _ _ ⟨.int (g i),H,I.tok _,⟨_,rfl⟩,q⟩
theorem un_neg:UnR X (unaryOp .USub) (rU fun i=>.int (-i)):=unI fun _ _ _ _ _ q=>neg_int q
end
def scal:V→V→Bool
 | .non,.non=>true | .non,.int _=>true | .int _,.non=>true | .non,.bl _=>true | .bl _,.non=>true | .non,.str _=>true | .str _,.non=>true
 | .int _,.int _=>true | .bl _,.bl _=>true | .str _,.str _=>true | .byt _,.byt _=>true
 | .int _,.str _=>true | .str _,.int _=>true | .bl _,.str _=>true | .str _,.bl _=>true
 | _,_=>false
def rEq:R2:=fun x y H Q=>scal x y=true∧Q (.bl (decide (x=y))) H
def rNe:R2:=fun x y H Q=>scal x y=true∧Q (.bl (!decide (x=y))) H
theorem dec_int {i j:Int}:decide (V.int i=V.int j)=(i == j):=by
 rw [Bool.eq_iff_iff]
 simp
theorem dec_bl {i j:Bool}:decide (V.bl i=V.bl j)=(i == j):=by
 rw [Bool.eq_iff_iff]
 simp
theorem dec_str {i j:Str}:decide (V.str i=V.str j)=(i == j):=by
 rw [Bool.eq_iff_iff]
 simp
theorem dec_byt {i j:Array UInt8}:decide (V.byt i=V.byt j)=(i.toList == j.toList):=by
 rw [Bool.eq_iff_iff]
 cases i
 cases j
 simp
section
variable {X:Cx}{a b c:Expr}{ta tb tc:TE}{pos:Pos}
theorem fin_bl {pins:List (Addr×Obj)}{σ:St}{H:Hp}{s:Shared}{Q:VK}{k k':Bool} (I:Inv X pins σ H s) (q:Q (.bl k) H) (e:k=k'):EP X pins σ Q (.bool k') s:=by
 subst e
 exact⟨.bl k,H,I,rfl,q⟩
theorem op_eq:OpR X (compareOp .Eq) rEq:=by
 intro pins s σ H x y v u Q I rx ry h
 obtain⟨hs,q⟩:=h
 cases x with
 | non =>
  cases rx
  cases y with
  | non=>cases ry; exact PySem.EqNone.eq_none_none (fin_bl I q (by simp))
  | bl j=>cases ry; exact PySem.EqNone.eq_none_bool (fin_bl I q (by simp))
  | int j=>obtain⟨t',rfl⟩:=ry; exact PySem.EqNone.eq_none_int (fin_bl I q (by simp))
  | str j=>obtain⟨t',rfl⟩:=ry; exact PySem.EqNone.eq_none_str (fin_bl I q (by simp))
  | _=>exact absurd (show false=true from hs) Bool.false_ne_true
 | bl i =>
  cases rx
  cases y with
  | non=>cases ry; exact PySem.EqNone.eq_bool_none (fin_bl I q (by simp))
  | bl j=>cases ry; exact eq_bool (fin_bl I q dec_bl)
  | str j=>obtain⟨t',rfl⟩:=ry; exact PySem.EqMixed.eq_bool_str (fin_bl I q (by simp))
  | _=>exact absurd (show false=true from hs) Bool.false_ne_true
 | int i =>
  obtain⟨t,rfl⟩:=rx
  cases y with
  | non=>cases ry; exact PySem.EqNone.eq_int_none (fin_bl I q (by simp))
  | int j=>obtain⟨t',rfl⟩:=ry; exact eq_int (fin_bl I q dec_int)
  | str j=>obtain⟨t',rfl⟩:=ry; exact PySem.EqMixed.eq_int_str (fin_bl I q (by simp))
  | _=>exact absurd (show false=true from hs) Bool.false_ne_true
 | str i =>
  obtain⟨t,rfl⟩:=rx
  cases y with
  | non=>cases ry; exact PySem.EqNone.eq_str_none (fin_bl I q (by simp))
  | bl j=>cases ry; exact PySem.EqMixed.eq_str_bool (fin_bl I q (by simp))
  | int j=>obtain⟨t',rfl⟩:=ry; exact PySem.EqMixed.eq_str_int (fin_bl I q (by simp))
  | str j=>obtain⟨t',rfl⟩:=ry; exact eq_str (fin_bl I q dec_str)
  | _=>exact absurd (show false=true from hs) Bool.false_ne_true
 | byt i =>
  obtain⟨t,rfl⟩:=rx
  cases y with
  | byt j=>obtain⟨t',rfl⟩:=ry; exact PySem.W.eq_bytes (fin_bl I q dec_byt)
  | _=>exact absurd (show false=true from hs) Bool.false_ne_true
 | _=>cases y <;> exact absurd (show false=true from hs) Bool.false_ne_true
theorem op_ne:OpR X (compareOp .NotEq) rNe:=by
 intro pins s σ H x y v u Q I rx ry h
 obtain⟨hs,q⟩:=h
 cases x with
 | non =>
  cases rx
  cases y with
  | non=>cases ry; exact PySem.EqNone.ne_none_none (fin_bl I q (by simp))
  | bl j=>cases ry; exact PySem.EqNone.ne_none_bool (fin_bl I q (by simp))
  | int j=>obtain⟨t',rfl⟩:=ry; exact PySem.EqNone.ne_none_int (fin_bl I q (by simp))
  | str j=>obtain⟨t',rfl⟩:=ry; exact PySem.EqNone.ne_none_str (fin_bl I q (by simp))
  | _=>exact absurd (show false=true from hs) Bool.false_ne_true
 | bl i =>
  cases rx
  cases y with
  | non=>cases ry; exact PySem.EqNone.ne_bool_none (fin_bl I q (by simp))
  | bl j=>cases ry; exact ne_bool (fin_bl I q (congrArg not dec_bl))
  | str j=>obtain⟨t',rfl⟩:=ry; exact PySem.EqMixed.ne_bool_str (fin_bl I q (by simp))
  | _=>exact absurd (show false=true from hs) Bool.false_ne_true
 | int i =>
  obtain⟨t,rfl⟩:=rx
  cases y with
  | non=>cases ry; exact PySem.EqNone.ne_int_none (fin_bl I q (by simp))
  | int j=>obtain⟨t',rfl⟩:=ry; exact ne_int (fin_bl I q (congrArg not dec_int))
  | str j=>obtain⟨t',rfl⟩:=ry; exact PySem.EqMixed.ne_int_str (fin_bl I q (by simp))
  | _=>exact absurd (show false=true from hs) Bool.false_ne_true
 | str i =>
  obtain⟨t,rfl⟩:=rx
  cases y with
  | non=>cases ry; exact PySem.EqNone.ne_str_none (fin_bl I q (by simp))
  | bl j=>cases ry; exact PySem.EqMixed.ne_str_bool (fin_bl I q (by simp))
  | int j=>obtain⟨t',rfl⟩:=ry; exact PySem.EqMixed.ne_str_int (fin_bl I q (by simp))
  | str j=>obtain⟨t',rfl⟩:=ry; exact ne_str (fin_bl I q (congrArg not dec_str))
  | _=>exact absurd (show false=true from hs) Bool.false_ne_true
 | byt i =>
  obtain⟨t,rfl⟩:=rx
  cases y with
  | byt j=>obtain⟨t',rfl⟩:=ry; exact PySem.W.ne_bytes (fin_bl I q (congrArg not dec_byt))
  | _=>exact absurd (show false=true from hs) Bool.false_ne_true
 | _=>cases y <;> exact absurd (show false=true from hs) Bool.false_ne_true
theorem op_lt:OpR X (compareOp .Lt) (rI0 fun i j=>.bl (decide (i<j))):=opB0 fun _ _ _ _ _ _ _ q=>lt_int q
theorem op_le:OpR X (compareOp .LtE) (rI0 fun i j=>.bl (decide (i≤j))):=opB0 fun _ _ _ _ _ _ _ q=>le_int q
theorem op_gt:OpR X (compareOp .Gt) (rI0 fun i j=>.bl (decide (j<i))):=opB0 fun _ _ _ _ _ _ _ q=>gt_int q
theorem op_isN:OpR X (compareOp .Is) (fun x y H Q=>y=.non∧Q (.bl (decide (x=.non))) H):=by
 intro pins s σ H x y v u Q I rx ry h
 obtain⟨rfl,q⟩:=h
 cases ry
 refine is_none_gen (fin_bl I q ?_)
 cases x <;> first
  | (cases rx; rfl)
  | (obtain⟨t,rfl⟩:=rx; rfl)
theorem nomark (b:Expr) {op:CmpOp} (h:op≠.In:=by decide) (h2:op≠.NotIn:=by decide):behindInMarks op b=false:=by
 have e1:(op == CmpOp.In)=false:=by cases op <;> first | rfl | exact absurd rfl h
 have e2:(op == CmpOp.NotIn)=false:=by cases op <;> first | rfl | exact absurd rfl h2
 cases b <;> simp [behindInMarks,e1,e2]
theorem pe_cmpR {op:CmpOp}{r:R2} (ho:OpR X (compareOp op) r) (ha:PE X a ta) (hb:PE X b tb) (hm:behindInMarks op b=false):PE X (.Compare a [op] [b] pos) (tOp r ta tb):=by
 intro pins s σ H Q I h
 exact wpAny_Compare1 (binT ha hb I h fun v u s2 x y H2 I2 rx ry q=>ho pins s2 σ H2 x y v u Q I2 rx ry q) hm
def tTest (t:TE):TT:=fun σ H Q=>t σ H fun x H'=>∃ k,x=.bl k∧Q k H'
theorem pt_cmpR {op:CmpOp}{r:R2} (ho:OpR X (compareOp op) r) (ha:PE X a ta) (hb:PE X b tb) (hm:behindInMarks op b=false):PT X (.Compare a [op] [b] pos) (tTest (tOp r ta tb)):=by
 intro pins s σ H Q I h
 refine wpAny_isTrue_Compare1 (thn (ha pins s σ H _ I h) fun v s1 ⟨x,H1,I1,r1,q1⟩=>thn (hb pins s1 σ H1 _ I1 q1) fun u s2 ⟨y,H2,I2,r2,q2⟩ =>
  thn (ho pins s2 σ H2 x y v u _ I2 r1 r2 q2) fun c s3 ⟨z,H3,I3,r3,k,e,q3⟩=>?_) hm
 subst e
 cases r3
 exact wpAny_truthy_bool ⟨H3,I3,q3⟩
def tChain (r r':R2) (ta tb tc:TE):TE:=fun σ H Q=>ta σ H fun x H1=>tb σ H1 fun y H2=>r x y H2 fun z H3=>∃ k,z=.bl k ∧
 (if k=true then tc σ H3 fun w' H4=>r' y w' H4 Q else Q (.bl false) H3)
theorem pe_chain {op op':CmpOp}{r r':R2} (ho:OpR X (compareOp op) r) (ho':OpR X (compareOp op') r') (ha:PE X a ta) (hb:PE X b tb) (hc:PE X c tc)
  (hm:lastMarks [op,op'] [b,c]=false:=by with_unfolding_all rfl):PE X (.Compare a [op,op'] [b,c] pos) (tChain r r' ta tb tc):=by
 intro pins s σ H Q I h
 refine Compare_chain (thn (ha pins s σ H _ I h) fun v s1 ⟨x,H1,I1,r1,q1⟩=>chain_link (thn (hb pins s1 σ H1 _ I1 q1) fun u s2 ⟨y,H2,I2,r2,q2⟩ =>
  thn (ho pins s2 σ H2 x y v u _ I2 r1 r2 q2) fun d s3 ⟨z,H3,I3,r3,k,e,q3⟩=>?_)) hm
 subst e
 cases r3
 refine wpAny_truthy_bool ?_
 cases k with
 | false=>exact ite_ff ⟨.bl false,H3,I3,rfl,q3⟩
 | true=>exact ite_tt (chain_last (thn (hc pins s3 σ H3 _ I3 q3) fun w' s4 ⟨z',H4,I4,r4,q4⟩=>ho' pins s4 σ H4 y z' u w' Q I4 r2 r4 q4))
def TruV (K:PySem.W.Frag) (x:V) (H:Hp) (k:Bool):Prop :=
 match x with
 | .non=>k=false
 | .bl b=>k=b
 | .int i=>k=(i != 0)
 | .str y=>y.length≤sizeLine∧k=((y.length:Int) != 0)
 | .byt y=>y.size≤sizeLine∧k=((y.size:Int) != 0)
 | .ref p=>(∃ xs,SqL K H p xs∧k=!xs.isEmpty)∨(∃ xs,SqT K H p xs∧k=!xs.isEmpty)∨∃ kvs,H p=some (.dK kvs)∧k=!kvs.isEmpty
 | _=>False
theorem isEmpty_kv {κ:Type}{kvs:List (κ×V)}{vs:List (κ×Value)} (r:KV kvs vs):(!vs.isEmpty)=!kvs.isEmpty:=by
 cases r <;> rfl
theorem isEmpty_of {xs:List V}{its:List Value} (r:Vals xs its):(!its.toArray.isEmpty)=!xs.isEmpty:=by
 cases r <;> simp
theorem line63:(sizeLine:Nat)<2 ^ 63:=by rw [sizeLine_eq]; decide
theorem tru_ok:TruR X (fun x H Q=>∃ k,TruV X.K x H k∧Q k H):=by
 intro pins s σ H x v Q I rx h
 obtain⟨k,e,q⟩:=h
 have hl:=line63
 have hs:sizeLine=16777216:=sizeLine_eq
 cases x with
 | non =>
  cases rx
  have e':k=false:=e
  subst e'
  exact truthy_none ⟨H,I,q⟩
 | bl b =>
  cases rx
  have e':k=b:=e
  subst e'
  exact wpAny_truthy_bool ⟨H,I,q⟩
 | int i =>
  obtain⟨t,rfl⟩:=rx
  have e':k=(i != 0):=e
  subst e'
  exact PySem.P.truthy_int ⟨H,I,q⟩
 | str y =>
  obtain⟨t,rfl⟩:=rx
  obtain⟨hy,e'⟩:y.length≤sizeLine∧k=((y.length:Int) != 0):=e
  subst e'
  exact PySem.P.truthy_str (by lia) ⟨H,I.tok _,q⟩
 | byt y =>
  obtain⟨t,rfl⟩:=rx
  obtain⟨hy,e'⟩:y.size≤sizeLine∧k=((y.size:Int) != 0):=e
  subst e'
  exact PySem.W.truthy_bytes (by lia) ⟨H,I.tok _,q⟩
 | ref p =>
  cases rx
  have e':(∃ xs,SqL X.K H p xs∧k=!xs.isEmpty)∨(∃ xs,SqT X.K H p xs∧k=!xs.isEmpty)∨∃ kvs,H p=some (.dK kvs)∧k=!kvs.isEmpty:=e
  rcases e' with⟨xs,hx,e'⟩ | ⟨xs,hx,e'⟩ | ⟨kvs,hx,e'⟩
  ·subst e'
   obtain⟨its,r,pl,hz⟩:=I.list hx
   have hlen:=r.length
   exact wpAny_truthy_list pl.isList (by simp only [List.size_toArray]; lia) ⟨H,I.tok _,by rw [isEmpty_of r]; exact q⟩
  ·subst e'
   obtain⟨its,r,pl,hz⟩:=I.tuple hx
   have hlen:=r.length
   exact truthy_tuple pl (by simp only [List.size_toArray]; lia) ⟨H,I.tok _,by rw [isEmpty_of r]; exact q⟩
  ·subst e'
   obtain⟨hz,hS,vs,r,m⟩:kvs.length≤sizeLine∧(p == sysModules)=false∧∃ vs,KV kvs vs∧s.heap.DictOf (mixKind X.prog X.w) p vs:=I.hok p _ hx
   have hlen:kvs.length=vs.length:=Paired.length r
   exact wpAny_truthy_dict hS m (by lia) ⟨H,I.tok _,by rw [isEmpty_kv r]; exact q⟩
 | _=>exact (show False from e).elim
theorem pt_truth (ha:PE X a ta) (he:∀ whole,isTrue a X.env whole=(do let v ← whole; standAt a.pos; holding [v] (truthy v))) :
  PT X a (fun σ H Q=>ta σ H fun x H'=>∃ k,TruV X.K x H' k∧Q k H'):=by
 intro pins s σ H Q I h
 exact isTrue_plain (thn (ha pins s σ H _ I h) fun v s1 ⟨x,H1,I1,r1,q1⟩=>tru_ok pins s1 σ H1 x v Q I1 r1 q1) (he _)
theorem op_add_str:OpR X (binaryOp .Add) (fun x y H Q=>∃ i j,x=.str i∧y=.str j∧i.length+j.length≤sizeLine∧Q (.str (i++j)) H):=by
 intro pins s σ H x y v u Q I rx ry h
 obtain⟨i,j,rfl,rfl,hz,q⟩:=h
 obtain⟨t,rfl⟩:=rx
 obtain⟨t',rfl⟩:=ry
 exact add_str (fun t' tk=>⟨.str (i++j),H,I.tok _,⟨_,rfl⟩,q⟩) hz
theorem vals1 {x:V}{us:List Value} (r:Vals [x] us):∃ u,us=[u]∧RelV x u:=by
 cases r with
 | cons r1 r2=>cases r2; exact⟨_,rfl,r1⟩
theorem vals2 {x y:V}{us:List Value} (r:Vals [x,y] us):∃ u w',us=[u,w']∧RelV x u∧RelV y w':=by
 cases r with
 | cons r1 r2 =>
  cases r2 with
  | cons r3 r4=>cases r4; exact⟨_,_,rfl,r1,r3⟩
theorem call_min2 (hc:X.calm=true):CallR X (.builtin "min") (fun xs H Q=>∃ i j,xs=[.int i,.int j]∧Q (.int (if j<i then j else i)) H):=by
 intro pins s σ H xs us Q I r h
 obtain⟨i,j,rfl,q⟩:=h
 obtain⟨u,w',rfl,⟨t,rfl⟩,⟨t',rfl⟩⟩:=vals2 r
 refine min_two_ints (I.ok.hd hc) fun h' tk k=>⟨_,H,I.kept k,?_,q⟩
 by_cases hj:j<i
 ·rw [if_pos hj,if_pos hj]; exact⟨_,rfl⟩
 ·rw [if_neg hj,if_neg hj]; exact⟨_,rfl⟩
end
end L2
namespace L2
open PySem PySem.Spec PyProof.Rows
structure ObjM (h:Heap) (x dx C:Addr) (mA:Str→Option Value):Prop where
 obj:h.get? x=some (PySem.W.instObj C dx)
 ns:h.Ns1 dx mA
 ne:dx≠x
theorem lookIn_ns {h:Heap}{dx:Addr}{mA:Str→Option Value} (n:h.Ns1 dx mA):∃ od,h.get? dx=some od∧∀ name,PySem.W.lookIn name od=some (mA name):=by
 obtain⟨o,es,ep,ho,hd,hk,_,hm⟩:=n
 refine⟨o,ho,fun name=>?_⟩
 have e:=hm name
 unfold nsFind findBy at e
 rw [← Array.find?_toList] at e
 unfold PySem.W.lookIn
 rw [hd]
 dsimp only
 split
 ·rename_i y q
  rw [q] at e
  exact congrArg some e
 ·rename_i q
  rw [q] at e
  have a:es.toList.any (·.refKey)=false:=by
   rw [List.any_eq_false]
   intro y hy
   obtain⟨z,t,hkey⟩:=hk y (Array.mem_toList_iff.mp hy)
   simp [DictEntry.refKey,hkey]
  have a':¬ es.toList.any (·.refKey)=true:=by rw [a]; exact Bool.false_ne_true
  rw [if_neg a']
  exact congrArg some e
theorem ObjM.look {h:Heap}{x dx C:Addr}{mA:Str→Option Value} (I:ObjM h x dx C mA):∃ od,PySem.W.InstAt h x (PySem.W.instObj C dx) C (some od)∧∀ name,PySem.W.lookIn name od=some (mA name) :=
 let ⟨od,ho,hl⟩:=lookIn_ns I.ns
 ⟨od,⟨I.obj,rfl,rfl,ho⟩,hl⟩
section
variable {prog:Program}{w:World}{A:Around}{E:Value→Shared→Prop}{s:Shared}{K:PySem.W.Frag}{x dx C f:Addr}{mA:Str→Option Value}{name:Str}{v:Value}
theorem get_map {expr:Bool}{Q:Value→Shared→Prop} (X:K.In s.heap) (I:ObjM s.heap x dx C mA) (hg:PySem.W.plainGet K C name=true) (hh:PySem.W.hasDictIn K C=true)
  (ha:PySem.W.findIn K (.ref C) name=some none) (hv:mA name=some v) (hv':PySem.W.handedIn v=true) (h:Q v { s with toks:=s.toks+1 }) :
  wpAny (model prog w) A (getAttr (.ref x) name expr) Q E s:=by
 obtain⟨od,J,hl⟩:=I.look
 exact PySem.W.get_value X J (PySem.W.plainGet_of hg).1 (PySem.W.findObj_own hh ha rfl (by rw [hl,hv])) hv' h
theorem get_meth {pl:Sem Bool}{Q:Value×List Value→Shared→Prop} (X:K.In s.heap) (I:ObjM s.heap x dx C mA) (hg:PySem.W.plainGet K C name=true)
  (hf:PySem.W.findIn K (.ref C) name=some (some (.ref f))) (ht:PySem.W.isFn K (.ref f)=true) (hv:mA name=none) (h:Q (.ref f,[.ref x]) s) :
  wpAny (model prog w) A (getMethod (.ref x) name pl) Q E s:=by
 obtain⟨od,J,hl⟩:=I.look
 exact PySem.W.method_fn X J (PySem.W.plainGet_of hg).1 (PySem.W.plainGet_of hg).2 hf (beq_iff_eq.mp ht) (by show (PySem.W.lookIn name od).map (·.isSome)=some false; rw [hl,hv]; rfl) h
theorem set_map {ns:List Str}{Q:Unit→Shared→Prop} (X:K.In s.heap) (I:ObjM s.heap x dx C mA)
  (hs:PySem.W.findIn K (.ref C) "__setattr__"=some (some (.builtin "object.__setattr__"))) (hp:PySem.W.plainOver K C=true) (ht:PySem.W.takerIn K C name=some none) (hh:PySem.W.hasDictIn K C=true)
  (hw:PySem.Within mA ns) (hsz:ns.length≤sizeLine)
  (h:∀ h',ObjM h' x dx C (fun y=>if y=name then some v else mA y)→Heap.SameBut dx s.heap h'→Q () { s with heap:=h',toks:=s.toks+2 }) :
  wpAny (model prog w) A (setAttr (.ref x) name v) Q E s:=by
 obtain⟨od,J,hl⟩:=I.look
 refine PySem.W.set_plain X J hs (PySem.W.osa_open (s:={ s with toks:=s.toks+1 }) (r:=none) X J hp ht fun b=>?_)
 obtain⟨cd,hc,hd'⟩:=PySem.W.any_some hh
 have hx:s.heap.get? x=some ⟨.ref C,some dx,.plain,#[]⟩:=I.obj
 refine wpAny_bind (wpAny_pure (wpAny_bind (wpAny_bind (wpAny_loadPart hx (wpAny_bind (PySem.W.Looks.here (s:={ s with toks:=s.toks+1 }) (PySem.W.looks_clsIn X hc) ?_))))))
 rw [hd']
 refine wpAny_pure (a:=some dx) (wpAny_bind (wpAny_pure (wpAny_bind ?_)))
 refine wpAny_nsSet1 (s:={ s with toks:=s.toks+1 }) I.ns fun h' hn2 hs2=>?_
 obtain⟨oD,esD,epD,hoD,hdD,hcD⟩:=hn2.count (PySem.Within.cons name v hw)
 refine wpAny_bind (wpAny_lookBehind hoD (by rw [hdD]; exact pastItsLine_dict (Nat.le_trans hcD (by rw [List.length_cons]; lia))) ?_)
 exact wpAny_pure (h _ ⟨(hs2.2 _ (Ne.symm I.ne)).trans I.obj,hn2,I.ne⟩ hs2)
theorem make_map {R:Result→Shared→Prop}{vs:List Value}{kw:List (Str×Value)} (X:K.In s.heap) (hm:PySem.W.makesIn K C=true)
  (hi:PySem.W.findIn K (.ref C) "__init__"=some (some (.ref f))) (hf:PySem.W.typeIn K (.ref f)=some (.type "function"))
  (h:codeAny (model prog w) (A.under (.builtin "type.__call__" ⟨.ref C::vs,kw⟩)) (.call (.ref f) ⟨.ref (s.heap.objs.size+1)::vs,kw⟩) (PySem.W.InitBack (s.heap.objs.size+1) R)
   { s with heap:=(s.heap.push PySem.W.emptyDict).push (PySem.W.instObj C s.heap.objs.size) }) :
  codeAny (model prog w) A (.call (.ref C) ⟨vs,kw⟩) R s:=by
 obtain⟨hh,g,d,t,os⟩:=s
 exact PySem.W.make_core (PySem.W.makes_of X hm) (PySem.W.looks_findIn X hi) (fun self=>PySem.W.bind_fn X self hf) (.inl rfl) h
end
def putF (f:Str) (v:V):List (Str×V)→List (Str×V)
 | []=>[(f,v)]
 | (g,x)::r=>if g=f then (g,v)::r else (g,x)::putF f v r
theorem lookup_putF (f g:Str) (v:V):∀ fs:List (Str×V),(putF f v fs).lookup g=if g=f then some v else fs.lookup g
 | []=>by
  show List.lookup g [(f,v)]=_
  by_cases h:g=f
  ·have hb:(g == f)=true:=beq_iff_eq.mpr h
   simp only [List.lookup,hb,if_pos h]
  ·have hb:(g == f)=false:=beq_eq_false_iff_ne.mpr h
   simp only [List.lookup,hb,if_neg h]
 | (k,x)::r=>by
  have ih:=lookup_putF f g v r
  rw [show putF f v ((k,x)::r)=(if k=f then (k,v)::r else (k,x)::putF f v r) from rfl]
  by_cases hk:k=f
  ·rw [if_pos hk]
   by_cases h:g=k
   ·have hb:(g == k)=true:=beq_iff_eq.mpr h
    simp only [List.lookup,hb,if_pos (h.trans hk)]
   ·have hb:(g == k)=false:=beq_eq_false_iff_ne.mpr h
    simp only [List.lookup,hb,if_neg (fun e:g=f=>h (e.trans hk.symm))]
  ·rw [if_neg hk]
   by_cases h:g=k
   ·have hb:(g == k)=true:=beq_iff_eq.mpr h
    simp only [List.lookup,hb,if_neg (fun e:g=f=>hk (h.symm.trans e))]
   ·have hb:(g == k)=false:=beq_eq_false_iff_ne.mpr h
    simp only [List.lookup,hb]
    exact ih
theorem keys_putF (f:Str) (v:V):∀ fs:List (Str×V),f∈(putF f v fs).map (·.1)∧∀ g,g∈fs.map (·.1)→g∈(putF f v fs).map (·.1)
 | []=>⟨by simp [putF],fun g h=>by simp at h⟩
 | (k,x)::r=>by
  obtain⟨i1,i2⟩:=keys_putF f v r
  rw [show putF f v ((k,x)::r)=(if k=f then (k,v)::r else (k,x)::putF f v r) from rfl]
  by_cases hk:k=f
  ·rw [if_pos hk]
   subst hk
   exact⟨by simp,fun g h=>by simpa using h⟩
  ·rw [if_neg hk]
   refine⟨?_,fun g h=>?_⟩
   ·rw [List.map_cons]
    exact List.mem_cons_of_mem _ i1
   ·rw [List.map_cons] at h ⊢
    rcases List.mem_cons.mp h with e | e
    ·exact List.mem_cons.mpr (.inl e)
    ·exact List.mem_cons_of_mem _ (i2 g e)
theorem length_putF (f:Str) (v:V):∀ fs:List (Str×V),(putF f v fs).length≤fs.length+1
 | []=>by simp [putF]
 | (k,x)::r=>by
  have ih:=length_putF f v r
  rw [show putF f v ((k,x)::r)=(if k=f then (k,v)::r else (k,x)::putF f v r) from rfl]
  by_cases hk:k=f
  ·rw [if_pos hk,List.length_cons,List.length_cons]; lia
  ·rw [if_neg hk,List.length_cons,List.length_cons]; lia
theorem RelO.some_of {v:V}{o:Option Value} (r:RelO (some v) o):∃ u,o=some u∧RelV v u:=by
 cases o with
 | none=>exact (show False from r).elim
 | some u=>exact⟨u,rfl,r⟩
theorem RelO.none_of {o:Option Value} (r:RelO none o):o=none:=by
 cases o with
 | none=>rfl
 | some u=>exact (show False from r).elim
theorem handed_of {v:V}{u:Value} (r:RelV v u):PySem.W.handedIn u=true:=by
 cases v with
 | non=>cases (show u=Value.none from r); rfl
 | bl b=>cases (show u=Value.bool b from r); rfl
 | int i=>obtain⟨t,e⟩:=(show ∃ t,u=Value.int i t from r); cases e; rfl
 | str x=>obtain⟨t,e⟩:=(show ∃ t,u=Value.str x t from r); cases e; rfl
 | byt b=>obtain⟨t,e⟩:=(show ∃ t,u=Value.bytes b t from r); cases e; rfl
 | flt b=>obtain⟨t,e⟩:=(show ∃ t,u=Value.float b t from r); cases e; rfl
 | ref a=>cases (show u=Value.ref a from r); rfl
 | ty n=>cases (show u=Value.type n from r); rfl
section
variable {P:Program}{w:World}{H H':Hp}{h h':Heap}{a C dx:Addr}{fs fs':List (Str×V)}
theorem ins_get (hok:HOk P w H h) (e:H a=some (.ins C dx fs)):∃ mA,ObjM h a dx C mA∧(∀ f,RelO (fs.lookup f) (mA f))∧PySem.Within mA (fs.map (·.1))∧fs.length≤1000∧H dx=some (.own a):=by
 obtain⟨d,z,ne,ob,mA,n,r,q⟩:=(show ObjOk P w H h a (.ins C dx fs) from hok a _ e)
 exact⟨mA,⟨ob,n,ne⟩,r,q,z,d⟩
end
structure Cls (K:PySem.W.Frag) (C:Addr):Prop where
 pg:PySem.W.plainGet K C Str.empty=true
 hd:PySem.W.hasDictIn K C=true
 po:PySem.W.plainOver K C=true
 sa:PySem.W.findIn K (.ref C) "__setattr__"=some (some (.builtin "object.__setattr__"))
theorem Cls.get {K:PySem.W.Frag}{C:Addr} (c:Cls K C) (f:Str):PySem.W.plainGet K C f=true:=c.pg
def NoAttr (K:PySem.W.Frag) (C:Addr) (f:Str):Prop:=PySem.W.findIn K (.ref C) f=some none
theorem NoAttr.taker {K:PySem.W.Frag}{C:Addr}{f:Str} (n:NoAttr K C f):PySem.W.takerIn K C f=some none:=by
 unfold PySem.W.takerIn
 rw [show PySem.W.findIn K (.ref C) f=some none from n]
 rfl
structure Meth (K:PySem.W.Frag) (C:Addr) (m:Str) (f:Addr):Prop where
 at_:PySem.W.findIn K (.ref C) m=some (some (.ref f))
 fn:PySem.W.isFn K (.ref f)=true
 kp:PySem.W.keepIn K (.ref f)=true
section
variable {X:Cx}{pins:List (Addr×Obj)}{σ:St}{H:Hp}{s:Shared}{a C dx:Addr}{fs:List (Str×V)}{f:Str}{v:V}{A:Around}{E:Value→Shared→Prop}
theorem getattr_ok {b:Bool}{Q:Value→Shared→Prop} (I:Inv X pins σ H s) (e:H a=some (.ins C dx fs)) (c:Cls X.K C) (n:NoAttr X.K C f) (l:fs.lookup f=some v)
  (h:∀ u s',Inv X pins σ H s'→RelV v u→Q u s'):wpAny (model X.prog X.w) A (getAttr (.ref a) f b) Q E s:=by
 obtain⟨mA,O,r,_,_,_⟩:=ins_get I.hok e
 obtain⟨u,hu,ru⟩:=RelO.some_of (v:=v) (o:=mA f) (by rw [← l]; exact r f)
 exact get_map I.kIn O (c.get f) c.hd n hu (handed_of ru) (h u _ (I.tok _) ru)
theorem getmeth_ok {m:Str}{g:Addr}{pl:Sem Bool}{Q:Value×List Value→Shared→Prop} (I:Inv X pins σ H s) (e:H a=some (.ins C dx fs)) (c:Cls X.K C) (k:Meth X.K C m g) (l:fs.lookup m=none)
  (h:Q (.ref g,[.ref a]) s):wpAny (model X.prog X.w) A (getMethod (.ref a) m pl) Q E s:=by
 obtain⟨mA,O,r,_,_,_⟩:=ins_get I.hok e
 have hn:mA m=none:=RelO.none_of (by rw [← l]; exact r m)
 exact get_meth I.kIn O (c.get m) k.at_ k.fn hn h
theorem setattr_ok {y:V}{u:Value}{Q:Unit→Shared→Prop} (I:Inv X pins σ H s) (e:H a=some (.ins C dx fs)) (c:Cls X.K C) (n:NoAttr X.K C f) (hl:fs.length<1000) (ry:RelV y u)
  (h:∀ s',Inv X pins σ (upd H a (.ins C dx (putF f y fs))) s'→Q () s'):wpAny (model X.prog X.w) A (setAttr (.ref a) f u) Q E s:=by
 obtain⟨mA,O,r,wi,_,ho⟩:=ins_get I.hok e
 have hz:(fs.map (·.1)).length≤sizeLine:=by rw [List.length_map,sizeLine_eq]; lia
 refine set_map I.kIn O c.sa c.po n.taker c.hd wi hz fun h' O' sb=>h _ ?_
 have hd:∃ o,h'.get? dx=some o:=let ⟨o,_,_,e',_⟩:=O'.ns; ⟨o,e'⟩
 refine I.write (x:=a) (e:=dx) (by rw [e]; exact True.intro) (.inr ho) (fun b q hb z=>(sb.2 b hb).trans z) hd ?_
 refine⟨by rw [upd_ne O.ne]; exact ho,?_,O.ne,O'.obj,_,O'.ns,fun g=>?_,fun g hg=>?_⟩
 ·have:=length_putF f y fs; lia
 ·show RelO ((putF f y fs).lookup g) (if g=f then some u else mA g)
  rw [lookup_putF]
  by_cases q:g=f
  ·rw [if_pos q,if_pos q]; exact ry
  ·rw [if_neg q,if_neg q]; exact r g
 ·by_cases q:g=f
  ·rw [q]; exact (keys_putF f y fs).1
  ·refine (keys_putF f y fs).2 g (wi g fun z=>hg ?_)
   show (if g=f then some u else mA g)=none
   rw [if_neg q]; exact z
theorem Inv.made (I:Inv X pins σ H s):Inv X pins σ (upd (upd H s.heap.objs.size (.own (s.heap.objs.size+1))) (s.heap.objs.size+1) (.ins C s.heap.objs.size []))
  { s with heap:=(s.heap.push PySem.W.emptyDict).push (PySem.W.instObj C s.heap.objs.size) }:=by
 have e1:(s.heap.push PySem.W.emptyDict).get? s.heap.objs.size=some PySem.W.emptyDict:=Heap.get?_push_size s.heap rfl
 have e2:((s.heap.push PySem.W.emptyDict).push (PySem.W.instObj C s.heap.objs.size)).get? (s.heap.objs.size+1)=some (PySem.W.instObj C s.heap.objs.size):=by
  have:=Heap.get?_push_size (s.heap.push PySem.W.emptyDict) (o:=PySem.W.instObj C s.heap.objs.size) rfl
  rwa [Heap.size_push] at this
 have e3:(s.heap.push PySem.W.emptyDict).Ns s.heap.objs.size (fun _=>none):=⟨PySem.W.emptyDict,#[],_,e1,rfl,(fun e he=>absurd he (by simp)),fun _=>rfl⟩
 have I1:=I.laid (a:=s.heap.objs.size) (o:=.own (s.heap.objs.size+1)) (h':=s.heap.push PySem.W.emptyDict) (t':=s.toks) (fun b u q=>Heap.get?_push_of_some _ q) (Nat.le_refl _) ⟨_,e1⟩
 refine I1.laid (a:=s.heap.objs.size+1) (o:=.ins C s.heap.objs.size []) (t':=s.toks) (fun b u q=>Heap.get?_push_of_some _ q) (Nat.le_of_eq (Heap.size_push _ _)) ?_
 have ne:s.heap.objs.size≠s.heap.objs.size+1:=Nat.ne_of_lt (Nat.lt_succ_self _)
 refine⟨by rw [upd_ne ne,upd_same],Nat.zero_le _,ne,e2,fun _=>none,(Heap.Ns1.of_empty e3).at fun o q=>Heap.get?_push_of_some _ q,fun _=>True.intro,fun y hy=>absurd rfl hy⟩
theorem attr_of {prog:Program}{w:World}{env:Env}{e:Expr}{f:Str}{pos:Pos}{s:Shared}{Q:Value→Shared→Prop} (hb:attributeBase e f env (eval e env)=eval e env)
  (h:wpAny (model prog w) A (eval e env) (fun o s₁=>wpAny (model prog w) A (getAttr o f true) Q E s₁) E s):wpAny (model prog w) A (eval (.Attribute e f pos) env) Q E s :=
 Attribute_any_ h (by rw [arm_eval_Attribute,hb])
end
def tFld (K:PySem.W.Frag) (ta:TE) (f:Str):TE:=fun σ H Q=>ta σ H fun x H1=>∃ a C dx fs v,x=.ref a∧H1 a=some (.ins C dx fs)∧Cls K C∧NoAttr K C f∧fs.lookup f=some v∧Q v H1
def sFld (K:PySem.W.Frag) (ta tv:TE) (f:Str):TS:=fun D σ H=>tv σ H fun y H1=>ta σ H1 fun x H2=>∃ a C dx fs,x=.ref a∧H2 a=some (.ins C dx fs)∧Cls K C∧NoAttr K C f∧fs.length<1000 ∧
 D.nx σ (upd H2 a (.ins C dx (putF f y fs)))
def InOp (X:Cx) (op:Operator) (rd:V→V→Hp→VK→Prop):Prop :=
 ∀ (pins:List (Addr×Obj)) (s:Shared) (σ:St) (H:Hp) (x y:V) (u v:Value) (Q:VK),Inv X pins σ H s→RelV x u→RelV y v→rd x y H Q→wpAny (model X.prog X.w) X.A (inplaceOp op u v) (EP X pins σ Q) X.xe s
def sFldAug (K:PySem.W.Frag) (ta tv:TE) (rd:V→V→Hp→VK→Prop) (f:Str):TS:=fun D σ H=>ta σ H fun x H1=>∃ a C dx fs v,x=.ref a∧H1 a=some (.ins C dx fs)∧Cls K C∧NoAttr K C f∧fs.lookup f=some v ∧
 tv σ H1 fun y H2=>rd v y H2 fun z H3=>∃ dx' fs',H3 a=some (.ins C dx' fs')∧fs'.length<1000∧D.nx σ (upd H3 a (.ins C dx' (putF f z fs')))
section
variable {X:Cx}{o e value:Expr}{f:Str}{pos pos' tpos:Pos}{ta tv:TE}
theorem pe_fld (he:PE X e ta) (hb:attributeBase e f X.env (eval e X.env)=eval e X.env):PE X (.Attribute e f pos) (tFld X.K ta f):=by
 intro pins s σ H Q I h
 refine attr_of hb (thn (he pins s σ H _ I h) fun u s1 ⟨x,H1,I1,rx,a,C,dx,fs,v,ex,ea,c,n,l,q⟩=>?_)
 subst ex
 obtain rfl:u=Value.ref a:=rx
 exact getattr_ok I1 ea c n l fun u' s2 I2 ru=>⟨v,H1,I2,ru,q⟩
theorem ps_fld (ha:PE X o ta) (hv:PE X value tv) (hs:swapsWith value (some (.Attribute o f pos')) pos.line X.env=pure false):PS X (.Assign [.Attribute o f pos'] value pos) (sFld X.K ta tv f):=by
 intro pins s σ H D I h
 refine plainObj_wpAny_Assign_Attribute (thn (hv pins s σ H _ I h) fun u s1 ⟨y,H1,I1,ry,q⟩=>thn (ha pins s1 σ H1 _ I1 q) fun ov s2 ⟨x,H2,I2,rx,a,C,dx,fs,ex,ea,c,n,l,q2⟩=>?_) hs
 subst ex
 obtain rfl:ov=Value.ref a:=rx
 exact setattr_ok I2 ea c n l ry fun s3 I3=>⟨σ,_,I3,q2⟩
theorem ps_fldaug {op:Operator}{rd:V→V→Hp→VK→Prop} (ha:PE X o ta) (hv:PE X value tv) (hop:InOp X op rd):PS X (.AugAssign (.Attribute o f tpos) op value pos) (sFldAug X.K ta tv rd f):=by
 intro pins s σ H D I h
 refine wpAny_AugAssign_AttributeAny (thn (ha pins s σ H _ I h) fun ov s1 ⟨x,H1,I1,rx,a,C,dx,fs,v,ex,ea,c,n,l,q⟩=>?_)
 subst ex
 obtain rfl:ov=Value.ref a:=rx
 refine getattr_ok I1 ea c n l fun u s2 I2 ru=>thn (hv pins s2 σ H1 _ I2 q) fun w3 s3 ⟨y,H2,I3,ry,q3⟩=>thn (hop pins s3 σ H2 v y u w3 _ I3 ru ry q3) fun w4 s4 ⟨z,H3,I4,rz,dx',fs',ea',l',q4⟩=>?_
 exact setattr_ok I4 ea' c n l' rz fun s5 I5=>⟨σ,_,I5,q4⟩
def rAdd:V→V→Hp→VK→Prop:=fun x y H Q=>∃ i j,x=.int i∧y=.int j∧Q (.int (i+j)) H
def rSub:V→V→Hp→VK→Prop:=fun x y H Q=>∃ i j,x=.int i∧y=.int j∧Q (.int (i - j)) H
theorem in_add:InOp X .Add rAdd:=by
 rintro pins s σ H x y u v Q I rx ry ⟨i,j,rfl,rfl,q⟩
 obtain⟨t,rfl⟩:=(show ∃ t,u=Value.int i t from rx)
 obtain⟨t',rfl⟩:=(show ∃ t',v=Value.int j t' from ry)
 exact PyProof.Rows.iadd_int ⟨.int (i+j),H,I.tok _,⟨_,rfl⟩,q⟩
theorem in_sub:InOp X .Sub rSub:=by
 rintro pins s σ H x y u v Q I rx ry ⟨i,j,rfl,rfl,q⟩
 obtain⟨t,rfl⟩:=(show ∃ t,u=Value.int i t from rx)
 obtain⟨t',rfl⟩:=(show ∃ t',v=Value.int j t' from ry)
 exact PyProof.Rows.isub_int ⟨.int (i - j),H,I.tok _,⟨_,rfl⟩,q⟩
end
section
variable {X:Cx}{pins:List (Addr×Obj)}{σ:St}{H:Hp}{s:Shared}{A:Around}{E:Value→Shared→Prop}{Q:Value→Shared→Prop}{c:Value}{b:Bool}
inductive TyOf (K:PySem.W.Frag) (H:Hp):V→Value→Prop where
 | non:TyOf K H .non (.type "NoneType")
 | bl (x:Bool):TyOf K H (.bl x) (.type "bool")
 | int (i:Int):TyOf K H (.int i) (.type "int")
 | str (x:Str):TyOf K H (.str x) (.type "str")
 | flt (x:UInt64):TyOf K H (.flt x) (.type "float")
 | lst {a:Addr}{xs:List V} (e:H a=some (.lst xs)):TyOf K H (.ref a) (.type "list")
 | frz {a:Addr}{o:Obj}{xs:List V} (e:H a=some (.frz o (.lst xs))):TyOf K H (.ref a) (.type "list")
 | tup {a:Addr}{xs:List V} (e:H a=some (.tup xs)):TyOf K H (.ref a) (.type "tuple")
 | dK {a:Addr}{kvs:List (Key×V)} (e:H a=some (.dK kvs)):TyOf K H (.ref a) (.type "dict")
 | dT {a:Addr}{kvs:List (List Key×V)} (e:H a=some (.dT kvs)):TyOf K H (.ref a) (.type "dict")
 | ins {a C dx:Addr}{fs:List (Str×V)} (e:H a=some (.ins C dx fs)) (cl:Cls K C) (ha:PySem.W.findIn K (.ref C) "__class__"=some (some (.builtin "object.__class__")))
   (hn:PySem.W.specialIn K (.builtin "object.__class__") "__get__"=some (some (.builtin "getset_descriptor.__get__"))) (htk:PySem.W.takesIn K (.builtin "object.__class__")=some true)
   (hm:PySem.W.mroIn K C (.type "object")=some true):TyOf K H (.ref a) (.ref C)
theorem isinst_ok {x:V}{u t:Value} (I:Inv X pins σ H s) (rx:RelV x u) (ty:TyOf X.K H x t) (e:PySem.W.kitOne X.K t c=some b) (h:∀ tk,Q (.bool b) { s with toks:=tk }) :
  wpAny (model X.prog X.w) A (call (.builtin "isinstance") [u,c]) Q E s:=by
 cases ty with
 | non=>cases (show u=Value.none from rx); exact PySem.W.kia_one PySem.W.kitx_none I.kIn True.intro e (fun z=>nomatch z) h
 | bl y=>cases (show u=Value.bool y from rx); exact PySem.W.kia_one PySem.W.kitx_bool I.kIn True.intro e (fun z=>nomatch z) h
 | int i=>obtain⟨t,q⟩:=(show ∃ t,u=Value.int i t from rx); cases q; exact PySem.W.kia_one PySem.W.kitx_int I.kIn True.intro e (fun z=>nomatch z) h
 | str y=>obtain⟨t,q⟩:=(show ∃ t,u=Value.str y t from rx); cases q; exact PySem.W.kia_one PySem.W.kitx_str I.kIn True.intro e (fun z=>nomatch z) h
 | flt y=>obtain⟨t,q⟩:=(show ∃ t,u=Value.float y t from rx); cases q; exact PySem.W.kia_one PySem.W.kitx_float I.kIn True.intro e (fun z=>nomatch z) h
 | @lst a xs ea =>
  cases (show u=Value.ref a from rx)
  obtain⟨_,_,n,_,h1⟩:=(show ObjOk X.prog X.w H s.heap a (.lst xs) from I.hok a _ ea)
  exact PySem.W.kia_one PySem.W.kitx_list I.kIn ⟨_,h1,rfl⟩ e (fun z=>nomatch z) h
 | @frz a ob xs ea =>
  cases (show u=Value.ref a from rx)
  obtain⟨_,_,_,n,_,h1⟩:=(show ObjOk X.prog X.w H s.heap a (.frz ob (.lst xs)) from I.hok a _ ea)
  exact PySem.W.kia_one PySem.W.kitx_list I.kIn ⟨_,h1,rfl⟩ e (fun z=>nomatch z) h
 | @tup a xs ea =>
  cases (show u=Value.ref a from rx)
  obtain⟨_,_,_,p⟩:=(show ObjOk X.prog X.w H s.heap a (.tup xs) from I.hok a _ ea)
  obtain⟨o,h1,h2,_⟩:=p
  exact PySem.W.kia_one PySem.W.kitx_tuple I.kIn ⟨o,h1,h2⟩ e (fun z=>nomatch z) h
 | @dK a kvs ea =>
  cases (show u=Value.ref a from rx)
  obtain⟨_,_,vs,_,p⟩:=(show ObjOk X.prog X.w H s.heap a (.dK kvs) from I.hok a _ ea)
  obtain⟨o,es,ep,h1,h2,_⟩:=p
  exact PySem.W.kia_one PySem.W.kitx_dict I.kIn ⟨o,h1,h2.1⟩ e (fun z=>nomatch z) h
 | @dT a kvs ea =>
  cases (show u=Value.ref a from rx)
  obtain⟨_,_,xs,_,o,es,ep,h1,h2,_⟩:=(show ObjOk X.prog X.w H s.heap a (.dT kvs) from I.hok a _ ea)
  exact PySem.W.kia_one PySem.W.kitx_dict I.kIn ⟨o,h1,h2.1⟩ e (fun z=>nomatch z) h
 | @ins a C dx fs ea cl ha hn htk hm =>
  cases (show u=Value.ref a from rx)
  obtain⟨mA,O,_⟩:=ins_get I.hok ea
  obtain⟨od,J,_⟩:=O.look
  exact PySem.W.kia_one (PySem.W.kitx_own (cl.get _) cl.hd ha hn htk hm) I.kIn J e (fun z=>nomatch z) h
end
end L2
namespace L2
open PySem PySem.Spec PyProof.Rows
structure Room (k:Nat) (A:Around):Prop where
 hd:A.handled=none
 dp:A.depth+k+5<recursionLimit
 un:A.units+16 * k+200<cLine
theorem Room.mono {j k:Nat}{A:Around} (r:Room k A) (h:j≤k):Room j A:=⟨r.hd,by have:=r.dp; lia,by have:=r.un; lia⟩
theorem Room.deeper {k:Nat}{A:Around} (r:Room (k+1) A) (env:Env):Room k (A.deeper env) :=
 ⟨r.hd,by have:=r.dp; show A.depth+1+k+5<_; lia,by have:=r.un; show A.units+3+16 * k+200<_; lia⟩
theorem make_depth {A:Around}{C:Addr}{us:List Value}{kw:List (Str×Value)}:(A.under (.builtin "type.__call__" ⟨.ref C::us,kw⟩)).depth=A.depth+1:=by
 first | rfl | simp [Around.under,Code.weight,Code.isCreation,Code.isGuard,Code.isCaller,Code.frames,Code.isFrame,guardIds]
theorem make_units {A:Around}{C:Addr}{us:List Value}{kw:List (Str×Value)}:(A.under (.builtin "type.__call__" ⟨.ref C::us,kw⟩)).units=A.units+1:=by
 first | rfl | simp [Around.under,Code.cUnits,Code.frames,Code.isFrame]
theorem Room.make {k:Nat}{A:Around} (r:Room (k+1) A) (C:Addr) (us:List Value) (kw:List (Str×Value)):Room k (A.under (.builtin "type.__call__" ⟨.ref C::us,kw⟩)) :=
 ⟨r.hd,by have:=r.dp; rw [make_depth]; lia,by have:=r.un; rw [make_units]; lia⟩
theorem Room.depth {k:Nat}{A:Around} (r:Room k A):A.depth<recursionLimit:=by have:=r.dp; lia
def tNil:TA:=fun _ H Q=>Q [] H
def tCons (ta:TE) (tr:TA):TA:=fun σ H Q=>ta σ H fun x H1=>tr σ H1 fun xs H2=>Q (x::xs) H2
section
variable {X:Cx}{e:Expr}{es:List Expr}{te:TE}{t:TA}{pos:Pos}
theorem pa_nil:PA X [] tNil:=fun _ _ _ _ H Q I h=>Calls.spliced_nil ⟨[],H,I,.nil,h⟩
theorem pa_cons (ha:PE X e te) (hr:PA X es t) (hs:starEach (e::es) X.env=(false,eval e X.env)::starEach es X.env:=by rfl):PA X (e::es) (tCons te t):=by
 intro pos pins s σ H Q I h
 rw [hs]
 show wpAny _ _ (spliced ((false,eval e X.env)::backTo pos (starEach es X.env))) _ _ s
 refine Calls.spliced_cons (thn (ha pins s σ H _ I h) fun u s1 ⟨x,H1,I1,r1,q1⟩=>?_)
 exact thn (hr pos pins s1 σ H1 _ I1 q1) fun us s2 ⟨xs,H2,I2,r2,q2⟩=>⟨x::xs,H2,I2,.cons r1 r2,q2⟩
def tTup (t:TA):TE:=fun σ H Q=>t σ H fun xs H1=>xs.length≤sizeLine∧∀ p,H1 p=none→Q (.ref p) (upd H1 p (.tup xs))
def tLst (t:TA):TE:=fun σ H Q=>t σ H fun xs H1=>xs.length≤sizeLine∧∀ p,H1 p=none→Q (.ref p) (upd H1 p (.lst xs))
theorem pe_tup {x1} (h:PA X es t):PE X (.Tuple es x1 pos) (tTup t):=by
 intro pins s σ H Q I hq
 refine wpAny_Tuple_spliced (thn (h pos pins s σ H _ I hq) fun us s1 ⟨xs,H1,I1,r,z,q⟩=>⟨by rw [← r.length]; exact z,?_⟩)
 have hf:H1 s1.heap.objs.size=none:=I1.hok.fresh (Nat.le_refl _)
 refine⟨.ref s1.heap.objs.size,upd H1 s1.heap.objs.size (.tup xs),I1.laid (t':=s1.toks) (fun b u e=>Heap.get?_push_of_some _ e) (Nat.le_refl _) ?_,rfl,q _ hf⟩
 exact⟨z,us,r,⟨_,Heap.get?_push_size _ rfl,rfl,_,rfl⟩⟩
theorem pe_lst (h:PA X es t):PE X (.List es pos) (tLst t):=by
 intro pins s σ H Q I hq
 refine wpAny_List_spliced (thn (h pos pins s σ H _ I hq) fun us s1 ⟨xs,H1,I1,r,z,q⟩=>⟨by rw [← r.length]; exact z,?_⟩)
 have hf:H1 s1.heap.objs.size=none:=I1.hok.fresh (Nat.le_refl _)
 refine⟨.ref s1.heap.objs.size,upd H1 s1.heap.objs.size (.lst xs),I1.laid (t':=s1.toks) (fun b u e=>Heap.get?_push_of_some _ e) (Nat.le_refl _) ?_,rfl,q _ hf⟩
 exact⟨z,us,0,r,Heap.get?_push_size _ rfl⟩
end
abbrev Sp:=List V→Hp→VK→XK→Prop
abbrev CXT:=List Env→Hp→Shared→XK→Value→Shared→Prop
structure Env0 (P:Program) (w:World) (K:PySem.W.Frag) (mg:Str→Option Value) (base:Heap) (A:Around) (outer:List Env) (s:Shared) (H:Hp):Prop where
 frames:A.frames=some outer
 mod:Mod K mg base
 bs:∀ b o,base.get? b=some o→s.heap.get? b=some o∧H b=none
 bsz:base.objs.size≤s.heap.objs.size
 funs:s.heap.FunFrames base outer
 frf:∀ b∈frs outer,H b=none
 hok:HOk P w H s.heap
 bare:AllBare s.gens
def CE (outer:List Env) (P:Program) (w:World) (H:Hp) (s:Shared) (Q:VK) (u:Value) (s':Shared):Prop :=
 ∃ v H',s'.os=s.os∧AllBare s'.gens∧Un (frs outer) [] H H' s.heap s'.heap∧HOk P w H' s'.heap∧RelV v u∧Q v H'
def CR (CX:CXT) (outer:List Env) (P:Program) (w:World) (H:Hp) (s:Shared) (Q:VK) (E:XK) (r:Result) (s':Shared):Prop :=
 match r with
 | .ok (.ret u)=>CE outer P w H s Q u s'
 | .ok _=>False
 | .error e=>CX outer H s E e s'
structure FnOk (P:Program) (w:World) (K:PySem.W.Frag) (mg:Str→Option Value) (base:Heap) (CX:CXT) (k:Nat) (f:Addr) (fd:FuncData) (ps:List Str) (sp:Sp):Prop where
 len:∀ vs H Q E,sp vs H Q E→vs.length=ps.length
 run:∀ (A:Around) (outer:List Env) (s:Shared) (H:Hp) (args:Args) (us:List Value) (vs:List V) (Q:VK) (E:XK),Room k A→Env0 P w K mg base A outer s H→BindsTo s fd args (ps.zip us)→Vals vs us→sp vs H Q E →
  codeAny (model P w) A (.call (.ref f) args) (CR CX outer P w H s Q E) s
theorem FnOk.mono {P:Program}{w:World}{K:PySem.W.Frag}{mg:Str→Option Value}{base:Heap}{CX:CXT}{j k:Nat}{f:Addr}{fd:FuncData}{ps:List Str}{sp:Sp} (F:FnOk P w K mg base CX j f fd ps sp) (h:j≤k) :
  FnOk P w K mg base CX k f fd ps sp:=⟨F.len,fun A outer s H args us vs Q E hr=>F.run A outer s H args us vs Q E (hr.mono h)⟩
theorem FnOk.imp {P:Program}{w:World}{K:PySem.W.Frag}{mg:Str→Option Value}{base:Heap}{CX:CXT}{k:Nat}{f:Addr}{fd:FuncData}{ps:List Str}{sp sp':Sp} (F:FnOk P w K mg base CX k f fd ps sp)
  (h:∀ vs H Q E,sp' vs H Q E→sp vs H Q E):FnOk P w K mg base CX k f fd ps sp' :=
 ⟨fun vs H Q E q=>F.len vs H Q E (h _ _ _ _ q),fun A outer s H args us vs Q E hr he hb hv hs=>F.run A outer s H args us vs Q E hr he hb hv (h _ _ _ _ hs)⟩
theorem Env0.make {P:Program}{w:World}{K:PySem.W.Frag}{mg:Str→Option Value}{base:Heap}{A:Around}{outer:List Env}{s:Shared}{H:Hp} (e:Env0 P w K mg base A outer s H) (C:Addr) (us:List Value) (kw:List (Str×Value)) :
  Env0 P w K mg base (A.under (.builtin "type.__call__" ⟨.ref C::us,kw⟩)) outer s H:=⟨by first | exact e.frames | (simpa [Around.under,Code.envs,Code.isFrame,pushEnvs] using e.frames),e.mod,e.bs,e.bsz,e.funs,e.frf,e.hok,e.bare⟩
section
variable {X:Cx}{pins:List (Addr×Obj)}{σ:St}{H:Hp}{s s':Shared}
theorem Inv.env0 (I:Inv X pins σ H s):Env0 X.prog X.w X.K X.mg X.base X.A X.stack s H :=
 ⟨I.ok.frames,I.ok.mod,I.bs,Nat.le_trans I.ok.bsz I.sz,I.stack,I.stkFree,I.hok,I.bare⟩
theorem Inv.after {Q:VK}{u:Value} (I:Inv X pins σ H s) (h:CE X.stack X.prog X.w H s Q u s'):EP X pins σ Q u s':=by
 obtain⟨v,H',os,bare,un,hok,r,q⟩:=h
 obtain⟨hh,g,d,t,os'⟩:=s'
 obtain rfl:os'=s.os:=os
 exact⟨v,H',I.call (h':=hh) (g':=g) (d':=d) (t':=t) (ch:=[]) un hok bare (fun b z=>absurd z (by simp)),r,q⟩
end
def tCall (sp:Sp) (dvs:List V) (E:XK) (t:TA):TE:=fun σ H Q=>t σ H fun vs H1=>sp (vs++dvs) H1 Q E
def tMeth (C:Addr) (m:Str) (sp:Sp) (dvs:List V) (E:XK) (ta:TE) (t:TA):TE:=fun σ H Q=>ta σ H fun x H1=>∃ a dx fs,x=.ref a∧H1 a=some (.ins C dx fs)∧fs.lookup m=none ∧
 t σ H1 fun vs H2=>sp (x::(vs++dvs)) H2 Q E
def tMake (C:Addr) (sp:Sp) (dvs:List V) (E:XK) (t:TA):TE:=fun σ H Q=>t σ H fun vs H1=>∀ x dx,H1 x=none→H1 dx=none→dx≠x →
 sp (.ref x::(vs++dvs)) (upd (upd H1 dx (.own x)) x (.ins C dx [])) (fun v H2=>v=.non∧Q (.ref x) H2) E
def Binds (K:PySem.W.Frag) (fd:FuncData) (ps:List Str) (ds:List Value):Prop :=
 ∀ (s:Shared) (us:List Value),K.In s.heap→(us++ds).length=ps.length→BindsTo s fd ⟨us,[]⟩ (ps.zip (us++ds))
theorem Binds.all {K:PySem.W.Frag}{fd:FuncData}{ps:List Str} (h:∀ us:List Value,us.length=ps.length→bindArgs fd ⟨us,[]⟩=pure (ps.zip us)):Binds K fd ps []:=fun s us _ hl=>by
 rw [List.append_nil] at hl ⊢
 exact .of_eq (h us hl)
def Passes (CX:CXT) (X:Cx) (E:XK):Prop:=∀ (pins:List (Addr×Obj)) (σ:St) (H:Hp) (s:Shared) (e:Value) (s':Shared),Inv X pins σ H s→CX X.stack H s E e s'→X.xe e s'
section
variable {X:Cx}{CX:CXT}{k:Nat}{f C:Addr}{fd:FuncData}{ps:List Str}{sp:Sp}{dvs:List V}{ds:List Value}{E:XK}{x m:Str}{p pos apos:Pos}{e o:Expr}{es:List Expr}{ta:TE}{t:TA}
theorem run_fn {pins:List (Addr×Obj)}{σ:St}{H:Hp}{s:Shared}{Q:VK}{us:List Value}{vs:List V} (F:FnOk X.prog X.w X.K X.mg X.base CX k f fd ps sp) (hr:Room k X.A) (hb:Binds X.K fd ps ds) (hd:Vals dvs ds) (hx:Passes CX X E)
  (I:Inv X pins σ H s) (r:Vals vs us) (h:sp (vs++dvs) H Q E):wpAny (model X.prog X.w) X.A (call (.ref f) us) (EP X pins σ Q) X.xe s:=by
 have r2:Vals (vs++dvs) (us++ds):=r.append hd
 have hl:(us++ds).length=ps.length:=by rw [← r2.length]; exact F.len _ _ _ _ h
 refine wpAny_call (codeAny_mono (F.run X.A X.stack s H ⟨us,[]⟩ (us++ds) (vs++dvs) Q E hr I.env0 (hb s us I.kIn hl) r2 h) fun r s' hq=>?_)
 cases r with
 | error e=>exact hx pins σ H s e s' I hq
 | ok fl =>
  cases fl with
  | ret u=>exact I.after hq
  | next=>exact False.elim hq
  | brk=>exact False.elim hq
  | cont=>exact False.elim hq
theorem pe_call (F:FnOk X.prog X.w X.K X.mg X.base CX k f fd ps sp) (hr:Room k X.A) (hg:Gl X x) (hm:X.mg x=some (.ref f)) (hk:PySem.W.keepIn X.K (.ref f)=true) (hb:Binds X.K fd ps ds) (hd:Vals dvs ds) (hx:Passes CX X E)
  (ha:PA X (e::es) t) (hdb:(x == ("__debug__":Str))=false:=by decide) (he:starEach (e::es) X.env=(false,eval e X.env)::starEach es X.env:=by rfl) (hpl:(backTo pos (starEach es X.env)).any (·.1)=false:=by rfl) :
  PE X (.Call (.Name x p) (e::es) [] pos) (tCall sp dvs E t):=by
 intro pins s σ H Q I h
 refine wpAny_Call_Name_kw (ld_glob I hg hm ?_ hdb)
 refine PySem.W.callWith_K (h₀:=X.base) I.ok.mod.kin hk (thn (ha pos pins s σ H _ I h) fun us s1 ⟨vs,H1,I1,r,q⟩=>⟨I1.kIn,?_⟩) he hpl
 exact run_fn F hr hb hd hx I1 r q
theorem pe_call0 (F:FnOk X.prog X.w X.K X.mg X.base CX k f fd ps sp) (hr:Room k X.A) (hg:Gl X x) (hm:X.mg x=some (.ref f)) (hk:PySem.W.keepIn X.K (.ref f)=true) (hb:Binds X.K fd ps ds) (hd:Vals dvs ds) (hx:Passes CX X E)
  (hdb:(x == ("__debug__":Str))=false:=by decide):PE X (.Call (.Name x p) [] [] pos) (tCall sp dvs E tNil):=by
 intro pins s σ H Q I h
 refine wpAny_Call_Name_kw (ld_glob I hg hm ?_ hdb)
 exact PySem.W.callWith_K0 I.kIn hk (run_fn (us:=[]) F hr hb hd hx I .nil h)
theorem pe_meth {pl:Sem Bool} (he:PE X o ta) (c:Cls X.K C) (hm:Meth X.K C m f) (F:FnOk X.prog X.w X.K X.mg X.base CX k f fd ps sp) (hr:Room k X.A) (hb:Binds X.K fd ps ds) (hd:Vals dvs ds) (hx:Passes CX X E) (ha:PA X (e::es) t)
  (hst:starEach (e::es) X.env=(false,eval e X.env)::starEach es X.env:=by rfl) (hpl:(backTo pos (starEach es X.env)).any (·.1)=false:=by rfl)
  (ht:eval (.Call (.Attribute o m apos) (e::es) [] pos) X.env=(do
   let ov ← eval o X.env
   standAt apos.atName
   let (f,first) ← holding [ov] (getMethod ov m pl)
   callWith pos f first (backTo pos (starEach (e::es) X.env)) (backToKw pos (keywordEach [] X.env))):=by rfl) :
  PE X (.Call (.Attribute o m apos) (e::es) [] pos) (tMeth C m sp dvs E ta t):=by
 intro pins s σ H Q I h
 refine PySem.W.methodCall_KW (pl:=pl) (thn (he pins s σ H _ I h) fun u s1 ⟨x,H1,I1,rx,a,dx,fs,ex,ea,l,q⟩=>?_) ht
 subst ex
 obtain rfl:u=Value.ref a:=rx
 refine getmeth_ok I1 ea c hm l ?_
 refine PySem.W.callWith_K (first:=[.ref a]) (h₀:=X.base) I.ok.mod.kin hm.kp (thn (ha pos pins s1 σ H1 _ I1 q) fun us s2 ⟨vs,H2,I2,r,q2⟩=>⟨I2.kIn,?_⟩) hst hpl
 exact run_fn (us:=.ref a::us) (vs:=.ref a::vs) F hr hb hd hx I2 (.cons rfl r) q2
theorem pe_meth0 {pl:Sem Bool} (he:PE X o ta) (c:Cls X.K C) (hm:Meth X.K C m f) (F:FnOk X.prog X.w X.K X.mg X.base CX k f fd ps sp) (hr:Room k X.A) (hb:Binds X.K fd ps ds) (hd:Vals dvs ds) (hx:Passes CX X E)
  (ht:eval (.Call (.Attribute o m apos) [] [] pos) X.env=(do
   let ov ← eval o X.env
   standAt apos.atName
   let (f,first) ← holding [ov] (getMethod ov m pl)
   callWith pos f first (backTo pos (starEach [] X.env)) (backToKw pos (keywordEach [] X.env))):=by rfl) :
  PE X (.Call (.Attribute o m apos) [] [] pos) (tMeth C m sp dvs E ta tNil):=by
 intro pins s σ H Q I h
 refine PySem.W.methodCall_KW (pl:=pl) (thn (he pins s σ H _ I h) fun u s1 ⟨x,H1,I1,rx,a,dx,fs,ex,ea,l,q⟩=>?_) ht
 subst ex
 obtain rfl:u=Value.ref a:=rx
 refine getmeth_ok I1 ea c hm l ?_
 exact PySem.W.callWith_K0 (first:=[.ref a]) I1.kIn hm.kp (run_fn (us:=[.ref a]) (vs:=[.ref a]) F hr hb hd hx I1 (.cons rfl .nil) q)
structure Mk (K:PySem.W.Frag) (C f:Addr):Prop where
 makes:PySem.W.makesIn K C=true
 init:PySem.W.findIn K (.ref C) "__init__"=some (some (.ref f))
 fn:PySem.W.isFn K (.ref f)=true
 kp:PySem.W.keepIn K (.ref C)=true
theorem run_make {pins:List (Addr×Obj)}{σ:St}{H:Hp}{s:Shared}{Q:VK}{us:List Value}{vs:List V} (M:Mk X.K C f) (F:FnOk X.prog X.w X.K X.mg X.base CX k f fd ps sp) (hr:Room (k+1) X.A) (hb:Binds X.K fd ps ds) (hd:Vals dvs ds)
  (hx:Passes CX X E) (I:Inv X pins σ H s) (r:Vals vs us)
  (h:∀ x dx,H x=none→H dx=none→dx≠x→sp (.ref x::(vs++dvs)) (upd (upd H dx (.own x)) x (.ins C dx [])) (fun v H2=>v=.non∧Q (.ref x) H2) E) :
  wpAny (model X.prog X.w) X.A (call (.ref C) us) (EP X pins σ Q) X.xe s:=by
 have hq:=h (s.heap.objs.size+1) s.heap.objs.size (I.hok.fresh (Nat.le_succ _)) (I.hok.fresh (Nat.le_refl _)) (Nat.ne_of_lt (Nat.lt_succ_self _))
 have I2:=Inv.made (C:=C) I
 have r2:Vals (V.ref (s.heap.objs.size+1)::(vs++dvs)) (Value.ref (s.heap.objs.size+1)::(us++ds)):=.cons rfl (r.append hd)
 have hl:(Value.ref (s.heap.objs.size+1)::us++ds).length=ps.length:=by
  have e:=r2.length
  rw [F.len _ _ _ _ hq] at e
  exact e.symm
 refine wpAny_call (make_map (f:=f) I.kIn M.makes M.init (beq_iff_eq.mp M.fn) (codeAny_mono (F.run _ X.stack _ _ ⟨Value.ref (s.heap.objs.size+1)::us,[]⟩ (Value.ref (s.heap.objs.size+1)::(us++ds)) _ _ E (hr.make C us [])
  (I2.env0.make C us []) (hb _ (Value.ref (s.heap.objs.size+1)::us) I2.kIn hl) r2 hq) fun r s' hq'=>?_))
 cases r with
 | error e=>exact hx pins σ _ _ e s' I2 hq'
 | ok fl =>
  cases fl with
  | ret u =>
   obtain⟨v,H',I3,rv,ev,q3⟩:=I2.after hq'
   subst ev
   exact⟨rv,⟨V.ref (s.heap.objs.size+1),H',I3,rfl,q3⟩⟩
  | next=>exact False.elim hq'
  | brk=>exact False.elim hq'
  | cont=>exact False.elim hq'
theorem pe_make (M:Mk X.K C f) (F:FnOk X.prog X.w X.K X.mg X.base CX k f fd ps sp) (hr:Room (k+1) X.A) (hg:Gl X x) (hm:X.mg x=some (.ref C)) (hb:Binds X.K fd ps ds) (hd:Vals dvs ds) (hx:Passes CX X E)
  (ha:PA X (e::es) t) (hdb:(x == ("__debug__":Str))=false:=by decide) (he:starEach (e::es) X.env=(false,eval e X.env)::starEach es X.env:=by rfl) (hpl:(backTo pos (starEach es X.env)).any (·.1)=false:=by rfl) :
  PE X (.Call (.Name x p) (e::es) [] pos) (tMake C sp dvs E t):=by
 intro pins s σ H Q I h
 refine wpAny_Call_Name_kw (ld_glob I hg hm ?_ hdb)
 refine PySem.W.callWith_K (h₀:=X.base) I.ok.mod.kin M.kp (thn (ha pos pins s σ H _ I h) fun us s1 ⟨vs,H1,I1,r,q⟩=>⟨I1.kIn,?_⟩) he hpl
 exact run_make M F hr hb hd hx I1 r q
theorem pe_make0 (M:Mk X.K C f) (F:FnOk X.prog X.w X.K X.mg X.base CX k f fd ps sp) (hr:Room (k+1) X.A) (hg:Gl X x) (hm:X.mg x=some (.ref C)) (hb:Binds X.K fd ps ds) (hd:Vals dvs ds) (hx:Passes CX X E)
  (hdb:(x == ("__debug__":Str))=false:=by decide):PE X (.Call (.Name x p) [] [] pos) (tMake C sp dvs E tNil):=by
 intro pins s σ H Q I h
 refine wpAny_Call_Name_kw (ld_glob I hg hm ?_ hdb)
 exact PySem.W.callWith_K0 I.kIn M.kp (run_make (us:=[]) M F hr hb hd hx I .nil h)
end
section
variable {X:Cx}{CX:CXT}{k:Nat}{f C:Addr}{fd:FuncData}{ps ks:List Str}{sp:Sp}{E:XK}{x m:Str}{p pos apos kpos:Pos}{e o:Expr}{es:List Expr}{kws:List Keyword}{te ta:TE}{t tk:TA}{nm:Option Str}
variable {g:List Value→List Value→List Value}{gV:List V→List V→List V}
end
structure FnScope (N P:List Str) (sc:Scope):Prop where
 kind:sc.kind=.function
 co:sc.isCoroutine=false
 gen:sc.isGenerator=false
 nd:N.Nodup
 pre:N.take P.length=P
 par:∀ x∈P,sc.names.lookup x=some .local∨sc.names.lookup x=some .cell
 nofree:∀ y∈sc.names,y.2≠.free
theorem bindL_out {kindOf:Str→Option NameKind}{x:Str}:∀ {binds:List (Str×Value)}{m:Str→Option Value},(∀ v,(x,v) ∉ binds)→bindL kindOf binds m x=m x
 | [],_,_=>rfl
 | (n,v)::r,m,h=>by
  unfold bindL
  rw [bindL_out fun w hw=>h w (List.mem_cons_of_mem _ hw)]
  split
  ·have:x≠n:=by rintro rfl; exact h v List.mem_cons_self
   simp [this]
  ·rfl
theorem bindC_out {kindOf:Str→Option NameKind}{x:Str}:∀ {binds:List (Str×Value)}{m:Str→Option Value},(∀ v,(x,v) ∉ binds)→bindC kindOf binds m x=m x
 | [],_,_=>rfl
 | (n,v)::r,m,h=>by
  unfold bindC
  rw [bindC_out fun w hw=>h w (List.mem_cons_of_mem _ hw)]
  split
  ·rfl
  ·have:x≠n:=by rintro rfl; exact h v List.mem_cons_self
   simp [this]
theorem bindL_get {kindOf:Str→Option NameKind}{x:Str}{v:Value}:∀ {P:List Str}{vs:List Value}{i:Nat}{m:Str→Option Value},P.Nodup→P[i]?=some x→vs[i]?=some v→kindOf x=some .local →
  bindL kindOf (P.zip vs) m x=some v
 | [],_,_,_,_,h,_,_=>by simp at h
 | _::_,[],_,_,_,_,h,_=>by simp at h
 | p::P,w::vs,0,m,nd,h1,h2,hk=>by
  simp at h1 h2; subst h1; subst h2
  show bindL kindOf ((p,w)::P.zip vs) m p=_
  unfold bindL
  rw [bindL_out fun v hv=>(List.nodup_cons.mp nd).1 (List.of_mem_zip hv).1,if_pos hk]
  simp
 | p::P,w::vs,i+1,m,nd,h1,h2,hk=>by
  show bindL kindOf ((p,w)::P.zip vs) m x=_
  unfold bindL
  exact bindL_get (i:=i) (List.nodup_cons.mp nd).2 (by simpa using h1) (by simpa using h2) hk
theorem bindC_get {kindOf:Str→Option NameKind}{x:Str}{v:Value}:∀ {P:List Str}{vs:List Value}{i:Nat}{m:Str→Option Value},P.Nodup→P[i]?=some x→vs[i]?=some v→kindOf x≠some .local →
  bindC kindOf (P.zip vs) m x=some v
 | [],_,_,_,_,h,_,_=>by simp at h
 | _::_,[],_,_,_,_,h,_=>by simp at h
 | p::P,w::vs,0,m,nd,h1,h2,hk=>by
  simp at h1 h2; subst h1; subst h2
  show bindC kindOf ((p,w)::P.zip vs) m p=_
  unfold bindC
  rw [bindC_out fun v hv=>(List.nodup_cons.mp nd).1 (List.of_mem_zip hv).1,if_neg hk]
  simp
 | p::P,w::vs,i+1,m,nd,h1,h2,hk=>by
  show bindC kindOf ((p,w)::P.zip vs) m x=_
  unfold bindC
  exact bindC_get (i:=i) (List.nodup_cons.mp nd).2 (by simpa using h1) (by simpa using h2) hk
def start (N:List Str) (vs:List V):St:=vs.map some++List.replicate (N.length - vs.length) none
def cxOf (CX:CXT) (P:Program) (w:World) (K:PySem.W.Frag) (mg:Str→Option Value) (base:Heap) (N:List Str) (qual:Str) (scope:Scope) (f:Addr) (cd:Value) (A:Around) (outer:List Env) (s:Shared) (H:Hp) (E:XK):Cx where
 prog:=P
 w:=w
 K:=K
 mg:=mg
 base:=base
 A:=A.deeper (envOfC qual scope s.heap.objs.size f cd)
 N:=N
 s₀:=s
 H₀:=H
 env:=envOfC qual scope s.heap.objs.size f cd
 outer:=outer
 stack:=envOfC qual scope s.heap.objs.size f cd::outer
 ex:=[]
 calm:=true
 fn:=fun _=>true
 pn:=[]
 xe:=fun e s'=>wpAny (model P w) (A.deeper (envOfC qual scope s.heap.objs.size f cd)) (leaving (envOfC qual scope s.heap.objs.size f cd) e) (fun _ s''=>CX outer H s E e s'') (fun e' s''=>CX outer H s E e' s'') s'
theorem cell_has {sc:Scope}{n:Nat}{x:Str} (h:sc.names.lookup x=some .cell):∃ c,(cellsFrom n sc.names []).lookup x=some c:=by
 have q:=PySem.W.cellsFrom_some sc.names n [] (.inl h)
 exact Option.isSome_iff_exists.mp q
theorem inv_start {CX:CXT}{P:Program}{w:World}{K:PySem.W.Frag}{mg:Str→Option Value}{base:Heap}{N ps:List Str}{qual:Str}{scope:Scope}{f:Addr}{cd:Value}{A:Around}{outer:List Env}{s s1:Shared}{H:Hp}{E:XK}{us:List Value}{vs:List V}
  (S:FnScope N ps scope) (hd:A.handled=none) (e0:Env0 P w K mg base A outer s H) (hl:vs.length=ps.length) (r:Vals vs us)
  (x:InCallC s s.heap.objs.size (bindL (envOfC qual scope s.heap.objs.size f cd).kindOf (ps.zip us) fun _=>none) (cellsFrom (s.heap.objs.size+1) scope.names []) (bindC (envOfC qual scope s.heap.objs.size f cd).kindOf (ps.zip us) fun _=>none) s1) :
  Inv (cxOf CX P w K mg base N qual scope f cd A outer s H E) [] (start N vs) H s1:=by
 have hpl:ps.length≤N.length:=by have:=congrArg List.length S.pre; rw [List.length_take] at this; lia
 obtain⟨h1,tk,rfl,hk⟩:=x.done
 have noA:∀ b:Addr,b ∉ (cxOf CX P w K mg base N qual scope f cd A outer s H E).ex:=fun b z=>absurd (show b∈([]:List Addr) from z) (by simp)
 refine⟨⟨e0.mod,S.kind,rfl,rfl,Nat.le_refl _,fun y z c h1 h2=>?_,fun y hy=>?_,fun y c _ h=>?_,fun _=>hd,Around.frames_deeper e0.frames,.inr ⟨rfl,rfl⟩,fun b z=>absurd z (noA b),e0.bs,e0.bsz,fun b _ _=>noA b,fun b z=>absurd z (noA b),e0.funs,e0.frf⟩,
  rfl,e0.bare,Un.kept hk,⟨_,x.toInCall.ns,fun i y v h1 h2 h3=>?_⟩,fun y c h=>⟨_,x.cell y c h⟩,e0.hok.fresh (Nat.le_refl _),fun y c h=>?_,fun p hp=>absurd (show p∈([]:List (Addr×Obj)) from hp) (by simp),e0.hok.kept hk,?_⟩
 ·exact name_of_addr x.apart (PySem.mem_of_lookup h1) (PySem.mem_of_lookup h2)
 ·have hy:scope.names.lookup y=some .cell∨scope.names.lookup y=some .free:=hy
  rcases hy with hy | hy
  ·exact cell_has hy
  ·exact absurd rfl (S.nofree _ (PySem.mem_of_lookup hy))
 ·exact Nat.le_of_lt (x.above y c (PySem.mem_of_lookup h))
 ·have hi:i<vs.length:=by
   unfold start at h2
   by_cases hi:i<vs.length
   ·exact hi
   ·rw [List.getElem?_append_right (by simpa using hi)] at h2
    rw [List.getElem?_replicate] at h2
    split at h2 <;> cases h2
  have ha:vs[i]?=some v:=by
   unfold start at h2
   rw [List.getElem?_append_left (by simpa using hi),List.getElem?_map] at h2
   cases e:vs[i]? with
   | none=>rw [e] at h2; cases h2
   | some a=>rw [e] at h2; cases h2; rfl
  obtain⟨u,hu,rv⟩:=r.get ha
  have hp:ps[i]?=some y:=by
   rw [← S.pre,List.getElem?_take_of_lt (by lia)]; exact h1
  have ndP:ps.Nodup:=by rw [← S.pre]; exact S.nd.sublist (List.take_sublist _ _)
  refine⟨u,rv,?_⟩
  rcases S.par y (List.mem_of_getElem? hp) with k | k
  ·exact .inl ⟨k,bindL_get ndP hp hu k⟩
  ·obtain⟨c,e⟩:=cell_has (n:=s.heap.objs.size+1) k
   refine .inr ⟨.inl k,c,e,?_⟩
   have q:=x.cell y c e
   rw [bindC_get ndP hp hu (by show scope.names.lookup y≠_; rw [k]; decide)] at q
   exact q
 ·exact e0.hok.fresh (Nat.le_of_lt (x.above y c (PySem.mem_of_lookup h)))
 ·unfold start
  show _=N.length
  rw [List.length_append,List.length_map,List.length_replicate]
  lia
theorem fn_of {CX:CXT}{P:Program}{w:World}{K:PySem.W.Frag}{mg:Str→Option Value}{base:Heap}{k:Nat}{f:Addr}{name qual:Str}{params:Arguments}{body:List Stmt}{scope:Scope}{dV kV doc pm cdv ct oc:Value}{an od:Option Addr}
  {osl:Array (Option Value)}{N ps:List Str}{sp:Sp} (lk:K.lookup f=some ⟨oc,od,.func (PySem.W.fnOf name qual params body scope dV kV doc pm an cdv ct),osl⟩) (hcd:PySem.W.codeIn K cdv qual=true) (S:FnScope N ps scope)
  (len:∀ vs H Q E,sp vs H Q E→vs.length=ps.length)
  (hbody:∀ (A:Around) (outer:List Env) (s:Shared) (H:Hp) (vs:List V) (Q:VK) (E:XK),Room k (A.deeper (envOfC qual scope s.heap.objs.size f cdv))→sp vs H Q E →
   ∃ t,PSs (cxOf CX P w K mg base N qual scope f cdv A outer s H E) body t∧t { nx:=fun _ H'=>Q .non H',rt:=Q } (start N vs) H) :
  FnOk P w K mg base CX (k+1) f (PySem.W.fnOf name qual params body scope dV kV doc pm an cdv ct) ps sp:=by
 refine⟨len,fun A outer s H args us vs Q E hr e0 hb r hsp=>?_⟩
 have hl:=len _ _ _ _ hsp
 have KX:K.In s.heap:=e0.mod.kin.keeps fun b o e=>(e0.bs b o e).1
 have lim:s.heap.NoLimit:=e0.mod.nolimit.keeps fun b o e=>(e0.bs b o e).1
 have hkind:∀ y∈ps.zip us,scope.names.lookup y.1=some .local∨(scope.names.lookup y.1=some .cell∧((cellsFrom (s.heap.objs.size+1) scope.names []).lookup y.1).isSome=true):=fun ⟨n,v⟩ hy=>by
  rcases S.par n (List.of_mem_zip hy).1 with q | q
  ·exact .inl q
  ·exact .inr ⟨q,PySem.W.cellsFrom_some _ _ _ (.inl q)⟩
 refine codeAny_call_function hr.depth (KX _ _ lk) rfl S.co S.gen rfl (PySem.W.codeRec_of KX hcd) (hb _ _ _ _ ?_)
 refine wpAny_newFunctionEnv_cells S.kind hkind fun env he s1 x=>?_
 subst he
 refine⟨lim.keeps x.toInCall.keep,codeAny_func ?_⟩
 obtain⟨t,ht,hq⟩:=hbody A outer s H vs Q E (hr.deeper _) hsp
 have I:Inv (cxOf CX P w K mg base N qual scope f cdv A outer s H E) [] (start N vs) H s1:=inv_start S hr.hd e0 hl r x
 refine wpAny_mono (ht [] s1 (start N vs) H _ I hq) (fun fl s' hs=>?_) fun e s' hs=>hs
 have fin:∀ {σ':St}{H':Hp}{v:V}{u:Value},Inv (cxOf CX P w K mg base N qual scope f cdv A outer s H E) [] σ' H' s'→RelV v u→Q v H'→CE outer P w H s Q u s' :=
  fun {σ' H' v u} J rv q=>⟨v,H',J.os,J.bare,J.base,J.hok,rv,q⟩
 cases fl with
 | ret u =>
  obtain⟨v,σ',H',J,rv,q⟩:=hs
  exact fin J rv q
 | next =>
  obtain⟨σ',H',J,q⟩:=hs
  exact fin (v:=V.non) (u:=Value.none) J rfl q
 | brk =>
  obtain⟨_,_,_,q⟩:=hs
  exact False.elim q
 | cont =>
  obtain⟨_,_,_,q⟩:=hs
  exact False.elim q
end L2
namespace L2
open PySem PySem.Spec PyProof.Rows
section
variable {X:Cx}{x:Str}{p pos:Pos}{e:Expr}{es:List Expr}{t:TA}{id T:String}{r:List V→Hp→VK→Prop}
def tCB (r:List V→Hp→VK→Prop) (t:TA):TE:=fun σ H Q=>t σ H fun vs H1=>r vs H1 Q
theorem pe_callB (hc:CallR X (.builtin id) r) (hg:Gl X x) (hm:X.mg x=none) (hv:bootBuiltins x=some (.builtin id)) (ha:PA X (e::es) t) (hn:x≠"__name__":=by decide) (hdb:(x == ("__debug__":Str))=false:=by decide)
  (he:starEach (e::es) X.env=(false,eval e X.env)::starEach es X.env:=by rfl) (hpl:(backTo pos (starEach es X.env)).any (·.1)=false:=by rfl):PE X (.Call (.Name x p) (e::es) [] pos) (tCB r t):=by
 intro pins s σ H Q I h
 refine wpAny_Call_Name_kw (ld_blt I hg hm hv ?_ hn hdb)
 exact PyProof.Rows.callWith_builtin1 (thn (ha pos pins s σ H _ I h) fun us s1 ⟨vs,H1,I1,r1,q1⟩=>hc pins s1 σ H1 vs us Q I1 r1 q1) he hpl
theorem pe_callTy (hc:CallR X (.type T) r) (hg:Gl X x) (hm:X.mg x=none) (hv:bootBuiltins x=some (.type T)) (ha:PA X (e::es) t) (hn:x≠"__name__":=by decide) (hdb:(x == ("__debug__":Str))=false:=by decide)
  (he:starEach (e::es) X.env=(false,eval e X.env)::starEach es X.env:=by rfl) (hpl:(backTo pos (starEach es X.env)).any (·.1)=false:=by rfl):PE X (.Call (.Name x p) (e::es) [] pos) (tCB r t):=by
 intro pins s σ H Q I h
 refine wpAny_Call_Name_kw (ld_blt I hg hm hv ?_ hn hdb)
 exact PyProof.Rows.callWith_type1 (thn (ha pos pins s σ H _ I h) fun us s1 ⟨vs,H1,I1,r1,q1⟩=>hc pins s1 σ H1 vs us Q I1 r1 q1) he hpl
end
end L2
namespace HT
open PySem PyProof.Rows
section
open PySem.SeqAt
open PySem.AutoSeq1 (wpAny_loadPart')
open PySem.MeetsSeq PySem.MeetsSeq2 PySem.MeetsSeq3
end
section
variable {prog:Program}{w:World}{A:Around}{E:Value→Shared→Prop}{s:Shared}
theorem cat_tup {t b:Addr}{vs ws:List Value}{Q:Value→Shared→Prop} (ht:IsTup s.heap t vs.toArray) (hb:IsTup s.heap b ws.toArray) (hv:vs≠[])
  (h1:ws=[]→Q (.ref t) s) (h2:ws≠[]→Q (.ref s.heap.objs.size) { s with heap:=s.heap.push { cls:=.type "tuple",data:=.seq (vs++ws).toArray } })
  (hsz:vs.length+ws.length≤sizeLine):wpAny (model prog w) A (binaryOp .Add (.ref t) (.ref b)) Q E s:=by
 obtain⟨⟨cls,dd,data,sl⟩,ho,hc,n,hd⟩:=id ht
 obtain⟨⟨cls2,dd2,data2,sl2⟩,ho2,hc2,n2,hd2⟩:=id hb
 simp only at hc hd hc2 hd2
 subst hc hd hc2 hd2
 have e:vs.toArray++ws.toArray=(vs++ws).toArray:=by simp
 by_cases hw:ws=[]
 ·exact concat_meets ⟨_,ho,rfl⟩ ⟨_,ho2,rfl⟩ noFill_tuple_add seq_tuple_add PySem.F.slot_tuple_add PySem.F.entry_tuple_add (PySem.F.args_tuple_add_2 _ _)
   (tuple_addW1 t b vs.toArray ws.toArray n n2 dd dd2 sl sl2 (by simpa using hv) (by simp [hw])) ⟨ho,ho2,h1 hw⟩
 ·refine concat_meets ⟨_,ho,rfl⟩ ⟨_,ho2,rfl⟩ noFill_tuple_add seq_tuple_add PySem.F.slot_tuple_add PySem.F.entry_tuple_add (PySem.F.args_tuple_add_2 _ _)
   (tuple_addW2 t b vs.toArray ws.toArray n n2 dd dd2 sl sl2 (by simpa using hv) (by simpa using hw) (by rw [List.size_toArray,List.size_toArray]; exact hsz)) ⟨ho,ho2,?_⟩
  rw [e]
  exact h2 hw
def sIx (n d:Nat):Option Int→Nat
 | none=>d
 | some v=>if v<0 then (v+(n:Int)).toNat else min v.toNat n
theorem sIx_none (n d:Nat):sIx n d none=d:=rfl
theorem sIx_nat (n d k:Nat):sIx n d (some (k:Int))=min k n:=by
 show (if (k:Int)<0 then ((k:Int)+(n:Int)).toNat else min (k:Int).toNat n)=min k n
 rw [if_neg (by lia),Int.toNat_natCast]
theorem sIx_le (n d:Nat) (hd:d≤n) (o:Option Int):sIx n d o≤n:=by
 cases o with
 | none=>exact hd
 | some v =>
  show (if v<0 then (v+(n:Int)).toNat else min v.toNat n)≤n
  by_cases hv:v<0
  ·rw [if_pos hv]; lia
  ·rw [if_neg hv]; exact Nat.min_le_right _ _
theorem clip_eq (v:Int) (n d:Nat):(if v<0 then max (v+(n:Int)) 0 else min v (n:Int))=((sIx n d (some v):Nat):Int):=by
 show (if v<0 then max (v+(n:Int)) 0 else min v (n:Int))=(((if v<0 then (v+(n:Int)).toNat else min v.toNat n):Nat):Int)
 by_cases hv:v<0
 ·simp only [if_pos hv]; lia
 ·simp only [if_neg hv]; lia
theorem adjust_gen (lo hi:Option Int) (n:Nat):Builtin.Slice.sliceAdjust lo hi 1 (n:Int)=(((sIx n 0 lo:Nat):Int),((sIx n n hi:Nat):Int)):=by
 have h1:¬ ((1:Int)<0):=by lia
 unfold Builtin.Slice.sliceAdjust
 simp only [h1,if_false]
 refine Prod.ext ?_ ?_
 ·cases lo with
  | none=>rfl
  | some v=>exact clip_eq v n 0
 ·cases hi with
  | none=>rfl
  | some v=>exact clip_eq v n n
theorem places_gen (i j:Nat):Builtin.Slice.slicePlaces (i:Int) (j:Int) 1=j - i:=by
 unfold Builtin.Slice.slicePlaces
 have h1:(1:Int) > 0:=by lia
 simp only [h1,if_true,Int.ediv_one]
 split <;> lia
theorem slicePart_ {v:Value}{o:Option Int}{Q:Option Int→Shared→Prop} (p:IsPart v o) (h:Q o s):wpAny (model prog w) A (Builtin.Slice.slicePartIndex v) Q E s:=by
 cases p with
 | none=>exact slicePart_none h
 | int i t=>exact slicePart_int h
theorem sliceApplied_gen {sl:Addr}{vl vu:Value}{lo hi:Option Int}{n:Nat}{Q:Int×Int×Nat→Shared→Prop} (hs:s.heap.IsSliceOf sl vl vu .none) (pl:IsPart vl lo) (pu:IsPart vu hi)
  (h:Q (((sIx n 0 lo:Nat):Int),1,sIx n n hi - sIx n 0 lo) s):wpAny (model prog w) A (Builtin.Slice.sliceApplied (.ref sl) (pure (n:Int))) Q E s:=by
 obtain⟨os,hos,hcs,hds⟩:=id hs
 unfold Builtin.Slice.sliceApplied Builtin.Slice.sliceFields
 refine wpAny_bind (wpAny_bind (wpAny_field hos hds (x:=vl) rfl (wpAny_bind (wpAny_field hos hds (x:=vu) rfl (wpAny_bind (wpAny_field hos hds (x:=.none) rfl (wpAny_pure ?_)))))))
 refine wpAny_bind (slicePart_none ?_)
 show wpAny _ _ (if ((1:Int) == 0)=true then _ else _) _ _ s
 rw [if_neg (by decide)]
 refine wpAny_bind (slicePart_ pl (wpAny_bind (slicePart_ pu (wpAny_bind (wpAny_pure ?_)))))
 show wpAny _ _ (match Builtin.Slice.sliceAdjust lo hi 1 (n:Int) with | (lo,hi)=>pure (lo,(1:Int),Builtin.Slice.slicePlaces lo hi 1)) _ _ s
 rw [adjust_gen lo hi n]
 show wpAny _ _ (pure (((sIx n 0 lo:Nat):Int),(1:Int),Builtin.Slice.slicePlaces ((sIx n 0 lo:Nat):Int) ((sIx n n hi:Nat):Int) 1)) _ _ s
 rw [places_gen]
 exact wpAny_pure h
theorem pick_gen (xs:Array Value) (i k:Nat):((List.range k).filterMap fun (m:Nat)=>xs[((i:Int)+(m:Int) * 1).toNat]?).toArray=((xs.toList.drop i).take k).toArray:=by
 have e:(fun (m:Nat)=>xs[((i:Int)+(m:Int) * 1).toNat]?)=fun m=>xs[i+m]?:=by
  funext m
  have:((i:Int)+(m:Int) * 1).toNat=i+m:=by lia
  rw [this]
 rw [e]
 have:=pick_run xs i k
 rw [List.filterMap_map] at this
 have e2:((fun x=>xs[x]?)∘fun x=>i+x)=fun m=>xs[i+m]?:=rfl
 rw [e2] at this
 rw [this]
theorem getItem_tuple_cut {t sl:Addr}{items:Array Value}{vl vu:Value}{lo hi:Option Int}{Q:Value→Shared→Prop} (ht:IsTup s.heap t items) (hs:s.heap.IsSliceOf sl vl vu .none) (pl:IsPart vl lo) (pu:IsPart vu hi)
  (hw:¬ (sIx items.size 0 lo=0∧sIx items.size items.size hi=items.size))
  (h:Q (.ref s.heap.objs.size) { s with heap:=s.heap.push { cls:=.type "tuple",data:=.seq ((items.toList.drop (sIx items.size 0 lo)).take (sIx items.size items.size hi - sIx items.size 0 lo)).toArray } })
  (hsz:items.size≤sizeLine):wpAny (model prog w) A (getItem (.ref t) (.ref sl)) Q E s:=by
 have htake:sizeOk (.seq ((items.toList.drop (sIx items.size 0 lo)).take (sIx items.size items.size hi - sIx items.size 0 lo)).toArray):=by
  show ((items.toList.drop (sIx items.size 0 lo)).take (sIx items.size items.size hi - sIx items.size 0 lo)).toArray.size≤sizeLine
  rw [List.size_toArray,List.length_take,List.length_drop,Array.length_toList]
  lia
 have hj:sIx items.size items.size hi≤items.size:=sIx_le _ _ (Nat.le_refl _) hi
 obtain⟨os,hos,hcs,hds⟩:=id hs
 have hTs:s.TypeIs (.ref sl) "slice":=⟨os,hos,hcs⟩
 unfold getItem
 try with_reducible refine wpAny_holding ?_
 first | refine wpAny_bind (wpAny_pure ?_) | skip
 refine wpAny_bind (wpAny_sequenceKey ht.typeIs (by decide) ?_)
 refine wpAny_bind (wpAny_callSpecial?_slot (name:=Str.ofString "__getitem__") ht.typeIs PyProof.Rows.slot_tuple_getitem
  (wpAny_call_entry PyProof.Rows.slot_tuple_getitem ht.typeIs entry_tuple_getitem ?_ (args_tuple_getitem _ _)))
 show wpAny _ _ (Builtin.Tuple.tupleItemsOf (.ref t) >>= _) _ _ s
 refine wpAny_bind (tupleItemsOf_ ht ?_)
 refine wpAny_bind (wpAny_typeOf hTs ?_)
 rw [if_pos (by decide)]
 refine wpAny_bind (sliceApplied_gen hs pl pu ?_)
 have hno:¬ ((((sIx items.size 0 lo:Nat):Int) == 0 && (1:Int) == 1 && (sIx items.size items.size hi - sIx items.size 0 lo) == items.size)=true):=by
  intro q
  rw [Bool.and_eq_true,Bool.and_eq_true] at q
  have q1:((sIx items.size 0 lo:Nat):Int)=0:=eq_of_beq q.1.1
  have q2:sIx items.size items.size hi - sIx items.size 0 lo=items.size:=eq_of_beq q.2
  exact hw ⟨by lia,by lia⟩
 show wpAny _ _ (if (((sIx items.size 0 lo:Nat):Int) == 0 && (1:Int) == 1 && (sIx items.size items.size hi - sIx items.size 0 lo) == items.size)=true then _ else _) _ _ s
 rw [if_neg hno,pick_gen]
 first
  | exact wpAny_bind (m:=Builtin.Tuple.tupleExact _) (wpAny_newObj_type (wpAny_pure ⟨_,rfl,wpAny_pure h⟩) htake)
  | exact wpAny_bind (m:=Builtin.Tuple.tupleExact _) (wpAny_newObj_type (wpAny_bind (wpAny_pure (wpAny_pure ⟨_,rfl,wpAny_pure h⟩))) htake)
  | exact wpAny_bind (wpAny_bind (m:=Builtin.Tuple.tupleExact _) (wpAny_newObj_type (wpAny_pure (wpAny_pure ⟨_,rfl,wpAny_pure h⟩)) htake))
  | exact wpAny_bind (wpAny_bind (m:=Builtin.Tuple.tupleExact _) (wpAny_newObj_type (wpAny_pure ⟨_,rfl,wpAny_pure h⟩) htake))
end
end HT
namespace L2
open PySem PySem.Spec PyProof.Rows
abbrev TO:=St→Hp→(Option Int→Hp→Prop)→Prop
def PO (X:Cx) (e:Option Expr) (t:TO):Prop :=
 ∀ (pins:List (Addr×Obj)) (s:Shared) (σ:St) (H:Hp) (Q:Option Int→Hp→Prop),Inv X pins σ H s→t σ H Q →
  wpAny (model X.prog X.w) X.A (evalPart e X.env) (fun u s'=>∃ o H',Inv X pins σ H' s'∧IsPart u o∧Q o H') X.xe s
def tNoPart:TO:=fun _ H Q=>Q none H
def tPart (t:TE):TO:=fun σ H Q=>t σ H fun x H1=>∃ i,x=.int i∧Q (some i) H1
theorem intsAre_of {ns:List Int}:∀ {us:List Value},Vals (ns.map V.int) us→IntsAre us ns:=by
 induction ns with
 | nil=>intro us r; rw [List.map_nil] at r; cases r; exact .nil
 | cons n ns ih =>
  intro us r
  rw [List.map_cons] at r
  cases r with
  | cons r1 r2 =>
   obtain⟨t,e⟩:=r1
   subst e
   exact .cons n t (ih r2)
section
variable {X:Cx}{e:Expr}{te:TE}{lo hi:Option Expr}{tl th:TO}{pos p2:Pos}
theorem po_none:PO X none tNoPart:=by
 intro pins s σ H Q I h
 rw [evalPart_none]
 exact wpAny_pure ⟨none,H,I,.none,h⟩
theorem po_some (h:PE X e te):PO X (some e) (tPart te):=by
 intro pins s σ H Q I hw
 rw [evalPart_some]
 refine thn (h pins s σ H _ I hw) fun u s1 ⟨x,H1,I1,r1,q1⟩=>?_
 obtain⟨i,rfl,q⟩:=q1
 obtain⟨t,rfl⟩:=r1
 exact⟨some i,H1,I1,.int i t,q⟩
def SlR (X:Cx) (r:V→Option Int→Option Int→Hp→VK→Prop):Prop :=
 ∀ (pins:List (Addr×Obj)) (s:Shared) (σ:St) (H:Hp) (x:V) (v vl vu:Value) (lo hi:Option Int) (sl:Addr) (Q:VK),Inv X pins σ H s→RelV x v→s.heap.IsSliceOf sl vl vu .none→IsPart vl lo→IsPart vu hi→r x lo hi H Q →
  ∃ T id,typeLookup (.type T) "__getitem__"=pure (some (.builtin id))∧s.TypeIs v T∧wpAny (model X.prog X.w) X.A (getItem v (.ref sl)) (EP X pins σ Q) X.xe s
def tSl (r:V→Option Int→Option Int→Hp→VK→Prop) (te:TE) (tl th:TO):TE:=fun σ H Q=>te σ H fun x H1=>tl σ H1 fun l H2=>th σ H2 fun u H3=>r x l u H3 Q
theorem pe_slice {r:V→Option Int→Option Int→Hp→VK→Prop} (hr:SlR X r) (he:PE X e te) (hl:PO X lo tl) (hu:PO X hi th):PE X (.Subscript e (.Slice lo hi none p2) pos) (tSl r te tl th):=by
 intro pins s σ H Q I h
 refine Subscript_ (thn (he pins s σ H _ I h) fun v s1 ⟨x,H1,I1,r1,q1⟩=>?_)
 refine wpAny_Slice (thn (hl pins s1 σ H1 _ I1 q1) fun vl s2 ⟨l,H2,I2,pl,q2⟩=>thn (hu pins s2 σ H2 _ I2 q2) fun vu s3 ⟨u,H3,I3,pu,q3⟩=>?_)
 rw [evalPart_none]
 refine wpAny_pure ?_
 have I4:Inv X pins σ H3 { s3 with heap:=s3.heap.push { cls:=.type "slice",data:=.fields #[vl,vu,.none] } }:=I3.kept (t':=s3.toks) fun b ob q=>Heap.get?_push_of_some _ q
 obtain⟨T,id,hT,ht,hg⟩:=hr pins { s3 with heap:=s3.heap.push { cls:=.type "slice",data:=.fields #[vl,vu,.none] } } σ H3 x v vl vu l u s3.heap.objs.size Q I4 r1 (Heap.IsSliceOf.new ..) pl pu q3
 show wpAny (model X.prog X.w) X.A (subscriptTail e (.Slice lo hi none p2) v (.ref s3.heap.objs.size)) (EP X pins σ Q) X.xe { s3 with heap:=s3.heap.push { cls:=.type "slice",data:=.fields #[vl,vu,.none] } }
 exact tail_any (ops:=[.ref s3.heap.objs.size,v]) ht hT hg (by with_unfolding_all rfl)
def cutV (xs:List V) (lo hi:Option Int):List V:=(xs.drop (HT.sIx xs.length 0 lo)).take (HT.sIx xs.length xs.length hi - HT.sIx xs.length 0 lo)
theorem cutV_length (xs:List V) (lo hi:Option Int):(cutV xs lo hi).length≤xs.length:=by
 unfold cutV
 rw [List.length_take,List.length_drop]
 lia
def rSlT (K:PySem.W.Frag):V→Option Int→Option Int→Hp→VK→Prop:=fun x lo hi H Q=>∃ a xs,x=.ref a∧SqT K H a xs ∧
 ¬ (HT.sIx xs.length 0 lo=0∧HT.sIx xs.length xs.length hi=xs.length)∧∀ p,H p=none→Q (.ref p) (upd H p (.tup (cutV xs lo hi)))
theorem sl_tup:SlR X (rSlT X.K):=by
 intro pins s σ H x v vl vu lo hi sl Q I rx hs pl pu h
 obtain⟨a,xs,rfl,hx,hw,q⟩:=h
 cases rx
 obtain⟨its,r,ht,hz⟩:=I.tuple hx
 have hlen:its.toArray.size=xs.length:=by rw [List.size_toArray]; exact r.length.symm
 refine⟨"tuple",_,PyProof.Rows.slot_tuple_getitem.lookup,ht.typeIs,?_⟩
 refine HT.getItem_tuple_cut ht hs pl pu (by rw [hlen]; exact hw) ?_ (by rw [hlen]; exact hz)
 rw [hlen]
 refine⟨.ref s.heap.objs.size,_,I.laid (t':=s.toks) (o:=.tup (cutV xs lo hi)) (fun b ob q=>Heap.get?_push_of_some _ q) (Nat.le_refl _) ?_,rfl,q _ (I.hok.fresh (Nat.le_refl _))⟩
 exact⟨Nat.le_trans (cutV_length xs lo hi) hz,_,(r.drop (HT.sIx xs.length 0 lo)).take (HT.sIx xs.length xs.length hi - HT.sIx xs.length 0 lo),IsTup.new _ _⟩
def rCatT (K:PySem.W.Frag):R2:=fun x y H Q=>∃ a b xs ys,x=.ref a∧y=.ref b∧SqT K H a xs∧SqT K H b ys∧xs≠[]∧xs.length+ys.length≤sizeLine ∧
 (ys=[]→Q (.ref a) H)∧(ys≠[]→∀ p,H p=none→Q (.ref p) (upd H p (.tup (xs++ys))))
theorem Vals.nil_iff {xs:List V}{us:List Value} (r:Vals xs us):us=[]↔xs=[]:=by
 cases r with
 | nil=>simp
 | cons _ _=>simp
theorem op_catT:OpR X (binaryOp .Add) (rCatT X.K):=by
 intro pins s σ H x y v u Q I rx ry h
 obtain⟨a,b,xs,ys,rfl,rfl,ha,hb,hx,hz,q1,q2⟩:=h
 cases rx
 cases ry
 obtain⟨its,r1,p1,_⟩:=I.tuple ha
 obtain⟨its2,r2,p2,_⟩:=I.tuple hb
 refine HT.cat_tup p1 p2 (fun z=>hx (r1.nil_iff.mp z)) (fun z=>⟨.ref a,H,I,rfl,q1 (r2.nil_iff.mp z)⟩) (fun z=>?_) (by rw [← r1.length,← r2.length]; exact hz)
 refine⟨.ref s.heap.objs.size,_,I.laid (t':=s.toks) (o:=.tup (xs++ys)) (fun b ob q=>Heap.get?_push_of_some _ q) (Nat.le_refl _) ?_,rfl,q2 (fun w=>z (r2.nil_iff.mpr w)) _ (I.hok.fresh (Nat.le_refl _))⟩
 exact⟨by rw [List.length_append]; exact hz,_,r1.append r2,IsTup.new _ _⟩
end
end L2
namespace L2
open PySem PySem.Spec PyProof.Rows
def ixN (n:Nat) (i:Int):Option Nat:=if 0≤i then (if i<n then some i.toNat else none) else if -(n:Int)≤i then some (i+n).toNat else none
def atI {α:Type} (xs:List α) (i:Int):Option α:=(ixN xs.length i).bind fun j=>xs[j]?
theorem ixN_seq {n:Nat}{i:Int}{j:Nat} (h:ixN n i=some j):seqIndex? i n=some j∧j<n∧-(n:Int)≤i∧i<n:=by
 unfold ixN at h
 by_cases h0:0≤i
 ·rw [if_pos h0] at h
  by_cases h1:i<n
  ·rw [if_pos h1] at h
   have e:i.toNat=j:=Option.some.inj h
   exact⟨by rw [seqIndex_of h0 h1,e],by lia,by lia,h1⟩
  ·rw [if_neg h1] at h; cases h
 ·rw [if_neg h0] at h
  by_cases h1:-(n:Int)≤i
  ·rw [if_pos h1] at h
   have e:(i+n).toNat=j:=Option.some.inj h
   exact⟨by rw [seqIndex_neg (by lia) h1,e],by lia,h1,by lia⟩
  ·rw [if_neg h1] at h; cases h
theorem atI_get {α:Type}{xs:List α}{i:Int}{v:α} (h:atI xs i=some v):∃ j,seqIndex? i xs.length=some j∧xs[j]?=some v∧j<xs.length∧-(xs.length:Int)≤i∧i<xs.length:=by
 unfold atI at h
 cases e:ixN xs.length i with
 | none=>rw [e] at h; cases h
 | some j =>
  rw [e] at h
  obtain⟨h1,h2,h3,h4⟩:=ixN_seq e
  exact⟨j,h1,h,h2,h3,h4⟩
theorem atI_nat {α:Type}{xs:List α}{j:Nat}{v:α} (h:xs[j]?=some v):atI xs (j:Int)=some v:=by
 have hj:j<xs.length:=(List.getElem?_eq_some_iff.mp h).1
 have e:ixN xs.length (j:Int)=some j:=by
  unfold ixN
  rw [if_pos (by lia),if_pos (by lia)]; simp
 unfold atI; rw [e]; exact h
def PlainIx (b:Expr):Prop:=∀ o i,subscripted b false o i=operate [o,i] (getItem o i)
def IxR (X:Cx) (r:R2):Prop :=
 ∀ (value slice:Expr) (pins:List (Addr×Obj)) (s:Shared) (σ:St) (H:Hp) (x y:V) (v u:Value) (Q:VK),Inv X pins σ H s→RelV x v→RelV y u→r x y H Q →
  subscripted slice false v u=operate [v,u] (getItem v u)→wpAny (model X.prog X.w) X.A (subscriptTail value slice v u) (EP X pins σ Q) X.xe s
def MtR (X:Cx) (id:String) (r:V→List V→Hp→VK→Prop):Prop :=
 ∀ (pins:List (Addr×Obj)) (s:Shared) (σ:St) (H:Hp) (x:V) (xs:List V) (v:Value) (us:List Value) (Q:VK),Inv X pins σ H s→RelV x v→Vals xs us→r x xs H Q →
  wpAny (model X.prog X.w) X.A (call (.builtin id) (v::us)) (EP X pins σ Q) X.xe s
section
variable {X:Cx}{a b:Expr}{ta tb:TE}{pos:Pos}
theorem pe_ix {r:R2} (hr:IxR X r) (ha:PE X a ta) (hb:PE X b tb) (hs:PlainIx b):PE X (.Subscript a b pos) (tOp r ta tb):=by
 intro pins s σ H Q I h
 exact Subscript_ (binT ha hb I h fun v u s2 x y H2 I2 rx ry q=>hr a b pins s2 σ H2 x y v u Q I2 rx ry q (hs _ _))
def rIxL (K:PySem.W.Frag):R2:=fun x y H Q=>∃ p xs i v,x=.ref p∧y=.int i∧SqL K H p xs∧atI xs i=some v∧Q v H
def rIxT (K:PySem.W.Frag):R2:=fun x y H Q=>∃ p xs i v,x=.ref p∧y=.int i∧SqT K H p xs∧atI xs i=some v∧Q v H
theorem ix_list:IxR X (rIxL X.K):=by
 intro value slice pins s σ H x y v u Q I rx ry h hs
 obtain⟨p,xs,i,z,rfl,rfl,hq,he,q⟩:=h
 cases rx
 obtain⟨t,rfl⟩:=ry
 obtain⟨its,r,pl,hz⟩:=I.list hq
 obtain⟨j,h1,h2,h3,h4,h5⟩:=atI_get he
 obtain⟨w,ew,rw'⟩:=r.get h2
 have hl:=r.length
 have hn:=line63
 have fin:EP X pins σ Q w s:=⟨z,H,I,rw',q⟩
 by_cases h0:0≤i
 ·have hj:i.toNat=j:=by
   rw [seqIndex_of h0 h5] at h1
   exact Option.some.inj h1
  exact item_listR pl.isList h0 (by lia) (by rw [hj]; simpa using ew) fin hs
 ·have hj:(i+(its.toArray.size:Int)).toNat=j:=by
   rw [seqIndex_neg (by lia) h4] at h1
   rw [List.size_toArray,← hl]
   exact Option.some.inj h1
  exact subscriptTail_builtinR (x:=w) pl.isList.typeIs slot_list_getitem.lookup
   (wpAny_getItem_list_neg (Q:=fun r s'=>r=w∧EP X pins σ Q r s') pl.isList (by lia) (by rw [List.size_toArray] <;> lia) (by lia) (by rw [hj]; simpa using ew) ⟨rfl,fin⟩) hs
theorem ix_tup:IxR X (rIxT X.K):=by
 intro value slice pins s σ H x y v u Q I rx ry h hs
 obtain⟨p,xs,i,z,rfl,rfl,hq,he,q⟩:=h
 cases rx
 obtain⟨t,rfl⟩:=ry
 obtain⟨its,r,pl,hz⟩:=I.tuple hq
 obtain⟨j,h1,h2,h3,h4,h5⟩:=atI_get he
 obtain⟨w,ew,rw'⟩:=r.get h2
 have hl:=r.length
 have hn:=line63
 have fin:EP X pins σ Q w s:=⟨z,H,I,rw',q⟩
 exact subscriptTail_builtinR (x:=w) pl.typeIs slot_tuple_getitem.lookup
  (getItem_tuple (j:=j) (Q:=fun r s'=>r=w∧EP X pins σ Q r s') pl (by lia) (by lia) (by rw [List.size_toArray,← hl]; exact h1) (by simpa using ew) ⟨rfl,fin⟩) hs
theorem mapSeq_set (its:List Value) (n j:Nat) (u:Value):Obj.mapSeq (·.setIfInBounds j u) { cls:=.type "list",data:=.seq its.toArray n }={ cls:=.type "list",data:=.seq (its.set j u).toArray n }:=by
 simp [Obj.mapSeq]
theorem Inv.lst {pins:List (Addr×Obj)}{σ:St}{H:Hp}{s:Shared}{p:Addr}{xs:List V} (I:Inv X pins σ H s) (h:H p=some (.lst xs)) :
  ∃ (its:List Value) (n:Nat),Vals xs its∧s.heap.get? p=some { cls:=.type "list",data:=.seq its.toArray n }∧xs.length≤sizeLine:=by
 obtain⟨z,its,n,r,e⟩:=I.hok p _ h
 exact⟨its,n,r,e,z⟩
theorem Inv.lstUpd {pins:List (Addr×Obj)}{σ:St}{H:Hp}{s:Shared}{p:Addr}{xs ys:List V}{its its':List Value}{n n':Nat}{f:Obj→Obj} (I:Inv X pins σ H s) (h:H p=some (.lst xs))
  (ho:s.heap.get? p=some { cls:=.type "list",data:=.seq its.toArray n }) (hf:f { cls:=.type "list",data:=.seq its.toArray n }={ cls:=.type "list",data:=.seq its'.toArray n' }) (r:Vals ys its') (hz:ys.length≤sizeLine) (t:Nat) :
  Inv X pins σ (upd H p (.lst ys)) { s with heap:=s.heap.update p f,toks:=t }:=by
 have e:(s.heap.update p f).get? p=some { cls:=.type "list",data:=.seq its'.toArray n' }:=by
  rw [Heap.get?_update_self f ho (by rw [hf] <;> rfl),hf]
 refine I.write (x:=p) (e:=p) (by rw [h]; trivial) (.inl rfl) (fun b u hb q=>(Heap.get?_update_other _ _ (Ne.symm hb)).trans q) ⟨_,e⟩ ?_
 exact⟨hz,its',n',r,e⟩
def rSetL:V→V→V→Hp→(Hp→Prop)→Prop:=fun o i v H Q=>∃ p xs k j,o=.ref p∧i=.int k∧H p=some (.lst xs)∧ixN xs.length k=some j∧Q (upd H p (.lst (xs.set j v)))
theorem set_list:PSet X rSetL:=by
 intro pins s σ H o i v ov iv u Q I ro ri rv h
 obtain⟨p,xs,k,j,rfl,rfl,hp,hj,q⟩:=h
 cases ro
 obtain⟨t,rfl⟩:=ri
 obtain⟨its,n,r,ho,hz⟩:=I.lst hp
 obtain⟨h1,h2,h3,h4⟩:=ixN_seq hj
 have hl:=r.length
 have hn:=line63
 have I':Inv X pins σ (upd H p (.lst (xs.set j v))) { s with heap:=s.heap.update p (Obj.mapSeq (·.setIfInBounds j u)) } :=
  I.lstUpd hp ho (mapSeq_set its n j u) (r.set rv j) (by rw [List.length_set]; exact hz) s.toks
 by_cases h0:0≤k
 ·have hk:k.toNat=j:=by
   rw [seqIndex_of h0 h4] at h1
   exact Option.some.inj h1
  exact PySem.W.ki_setAt ho h0 (by lia) (by rw [List.size_toArray,← hl]; exact h4) (by rw [hk]; exact⟨_,I',q⟩)
 ·have hk:(k+(its.toArray.size:Int)).toNat=j:=by
   rw [seqIndex_neg (by lia) h3] at h1
   rw [List.size_toArray,← hl]
   exact Option.some.inj h1
  exact PySem.W.ki_setBack ho (by lia) (by rw [List.size_toArray,← hl]; exact h3) (by lia) (by rw [hk]; exact⟨_,I',q⟩)
theorem slice_bounds (lo hi:Option Int) (n:Nat):(sliceBounds lo hi none n).1=((HT.sIx n 0 lo:Nat):Int)∧(sliceBounds lo hi none n).2.1=((HT.sIx n n hi:Nat):Int)∧(sliceBounds lo hi none n).2.2=1:=by
 refine⟨?_,?_,rfl⟩
 ·cases lo with
  | none=>simp [sliceBounds,HT.sIx]
  | some i =>
   simp only [sliceBounds,HT.sIx,Option.getD_none,show (1:Int) > 0 by decide,if_true]
   by_cases h:i<0
   ·simp only [h,if_true] <;> lia
   ·simp only [h,if_false] <;> lia
 ·cases hi with
  | none=>simp [sliceBounds,HT.sIx]
  | some i =>
   simp only [sliceBounds,HT.sIx,Option.getD_none,show (1:Int) > 0 by decide,if_true]
   by_cases h:i<0
   ·simp only [h,if_true] <;> lia
   ·simp only [h,if_false] <;> lia
theorem slicePick_cut (its:List Value) (lo hi:Option Int):slicePick its.toArray lo hi none=((its.drop (HT.sIx its.length 0 lo)).take (HT.sIx its.length its.length hi - HT.sIx its.length 0 lo)).toArray:=by
 obtain⟨h1,h2,h3⟩:=slice_bounds lo hi its.toArray.size
 unfold slicePick
 rw [h1,h2,h3]
 simp only [sliceRange_one,pick_run,List.size_toArray] <;> rfl
def rSlL (K:PySem.W.Frag):V→Option Int→Option Int→Hp→VK→Prop:=fun x lo hi H Q=>∃ a xs,x=.ref a∧SqL K H a xs∧∀ p,H p=none→Q (.ref p) (upd H p (.lst (cutV xs lo hi)))
theorem sl_list:SlR X (rSlL X.K):=by
 intro pins s σ H x v vl vu lo hi sl Q I rx hs pl pu h
 obtain⟨a,xs,rfl,hx,q⟩:=h
 cases rx
 obtain⟨its,r,ht,hz⟩:=I.list hx
 have hlen:=r.length
 refine⟨"list",_,slot_list_getitem.lookup,ht.isList.typeIs,?_⟩
 refine wpAny_getItem_list_slice ht.isList hs pl pu .none (by simp) ?_ (by rw [List.size_toArray] <;> lia)
 rw [slicePick_cut,← hlen]
 refine⟨.ref s.heap.objs.size,_,I.laid (t':=s.toks) (o:=.lst (cutV xs lo hi)) (fun b ob q=>Heap.get?_push_of_some _ q) (Nat.le_refl _) ?_,rfl,q _ (I.hok.fresh (Nat.le_refl _))⟩
 exact⟨Nat.le_trans (cutV_length xs lo hi) hz,_,0,(r.drop (HT.sIx xs.length 0 lo)).take (HT.sIx xs.length xs.length hi - HT.sIx xs.length 0 lo),Heap.get?_push_size _ rfl⟩
def flatV:V→Bool
 | .non=>true
 | .bl _=>true
 | .int _=>true
 | .str _=>true
 | _=>false
def eqV:V→V→Bool
 | .non,.non=>true
 | .bl a,.bl b=>a == b
 | .bl a,.int b=>(if a then 1 else 0) == b
 | .int a,.bl b=>a == (if b then 1 else 0)
 | .int a,.int b=>a == b
 | .str a,.str b=>a == b
 | _,_=>false
theorem eqAt_V {A:Around}{s:Shared}{y x:V}{u v:Value} (ry:RelV y u) (rx:RelV x v) (fy:flatV y=true) (fx:flatV x=true):SeqAt.EqAt A s u v (eqV y x):=by
 cases y with
 | non =>
  cases ry
  cases x with
  | non=>cases rx; exact SeqAt.EqAt.same _
  | bl b=>cases rx; exact SeqAt.EqAt.none_bool b
  | int b=>obtain⟨t,rfl⟩:=rx; exact SeqAt.EqAt.none_int b t
  | str b=>obtain⟨t,rfl⟩:=rx; exact SeqAt.EqAt.none_str b t
  | _=>exact absurd (show false=true from fx) Bool.false_ne_true
 | bl a =>
  cases ry
  cases x with
  | non=>cases rx; exact SeqAt.EqAt.bool_none a
  | bl b=>cases rx; exact SeqAt.EqAt.bool_bool a b
  | int b=>obtain⟨t,rfl⟩:=rx; exact SeqAt.EqAt.bool_int a b t
  | str b=>obtain⟨t,rfl⟩:=rx; exact SeqAt.EqAt.bool_str a b t
  | _=>exact absurd (show false=true from fx) Bool.false_ne_true
 | int a =>
  obtain⟨t',rfl⟩:=ry
  cases x with
  | non=>cases rx; exact SeqAt.EqAt.int_none a t'
  | bl b=>cases rx; exact SeqAt.EqAt.int_bool a t' b
  | int b=>obtain⟨t,rfl⟩:=rx; exact SeqAt.EqAt.int_int a t' b t
  | str b=>obtain⟨t,rfl⟩:=rx; exact SeqAt.EqAt.int_str a t' b t
  | _=>exact absurd (show false=true from fx) Bool.false_ne_true
 | str a =>
  obtain⟨t',rfl⟩:=ry
  cases x with
  | non=>cases rx; exact SeqAt.EqAt.str_none a t'
  | bl b=>cases rx; exact SeqAt.EqAt.str_bool a t' b
  | int b=>obtain⟨t,rfl⟩:=rx; exact SeqAt.EqAt.str_int a t' b t
  | str b=>obtain⟨t,rfl⟩:=rx; exact SeqAt.EqAt.str_str a t' b t
  | _=>exact absurd (show false=true from fx) Bool.false_ne_true
 | _=>exact absurd (show false=true from fy) Bool.false_ne_true
def eqU (x:V) (u:Value):Bool:=match u with
 | .none=>eqV .non x
 | .bool b=>eqV (.bl b) x
 | .int i _=>eqV (.int i) x
 | .str z _=>eqV (.str z) x
 | _=>false
theorem eqU_of {x y:V}{u:Value} (r:RelV y u) (f:flatV y=true):eqU x u=eqV y x:=by
 cases y with
 | non=>cases r; rfl
 | bl b=>cases r; rfl
 | int i=>obtain⟨t,rfl⟩:=r; rfl
 | str z=>obtain⟨t,rfl⟩:=r; rfl
 | _=>exact absurd (show false=true from f) Bool.false_ne_true
theorem any_eqU {x:V}:∀ {xs:List V}{us:List Value},Vals xs us→xs.all flatV=true→us.any (eqU x)=xs.any fun y=>eqV y x
 | _,_,.nil,_=>rfl
 | y::xs,u::us,.cons r t,f=>by
  rw [List.all_cons,Bool.and_eq_true] at f
  rw [List.any_cons,List.any_cons,eqU_of r f.1,any_eqU t f.2]
theorem mem_eqAt {A:Around}{s:Shared}{x:V}{v:Value} (rx:RelV x v) (fx:flatV x=true):∀ {xs:List V}{us:List Value},Vals xs us→xs.all flatV=true→∀ u∈us,SeqAt.EqAt A s u v (eqU x u)
 | _,_,.nil,_=>fun u hu=>by cases hu
 | y::xs,u::us,.cons r t,f=>fun u' hu=>by
  rw [List.all_cons,Bool.and_eq_true] at f
  rcases List.mem_cons.mp hu with rfl | hu
  ·rw [eqU_of r f.1]; exact eqAt_V r rx f.1 fx
  ·exact mem_eqAt rx fx t f.2 u' hu
def inV (x:V) (xs:List V):Bool:=xs.any fun y=>eqV y x
def rIn (K:PySem.W.Frag) (neg:Bool):R2:=fun x y H Q=>∃ p xs,y=.ref p∧(SqL K H p xs∨SqT K H p xs)∧flatV x=true∧xs.all flatV=true∧Q (.bl (if neg then !inV x xs else inV x xs)) H
theorem op_in_seq:OpR X (compareOp .In) (rIn X.K false):=by
 intro pins s σ H x y v u Q I rx ry h
 obtain⟨p,xs,rfl,hq,fx,fs,q⟩:=h
 cases ry
 rcases hq with hq | hq
 ·obtain⟨its,r,pl,hz⟩:=I.list hq
  refine SeqAt.in_listAt (eqU x) pl.isList (fun w hw=>mem_eqAt rx fx r fs w (by simpa using hw)) ⟨.bl _,H,I,rfl,?_⟩
  rw [show its.toArray.any (eqU x)=its.any (eqU x) by simp,any_eqU r fs]
  exact q
 ·obtain⟨its,r,pl,hz⟩:=I.tuple hq
  refine SeqAt.in_tupleAt (eqU x) pl (fun w hw=>mem_eqAt rx fx r fs w (by simpa using hw)) ⟨.bl _,H,I,rfl,?_⟩
  rw [show its.toArray.any (eqU x)=its.any (eqU x) by simp,any_eqU r fs]
  exact q
theorem call_len_seq:CallR X (.builtin "len") (fun xs H Q=>∃ p ys,xs=[.ref p]∧(SqL X.K H p ys∨SqT X.K H p ys)∧Q (.int ys.length) H):=by
 intro pins s σ H xs us Q I r h
 obtain⟨p,ys,rfl,hq,q⟩:=h
 obtain⟨u,rfl,rx⟩:=vals1 r
 cases rx
 have hn:=line63
 rcases hq with hq | hq
 ·obtain⟨its,r',pl,hz⟩:=I.list hq
  have hlen:=r'.length
  exact Calls.call_len_list pl.isList (by simp only [List.size_toArray] <;> lia) ⟨.int ys.length,H,I.tok _,⟨s.toks+1,by rw [List.size_toArray,hlen]⟩,q⟩
 ·obtain⟨its,r',pl,hz⟩:=I.tuple hq
  have hlen:=r'.length
  exact len_tuple pl (by simp only [List.size_toArray] <;> lia) ⟨.int ys.length,H,I.tok _,⟨s.toks+1,by rw [List.size_toArray,hlen]⟩,q⟩
theorem call_tuple_of:CallR X (.type "tuple") (fun xs H Q=>∃ p ys,xs=[.ref p]∧((SqL X.K H p ys∧∀ l,H l=none→Q (.ref l) (upd H l (.tup ys)))∨(SqT X.K H p ys∧Q (.ref p) H))):=by
 intro pins s σ H xs us Q I r h
 obtain⟨p,ys,rfl,h⟩:=h
 obtain⟨u,rfl,rx⟩:=vals1 r
 cases rx
 rcases h with⟨hq,q⟩ | ⟨hq,q⟩
 ·obtain⟨its,r',pl,hz⟩:=I.list hq
  have hlen:=r'.length
  refine call_tuple_list pl.isList (fun h' kp=>?_) (by simp only [List.size_toArray] <;> lia)
  have I1:Inv X pins σ H { s with heap:=h' }:=I.kept (t':=s.toks) kp
  have I2:Inv X pins σ (upd H h'.objs.size (.tup ys)) { s with heap:=h'.push { cls:=.type "tuple",data:=.seq its.toArray } } :=
   I1.laid (t':=s.toks) (fun b o e=>Heap.get?_push_of_some _ e) (Nat.le_refl _) (show ObjOk X.prog X.w _ _ _ (.tup ys) from ⟨hz,its,r',IsTup.new _ _⟩)
  exact⟨.ref h'.objs.size,_,I2,rfl,q _ (I1.hok.fresh (Nat.le_refl _))⟩
 ·obtain⟨its,r',pl,hz⟩:=I.tuple hq
  exact call_tuple_same pl ⟨.ref p,H,I,rfl,q⟩
def tyV (K:PySem.W.Frag) (T:String) (x:V) (H:Hp):Prop:=match x with
 | .str _=>T="str"
 | .int _=>T="int"
 | .ref p=>(T="list"∧∃ xs,SqL K H p xs)∨(T="tuple"∧∃ o,K.lookup p=some o∧o.cls=.type "tuple"∧o.dict=none) ∨
   (T="dict"∧((∃ kvs,H p=some (.dK kvs))∨∃ kvs,H p=some (.dT kvs)))∨(T="set"∧∃ S n,H p=some (.set S n))
 | _=>False
theorem tyV_is {pins:List (Addr×Obj)}{σ:St}{H:Hp}{s:Shared}{T:String}{x:V}{v:Value} (I:Inv X pins σ H s) (r:RelV x v) (ty:tyV X.K T x H) :
  s.TypeIs v T∧∀ a,v=.ref a→∃ ob,s.heap.get? a=some ob∧ob.dict=none:=by
 cases x with
 | str z =>
  obtain⟨t,rfl⟩:=r
  cases (show T="str" from ty)
  exact⟨typeIs_str s z t,fun _ e=>nomatch e⟩
 | int i =>
  obtain⟨t,rfl⟩:=r
  cases (show T="int" from ty)
  exact⟨typeIs_int s i t,fun _ e=>nomatch e⟩
 | ref p =>
  cases r
  rcases ty with⟨rfl,xs,hq⟩ | ⟨rfl,o,hk,hc,hd⟩ | ⟨rfl,hk⟩ | ⟨rfl,S,n,hk⟩
  ·obtain⟨its,_,pl,_⟩:=I.list hq
   refine⟨pl.isList.typeIs,fun a e=>?_⟩
   cases e
   obtain⟨o,n,e,c,hd,_⟩:=pl
   exact⟨o,e,hd⟩
  ·refine⟨⟨o,I.kIn p o hk,hc⟩,fun a e=>?_⟩
   cases e
   exact⟨o,I.kIn _ o hk,hd⟩
  ·have z:∃ o,s.heap.get? p=some o∧o.ExactDict:=by
    rcases hk with⟨kvs,hk⟩ | ⟨kvs,hk⟩
    ·obtain⟨_,_,_,_,o,_,_,e,ex,_⟩:=I.hok p _ hk
     exact⟨o,e,ex⟩
    ·obtain⟨_,_,_,_,o,_,_,e,ex,_⟩:=I.hok p _ hk
     exact⟨o,e,ex⟩
   obtain⟨o,e,ex⟩:=z
   refine⟨⟨o,e,ex.1⟩,fun a e2=>?_⟩
   cases e2
   exact⟨o,e,ex.2.1⟩
  ·obtain⟨o,_,_,_,e,ex,_⟩:=I.hok p _ hk
   refine⟨⟨o,e,ex.1⟩,fun a e2=>?_⟩
   cases e2
   exact⟨o,e,ex.2.1⟩
 | _=>exact False.elim ty
def tBM0 (K:PySem.W.Frag) (T:String) (r:V→List V→Hp→VK→Prop) (to:TE):TE:=fun σ H Q=>to σ H fun x H1=>tyV K T x H1∧r x [] H1 Q
def tBM (K:PySem.W.Frag) (T:String) (r:V→List V→Hp→VK→Prop) (to:TE) (t:TA):TE:=fun σ H Q=>to σ H fun x H1=>tyV K T x H1∧t σ H1 fun xs H2=>r x xs H2 Q
variable {o e:Expr}{es:List Expr}{to:TE}{t:TA}{name:Str}{apos cpos:Pos}{T id:String}{r:V→List V→Hp→VK→Prop}
theorem pe_bm0 (pa:PlainAttrs T) (slot:Slot T name id) (hty:typeOf (.builtin id)=pure (.type "method_descriptor")) (hm:MtR X id r) (ho:PE X o to)
  (hbase:attributeBase o name X.env (eval o X.env)=eval o X.env:=by rfl) (hline:(apos.endLine == cpos.line)=true:=by rfl):PE X (.Call (.Attribute o name apos) [] [] cpos) (tBM0 X.K T r to):=by
 intro pins s σ H Q I h
 refine wpAny_Call_method0_late hbase hline (thn (ho pins s σ H _ I h) fun v s1 ⟨x,H1,I1,r1,ty,q1⟩=>?_)
 obtain⟨h1,h2⟩:=tyV_is I1 r1 ty
 exact⟨T,id,pa,slot,hty,h1,h2,Calls.callWith_builtin rfl (PySem.evalArgs_none (hm pins s1 σ H1 x [] v [] Q I1 r1 .nil q1))⟩
theorem pe_bm (pa:PlainAttrs T) (slot:Slot T name id) (hty:typeOf (.builtin id)=pure (.type "method_descriptor")) (hm:MtR X id r) (ho:PE X o to) (ha:PA X (e::es) t)
  (hbase:attributeBase o name X.env (eval o X.env)=eval o X.env:=by rfl)
  (hfew:((backTo cpos (starEach (e::es) X.env)).all (fun x=>!x.1) && (backToKw cpos (keywordEach [] X.env)).all (fun x=>x.1.isSome)
   && decide ((e::es).length+([]:List Keyword).length+(if ([]:List Keyword).isEmpty then 0 else 1)<30))=true:=by rfl)
  (hline:(apos.endLine == cpos.line)=true:=by rfl) (hs:starEach (e::es) X.env=(false,eval e X.env)::starEach es X.env:=by rfl) (hplain:(backTo cpos (starEach es X.env)).any (·.1)=false:=by rfl) :
  PE X (.Call (.Attribute o name apos) (e::es) [] cpos) (tBM X.K T r to t):=by
 intro pins s σ H Q I h
 refine wpAny_Call_method_late hbase hfew hline rfl (thn (ho pins s σ H _ I h) fun v s1 ⟨x,H1,I1,r1,ty,q1⟩=>?_)
 obtain⟨h1,h2⟩:=tyV_is I1 r1 ty
 refine⟨T,id,pa,slot,hty,h1,h2,?_⟩
 have hA:=ha cpos pins s1 σ H1 _ I1 q1
 rw [hs] at hA ⊢
 refine Calls.callWith_builtin (by show (false || (backTo cpos (starEach es X.env)).any (·.1))=false; rw [hplain] <;> rfl) (Calls.evalArgs_plain ?_)
 exact thn hA fun us s2 ⟨vs,H2,I2,r2,q2⟩=>hm pins s2 σ H2 x vs v us Q I2 r1 r2 q2
end
end L2
namespace L2
open PySem PySem.Spec PyProof.Rows
def MtM (X:Cx) (id:String) (r:V→List V→Hp→VK→Prop):Prop :=
 ∀ (pins:List (Addr×Obj)) (s:Shared) (σ:St) (H:Hp) (x:V) (xs:List V) (v:Value) (us:List Value) (Q:VK),Inv X pins σ H s→RelV x v→Vals xs us→r x xs H Q →
  wpAny (model X.prog X.w) X.A (call (.builtin id) (v::us)) (EP X pins σ Q) X.xe s
theorem Vals.one:∀ {x:V}{us:List Value},Vals [x] us→∃ u,us=[u]∧RelV x u
 | _,_,.cons r .nil=>⟨_,rfl,r⟩
theorem Vals.zero:∀ {us:List Value},Vals [] us→us=[]
 | _,.nil=>rfl
theorem Vals.dropLast {xs:List V}{us:List Value} (h:Vals xs us):Vals xs.dropLast us.dropLast:=by
 induction h with
 | nil=>exact .nil
 | cons r t ih =>
  cases t with
  | nil=>exact .nil
  | cons q t'=>exact .cons r ih
theorem Vals.eraseIdx:∀ {xs:List V}{us:List Value} (i:Nat),Vals xs us→Vals (xs.eraseIdx i) (us.eraseIdx i)
 | _,_,_,.nil=>.nil
 | _,_,0,.cons _ t=>t
 | _,_,i+1,.cons r t=>.cons r (Vals.eraseIdx i t)
theorem Vals.reverse {xs:List V}{us:List Value} (h:Vals xs us):Vals xs.reverse us.reverse:=by
 induction h with
 | nil=>exact .nil
 | cons r t ih=>rw [List.reverse_cons,List.reverse_cons]; exact Vals.append ih (.cons r .nil)
theorem Vals.rep {xs:List V}{us:List Value} (h:Vals xs us):∀ k:Nat,Vals (List.replicate k xs).flatten (List.replicate k us).flatten
 | 0=>.nil
 | k+1=>by
  rw [List.replicate_succ,List.replicate_succ,List.flatten_cons,List.flatten_cons]
  exact Vals.append h (Vals.rep h k)
theorem erase_last {α:Type} (l:List α):l.eraseIdx (l.length - 1)=l.dropLast:=by
 induction l with
 | nil=>rfl
 | cons a r ih =>
  cases r with
  | nil=>rfl
  | cons b r =>
   have e:(a::b::r).length - 1=((b::r).length - 1)+1:=by
    have h1:(a::b::r).length=r.length+2:=rfl
    have h2:(b::r).length=r.length+1:=rfl
    lia
   rw [e,List.eraseIdx_cons_succ,ih]
   all_goals rfl
theorem len_erase {α:Type}:∀ (l:List α) (i:Nat),(l.eraseIdx i).length≤l.length
 | [],_=>Nat.le_refl _
 | _::_,0=>Nat.le_succ _
 | _::r,i+1=>Nat.succ_le_succ (len_erase r i)
theorem foldl_rep (its:List Value):∀ (k:Nat) (acc:List Value),
  List.foldl (fun x1 x2=>x1++x2) acc.toArray (List.replicate k its.toArray)=(acc++(List.replicate k its).flatten).toArray
 | 0,acc=>by simp
 | k+1,acc=>by
  have e:acc.toArray++its.toArray=(acc++its).toArray:=by simp
  have e2:(acc++its)++(List.replicate k its).flatten=acc++(List.replicate (k+1) its).flatten:=by
   rw [List.replicate_succ,List.flatten_cons,List.append_assoc]
  rw [← e2,← foldl_rep its k (acc++its),← e,List.replicate_succ,List.foldl_cons]
section
variable {X:Cx}{pins:List (Addr×Obj)}{σ:St}{H:Hp}{s:Shared}{l b:Addr}{xs ys zs:List V}
theorem Inv.lset {its its':List Value}{n:Nat}{f:Array Value→Array Value}{t':Nat} (I:Inv X pins σ H s) (hH:H l=some (.lst xs))
  (e:s.heap.get? l=some { cls:=.type "list",data:=.seq its.toArray n }) (hf:f its.toArray=its'.toArray) (hv:Vals ys its') (hz:ys.length≤sizeLine) :
  Inv X pins σ (upd H l (.lst ys)) { s with heap:=s.heap.update l (Obj.mapSeq f),toks:=t' }:=by
 have q:=PySem.IsL.update e f
 rw [hf] at q
 refine I.write (x:=l) (e:=l) (by rw [hH]; exact trivial) (.inl rfl) (fun b' u hb hu=>(Heap.get?_update_other s.heap (Obj.mapSeq f) (Ne.symm hb)).trans hu) ⟨_,q⟩ ?_
 exact⟨hz,its',_,hv,q⟩
theorem Inv.lnew {its:List Value}{t':Nat} (I:Inv X pins σ H s) (hv:Vals ys its) (hz:ys.length≤sizeLine) :
  Inv X pins σ (upd H s.heap.objs.size (.lst ys)) { s with heap:=s.heap.push { cls:=.type "list",data:=.seq its.toArray },toks:=t' } :=
 I.laid (fun _ _ q=>Heap.get?_push_of_some _ q) (Nat.le_refl _) ⟨hz,its,0,hv,Heap.get?_push_size _ rfl⟩
theorem Inv.fresh (I:Inv X pins σ H s):H s.heap.objs.size=none:=I.hok.fresh (Nat.le_refl _)
theorem Inv.lstM (I:Inv X pins σ H s) (hH:H l=some (.lst xs)):xs.length≤sizeLine∧∃ (its:List Value) (n:Nat),Vals xs its∧xs.length=its.length∧s.heap.get? l=some { cls:=.type "list",data:=.seq its.toArray n }:=by
 obtain⟨z,its,n,r,e⟩:=I.hok l _ hH
 exact⟨z,its,n,r,r.length,e⟩
theorem notLongL {n:Nat} (h:n≤sizeLine):Builtin.List.listTooLong n=false:=by
 unfold Builtin.List.listTooLong
 exact decide_eq_false (by lia)
end
section
variable {X:Cx}
def rAppend:V→List V→Hp→VK→Prop:=fun x vs H Q=>∃ l xs y,x=.ref l∧vs=[y]∧H l=some (.lst xs)∧xs.length<sizeLine∧Q .non (upd H l (.lst (xs++[y])))
theorem mt_append:MtM X "list.append" rAppend:=by
 intro pins s σ H x vs v us Q I rx rv h
 obtain⟨l,xs,y,rfl,rfl,hH,hz,q⟩:=h
 cases rx
 obtain⟨u,rfl,ru⟩:=rv.one
 obtain⟨z,its,n,r,hl,e⟩:=I.lstM hH
 refine call_meets F.slot_list_append ⟨_,e,rfl⟩ F.entry_list_append (F.args_list_append_2 _ _) (PySem.list_append l its.toArray n u (by rw [List.size_toArray]; lia)) ⟨e,?_⟩
 refine⟨.non,_,I.lset (its':=its++[u]) hH e (by simp) (r.append (.cons ru .nil)) ?_,rfl,q⟩
 rw [List.length_append,List.length_singleton]
 lia
def rExtend:V→List V→Hp→VK→Prop:=fun x vs H Q=>∃ l b xs zs,x=.ref l∧vs=[.ref b]∧H l=some (.lst xs)∧H b=some (.lst zs)∧xs.length+zs.length≤sizeLine∧Q .non (upd H l (.lst (xs++zs)))
theorem mt_extend:MtM X "list.extend" rExtend:=by
 intro pins s σ H x vs v us Q I rx rv h
 obtain⟨l,b,xs,zs,rfl,rfl,hH,hB,hz,q⟩:=h
 cases rx
 obtain⟨u,rfl,ru⟩:=rv.one
 cases ru
 obtain⟨z,its,n,r,hl,e⟩:=I.lstM hH
 obtain⟨z2,its2,n2,r2,hl2,e2⟩:=I.lstM hB
 have hsz:its.toArray.size+its2.toArray.size≤sizeLine:=by rw [List.size_toArray,List.size_toArray]; lia
 have hlong:¬ (!its.toArray.isEmpty && Builtin.List.listTooLong (its.toArray.size+its2.toArray.size))=true:=by
  rw [notLongL hsz,Bool.and_false]
  exact Bool.false_ne_true
 refine call_meets F.slot_list_extend ⟨_,e,rfl⟩ F.entry_list_extend (F.args_list_extend_2 _ _)
  (AutoSeq1.list_extend_list_list_0 l its.toArray n b its2.toArray n2 hlong (by rw [List.size_toArray]; lia) (by lia)) ⟨e,e2,?_⟩
 refine⟨.non,_,I.lset (its':=its++its2) hH e (by simp) (r.append r2) ?_,rfl,q⟩
 rw [List.length_append]
 lia
def rPop:V→List V→Hp→VK→Prop:=fun x vs H Q=>∃ l xs y,x=.ref l∧vs=[]∧H l=some (.lst xs)∧xs[xs.length - 1]?=some y∧Q y (upd H l (.lst xs.dropLast))
theorem mt_pop:MtM X "list.pop" rPop:=by
 intro pins s σ H x vs v us Q I rx rv h
 obtain⟨l,xs,y,rfl,rfl,hH,hy,q⟩:=h
 cases rx
 have hus:=rv.zero
 subst hus
 obtain⟨z,its,n,r,hl,e⟩:=I.lstM hH
 obtain⟨u,hu,ru⟩:=r.get hy
 have hy':its.toArray[its.toArray.size - 1]?=some u:=by
  show its.toArray[its.length - 1]?=some u
  rw [← Array.getElem?_toList,← hl]
  exact hu
 refine call_meets F.slot_list_pop ⟨_,e,rfl⟩ F.entry_list_pop (F.args_list_pop_1 _) (MeetsSeq.list_pop_last l its.toArray n u hy' (by rw [List.size_toArray]; lia)) ⟨e,?_⟩
 refine⟨y,_,I.lset (its':=its.dropLast) hH e ?_ r.dropLast ?_,ru,q⟩
 ·show its.toArray.eraseIdxIfInBounds (its.toArray.size - 1)=its.dropLast.toArray
  rw [List.size_toArray,List.eraseIdxIfInBounds_toArray,erase_last]
 ·rw [List.length_dropLast]
  lia
def rPopAt:V→List V→Hp→VK→Prop:=fun x vs H Q=>∃ l xs i k y,x=.ref l∧vs=[.int i]∧H l=some (.lst xs)∧-(2 ^ 63)≤i∧i<2 ^ 63∧seqIndex? i xs.length=some k∧xs[k]?=some y∧Q y (upd H l (.lst (xs.eraseIdx k)))
theorem mt_popAt:MtM X "list.pop" rPopAt:=by
 intro pins s σ H x vs v us Q I rx rv h
 obtain⟨l,xs,i,k,y,rfl,rfl,hH,h1,h2,hk,hy,q⟩:=h
 cases rx
 obtain⟨u,rfl,ru⟩:=rv.one
 obtain⟨t,rfl⟩:=ru
 obtain⟨z,its,n,r,hl,e⟩:=I.lstM hH
 obtain⟨w,hw,rw'⟩:=r.get hy
 refine call_meets F.slot_list_pop ⟨_,e,rfl⟩ F.entry_list_pop (F.args_list_pop_2 _ _)
  (MeetsSeq.list_pop_at l its.toArray n i t k w (fitsIndex_both h1 h2) (by rw [List.size_toArray,← hl]; exact hk) (by rw [← Array.getElem?_toList]; exact hw) (by rw [List.size_toArray]; lia)) ⟨e,?_⟩
 refine⟨y,_,I.lset (its':=its.eraseIdx k) hH e ?_ (r.eraseIdx k) ?_,rw',q⟩
 ·show its.toArray.eraseIdxIfInBounds k=(its.eraseIdx k).toArray
  rw [List.eraseIdxIfInBounds_toArray]
 ·have:=len_erase xs k
  lia
def rRep:R2:=fun x y H Q=>∃ l k xs,x=.ref l∧y=.int k∧H l=some (.lst xs)∧-(2 ^ 63)≤k∧k<2 ^ 63∧xs.length * k.toNat≤sizeLine ∧
 ∀ p,H p=none→Q (.ref p) (upd H p (.lst (List.replicate k.toNat xs).flatten))
theorem len_rep {α:Type} (xs:List α) (k:Nat):(List.replicate k xs).flatten.length=k * xs.length:=by
 induction k with
 | zero=>simp
 | succ k ih=>rw [List.replicate_succ,List.flatten_cons,List.length_append,ih,Nat.succ_mul,Nat.add_comm]
theorem op_rep:OpR X (binaryOp .Mult) rRep:=by
 intro pins s σ H x y v u Q I rx ry h
 obtain⟨l,k,xs,rfl,rfl,hH,h1,h2,hz,q⟩:=h
 cases rx
 obtain⟨t,rfl⟩:=ry
 obtain⟨z,its,n,r,hl,e⟩:=I.lstM hH
 have hlen:its.toArray.size * k.toNat≤sizeLine:=by rw [List.size_toArray,← hl]; exact hz
 have hcap:¬ its.toArray.size * k.toNat > (2 ^ 63 - 1) / 8:=by
  have:(sizeLine:Nat)≤(2 ^ 63 - 1) / 8:=by decide
  lia
 have hfit:¬ (!Builtin.List.listFitsIndex k)=true:=by
  rw [fitsIndex_both h1 h2]
  exact Bool.false_ne_true
 have hlong:¬ Builtin.List.listTooLong (its.toArray.size * k.toNat)=true:=by
  rw [notLongL hlen]
  exact Bool.false_ne_true
 have hnew:List.foldl (fun x1 x2=>x1++x2) #[] (List.replicate (if its.toArray.isEmpty=true then 0 else k.toNat) its.toArray)=(List.replicate k.toNat its).flatten.toArray:=by
  have f0:∀ m:Nat,List.foldl (fun x1 x2=>x1++x2) #[] (List.replicate m its.toArray)=(List.replicate m its).flatten.toArray:=fun m=>by
   have:=foldl_rep its m []
   rw [List.nil_append] at this
   exact this
  rw [f0]
  cases its with
  | nil=>simp
  | cons a r'=>rw [if_neg (by simp)]
 refine wpAny_binaryOp_repeat_ref (T:="list") (U:="int") (by decide) ⟨_,e,rfl⟩ (fun s'=>typeIs_int s' k t) noFill_list_mul F.fills_int_mul F.slot_int_rmul repeat_list F.slot_int_index.lookup
  (call_meets F.slot_int_rmul (typeIs_int s k t) F.entry_int_rmul (F.args_int_rmul_2 _ _) (int___rmul___int_list k t l its.toArray n)
   ⟨e,rfl,⟨_,e,rfl⟩,call_meets F.slot_list_mul ⟨_,e,rfl⟩ F.entry_list_mul (F.args_list_mul_2 _ _) (AutoListH.list___mul___list_int_3 l its.toArray n k t hfit hcap hlong) ⟨e,?_⟩⟩)
 rw [hnew]
 exact⟨.ref _,_,I.lnew (t':=s.toks) (r.rep k.toNat) (by rw [len_rep,Nat.mul_comm]; exact hz),rfl,q _ I.fresh⟩
end
section
variable {prog:Program}{w:World}{A:Around}{E:Value→Shared→Prop}{s:Shared}
end
section
variable {X:Cx}
end
end L2
namespace Att
open PySem PySem.W PySem.Calls PyProof.Rows
theorem ints_of_wellAll {P:Params}{h:Heap}:∀ (ns:List Int) (vs:List Value),WellAll P h vs (ns.map WData.int)→IntsAre vs ns:=by
 intro ns
 induction ns with
 | nil =>
  intro vs w
  rw [List.map_nil] at w
  cases w
  exact .nil
 | cons n ns ih =>
  intro vs w
  rw [List.map_cons] at w
  cases w with
  | cons a b =>
   cases a
   exact .cons _ _ (ih _ b)
theorem script_of {l:OpenLaw}{n:Nat} (hn:l.most=some n) {P:Params}{h:Heap}{args:List WData}{vals:List Value}
  (hpre:l.row.toRowW.claim.pre args=true) (hwl:WellAll P h vals args) :
  ∃ a vs ns,vals=[Value.ref a]∧args=[WData.list (ns.map WData.int)]∧h.get? a=some { cls:=.type "list",data:=.seq vs.toArray }∧IntsAre vs ns∧ns.length≤n:=by
 have hsh:WShape.hasAll [] args [.list .int]=true:=(pre_splitW hpre).1
 have hc:l.pre.holds [] { args:=args }=true:=(pre_splitW hpre).2
 obtain⟨d,r,rfl,h1,h2⟩:=hasAllW_cons hsh
 obtain rfl:=hasAllW_nil h2
 obtain⟨xs,rfl,h3⟩:=hasW_list h1
 obtain⟨ns,rfl⟩:=items_int h3
 have hlen:ns.length≤n:=by
  unfold OpenLaw.pre at hc
  have h4:(WTm.not (.lt (.lit (.int (n:Int))) (.len (.arg 0)))).holds [] { args:=[.list (ns.map .int)] }=true:=by
   have h4:=(holds_andW hc).1
   rw [hn] at h4
   exact h4
  have h5:=condW_of h4 (w_not (w_lt w_lit (w_len_list (w_arg rfl))))
  rw [List.length_map] at h5
  refine Nat.le_of_not_lt fun q=>?_
  have q':(n:Int)<((ns.length:Nat):Int):=by lia
  first
   | (rw [decide_eq_true q'] at h5; exact absurd h5 (by decide))
   | (simp at h5; lia)
 cases hwl with
 | cons w1 w2 =>
  cases w2
  cases w1 with
  | list ho hall=>exact⟨_,_,ns,rfl,rfl,ho,ints_of_wellAll ns _ hall,hlen⟩
theorem post_true (l:OpenLaw) (args:List WData):l.row.toRowW.claim.post args (.bool true) args=true :=
 postW_of (r:=l.row.toRowW) (X:=(true == true))
  (show WShape.has [] (.bool true) .bool=true by first | rfl | decide | simp [WShape.has,WShape.arms,WShape.armsAll])
  (show (WTm.eq .res (.lit (.bool true))).value [] { args:=args,res:=some (.bool true),after:=args }=some (.bool (true == true)) from w_eq_bool (w_res rfl) w_lit) rfl
theorem attach_call {l:OpenLaw}{n:Nat}{q:Program}{loose:List Str}{XP:(Str→Option Value)→Heap→Prop}{YP:World→Heap→Prop}{d:DefRec}
  (hn:l.most=some n) (hdf:d.params.defaults=[])
  (call:∀ (w:World) (s₀ s₁:Shared) (mg mb:Str→Option Value) (fa:Addr) (o:Obj) (pm cd doc:Value) (a:Addr) (vs:List Value) (ns:List Int),
   Ground q loose [] XP w s₀ mg mb s₁.heap→YP w s₁.heap →
   s₁.heap.get? fa=some o→o.data=.func (docDef d.name d.params d.body d.scope pm cd doc)→s₁.heap.CodeRec cd d.name→mg d.name=some (.ref fa) →
   s₁.heap.get? a=some { cls:=.type "list",data:=.seq vs.toArray }→IntsAre vs ns→ns.length≤n→s₁.gens=#[] →
   codeAny (model l.prog w) callerA (.call (.ref fa) ⟨[.ref a],[]⟩) (fun r s'=>r=.ok (.ret (.bool true))∧OldK s₁.heap s'.heap∧s'.os=s₁.os∧AllBare s'.gens) s₁) :
  WalkO q loose XP YP l.row.toRowW d [] (fun f vs=>PySem.call f vs):=by
 intro w s₀ s₁ mg mb G Y fa o pm cd doc dV kV ho hd hcd hD hmg hg args vals as hpre hlay hrd hwl hlo
 obtain rfl:dV=.none:=Dflts.none hD hdf
 obtain rfl:kV=.none:=Dflts.noKw hD
 obtain⟨a,vs,ns,rfl,rfl,hobj,hints,hlen⟩:=script_of hn hpre hwl
 refine enter_call (codeAny_mono (call w s₀ s₁ mg mb fa o pm cd doc a vs ns G Y ho (fd_plain hd) hcd hmg hobj hints hlen hg) fun r s' hq=>?_)
 obtain⟨rfl,h2,h3,h4⟩:=hq
 exact⟨.inl ⟨.bool true,.bool true,[],rfl,fun _=>rfl,.bool true,post_true l _,fun _=>⟨List.Pairwise.nil,fun _ hm=>(nomatch hm)⟩⟩,h2,h3,h4⟩
section
variable {prog:Program}{w:World}{A:Around}{E:Value→Shared→Prop}{s:Shared}{K:Frag}
end
end Att
namespace L2
open PySem PySem.Spec PyProof.Rows
theorem vals_ints:∀ {vs:List Value}{ns:List Int},IntsAre vs ns→Vals (ns.map V.int) vs
 | _,_,.nil=>.nil
 | _,_,.cons n t h=>.cons ⟨t,rfl⟩ (vals_ints h)
def Only (H:Hp):Prop:=∀ b,H b=none∨∃ o xs,H b=some (.frz o (.lst xs))
theorem law_call {P:Program}{w:World}{K:PySem.W.Frag}{mg mb:Str→Option Value}{CX:CXT}{k:Nat}{fa a:Addr}{fd:FuncData}{x:Str}{sp:Sp}{s₁:Shared}{vs:List Value}{ns:List Int}
  (KX:K.In s₁.heap) (hns:s₁.heap.Ns mainGlobals mg) (hb:s₁.heap.Ns builtinsNs mb) (hbb:∀ x:Str,x≠"__name__"→mb x=bootBuiltins x) (hlim:s₁.heap.NoLimit) (hg:s₁.gens=#[])
  (ha:s₁.heap.get? a=some { cls:=.type "list",data:=.seq vs.toArray }) (hi:IntsAre vs ns) (hl:ns.length≤sizeLine) (hr:Room k callerA)
  (F:∀ base:Heap,K.In base→base.Ns mainGlobals mg→FnOk P w K mg base CX k fa fd [x] sp) (hbind:∀ (s:Shared) (u:Value),BindsTo s fd ⟨[u],[]⟩ [(x,u)])
  (hsp:∀ H:Hp,Only H→SqL K H a (ns.map V.int)→sp [.ref a] H (fun v _=>v=.bl true) fun _ _ _=>False)
  (hCX:∀ H e s',CX [] H s₁ (fun _ _ _=>False) e s'→False) :
  codeAny (model P w) callerA (.call (.ref fa) ⟨[.ref a],[]⟩) (fun r s'=>r=.ok (.ret (.bool true))∧OldK s₁.heap s'.heap∧s'.os=s₁.os∧AllBare s'.gens) s₁:=by
 have rv:=vals_ints hi
 have lenV:=hi.length
 have core:∀ H:Hp,Only H→SqL K H a (ns.map V.int)→HOk P w H s₁.heap→(∀ b,H b≠none→b=a)→(H a≠none→K.lookup a=none) →
   codeAny (model P w) callerA (.call (.ref fa) ⟨[.ref a],[]⟩) (fun r s'=>r=.ok (.ret (.bool true))∧OldK s₁.heap s'.heap∧s'.os=s₁.os∧AllBare s'.gens) s₁:=by
  intro H hO hS hok hA hK
  have base_of:∀ {b:Addr}{o:Obj},s₁.heap.get? b=some o→H b=none→(hidT s₁.heap H).get? b=some o:=fun e n=>hidT_get e n
  have noA:∀ {b:Addr}{o:Obj}{es:Array DictEntry}{ep:Nat},s₁.heap.get? b=some o→o.data=.dict es ep→H b=none:=fun {b o es ep} e d=>by
   cases q:H b with
   | none=>rfl
   | some u =>
    have e':b=a:=hA b (by rw [q]; simp)
    subst e'
    rw [ha] at e; cases e
    have d':Data.seq vs.toArray _=Data.dict es ep:=d
    cases d'
  have nsK:∀ {b:Addr}{m:Str→Option Value},s₁.heap.Ns b m→(hidT s₁.heap H).Ns b m:=fun {b m} ⟨o,es,ep,e,d,r⟩=>⟨o,es,ep,base_of e (noA e d),d,r⟩
  have hKb:K.In (hidT s₁.heap H):=fun b o e=>base_of (KX b o e) (by
   cases q:H b with
   | none=>rfl
   | some u =>
    have e':b=a:=hA b (by rw [q]; simp)
    subst e'
    rw [hK (by rw [q]; simp)] at e; cases e)
  have hM:Mod K mg (hidT s₁.heap H):=⟨hKb,nsK hns,⟨mb,nsK hb,hbb⟩,let ⟨mc,h1,h2⟩:=hlim; ⟨mc,nsK h1,h2⟩⟩
  have e0:Env0 P w K mg (hidT s₁.heap H) callerA [] s₁ H:=⟨rfl,hM,fun b o e=>of_hidT e,Nat.le_of_eq (hidT_size _ _),trivial,fun b hb=>absurd (show b∈([]:List Addr) from hb) (by simp),hok,.of_eq hg⟩
  refine codeAny_mono ((F _ hKb (nsK hns)).run callerA [] s₁ H ⟨[.ref a],[]⟩ [.ref a] [.ref a] _ _ hr e0 (hbind s₁ (.ref a)) (.cons rfl .nil) (hsp H hO hS)) fun r s' h=>?_
  cases r with
  | error e=>exact (hCX H e s' h).elim
  | ok fl =>
   cases fl with
   | next=>exact False.elim h
   | brk=>exact False.elim h
   | cont=>exact False.elim h
   | ret u =>
    obtain⟨v,H',os,bare,un,hok',r',q⟩:=h
    have q':v=.bl true:=q
    subst q'
    obtain rfl:u=Value.bool true:=r'
    refine⟨rfl,OldK.of_keep fun b o e=>?_,os,bare⟩
    cases q:H b with
    | none=>exact un.keep b o e q (by intro z; exact absurd (show b∈([]:List Addr) from z) (by simp)) (by simp)
    | some u =>
     rcases hO b with z | ⟨ob,xs,z⟩
     ·rw [q] at z; cases z
     ·have z2:=un.frzs b ob _ z
      obtain⟨e1,_⟩:=hok b _ z
      obtain⟨e2,_⟩:=hok' b _ z2
      rw [e] at e1; cases e1
      exact e2
 cases hk:K.lookup a with
 | some o =>
  have e:=KX a o hk
  rw [ha] at e
  cases e
  refine core (fun _=>none) (fun _=>.inl rfl) (.inr ⟨_,vs.toArray,_,hk,rfl,rfl,rfl,by rw [List.size_toArray,lenV]; exact hl,by simpa using rv⟩) (fun b u z=>by have z':(none:Option HO)=some u:=z; cases z') (fun b z=>absurd rfl z) fun z=>absurd rfl z
 | none =>
  refine core (fun b=>if b=a then some (.frz { cls:=.type "list",data:=.seq vs.toArray } (.lst (ns.map V.int))) else none) (fun b=>?_) (.inl (.inr ⟨{ cls:=.type "list",data:=.seq vs.toArray },if_pos rfl⟩)) (fun b u z=>?_) (fun b z=>?_) fun _=>hk
  ·by_cases hb:b=a
   ·exact .inr ⟨_,_,if_pos hb⟩
   ·exact .inl (if_neg hb)
  ·by_cases hb:b=a
   ·have z':=(if_pos hb).symm.trans z
    cases z'
    subst hb
    exact⟨ha,by rw [List.length_map]; exact hl,vs,_,rv,ha⟩
   ·have z':=(if_neg hb).symm.trans z
    cases z'
  ·by_cases hb:b=a
   ·exact hb
   ·exact absurd (if_neg hb) z
end L2
namespace L2
open PySem PySem.Spec PyProof.Rows
theorem walk_of {l:PySem.W.OpenLaw}{n k:Nat}{q:Program}{loose:List Str}{XP:(Str→Option Value)→Heap→Prop}{YP:World→Heap→Prop}{d:DefRec}{K:Params→PySem.W.Frag}{CX:World→CXT}{sp:World→Sp}{x:Str}
  (hn:l.most=some n) (hn2:n≤sizeLine) (hdf:d.params.defaults=[]) (hr:Room k callerA)
  (hY:∀ (w:World) (h:Heap),YP w h→(K w.params).In h)
  (F:∀ (w:World) (mg:Str→Option Value) (fa:Addr) (h:Heap),(K w.params).In h→h.Ns mainGlobals mg→mg d.name=some (.ref fa) →
   ∃ fd:FuncData,(∀ (s:Shared) (u:Value),BindsTo s fd ⟨[u],[]⟩ [(x,u)]) ∧
    ∀ base:Heap,(K w.params).In base→base.Ns mainGlobals mg→FnOk l.prog w (K w.params) mg base (CX w) k fa fd [x] (sp w))
  (hsp:∀ (w:World) (H:Hp) (a:Addr) (ns:List Int),ns.length≤n→Only H→SqL (K w.params) H a (ns.map V.int)→sp w [.ref a] H (fun v _=>v=.bl true) fun _ _ _=>False)
  (hCX:∀ (w:World) (H:Hp) (s:Shared) (e:Value) (s':Shared),CX w [] H s (fun _ _ _=>False) e s'→False) :
  PySem.W.WalkO q loose XP YP l.row.toRowW d [] (fun f vs=>PySem.call f vs):=by
 refine Att.attach_call hn hdf fun w s₀ s₁ mg mb fa o pm cd doc a vs ns G Y ho hd hcd hmg hobj hints hlen hg=>?_
 have KX:=hY w _ Y
 obtain⟨fd,hb,hF⟩:=F w mg fa _ KX G.T.g hmg
 exact law_call KX G.T.g G.T.b G.T.builtins G.T.nolimit hg hobj hints (Nat.le_trans hlen hn2) hr hF hb (fun H hO hS=>hsp w H a ns hlen hO hS) fun H e s'=>hCX w H s₁ e s'
end L2
namespace L2
open PySem PySem.Spec PyProof.Rows
def inClass (s:Stmt) (j:Nat):Stmt:=match s with
 | .ClassDef _ _ _ body _ _ _ _ _ _ _=>body.getD j (.Pass ⟨0,0,0,0⟩)
 | _=>.Pass ⟨0,0,0,0⟩
def defArgs (s:Stmt):Arguments:=match s with
 | .FunctionDef _ a _ _ _ _ _ _ _ _=>a
 | _=>{ posonlyargs:=[],args:=[],vararg:=none,kwonlyargs:=[],kw_defaults:=[],kwarg:=none,defaults:=[] }
def defBody (s:Stmt):List Stmt:=match s with
 | .FunctionDef _ _ b _ _ _ _ _ _ _=>b
 | _=>[]
def defScope (s:Stmt):Scope:=match s with
 | .FunctionDef _ _ _ _ _ _ sc _ _ _=>sc
 | _=>{ kind:=.function,names:=[],isGenerator:=false,isCoroutine:=false }
abbrev CX0:CXT:=fun _ _ _ _ _ _=>False
abbrev E0:XK:=fun _ _ _=>False
theorem pass0 {X:Cx}:Passes CX0 X E0:=fun _ _ _ _ _ _ _ h=>h.elim
structure Fun (K:PySem.W.Frag) (x qual:Str) (st:Stmt) (f:Addr) (fd:FuncData):Prop where
 ex:∃ (oc:Value) (od:Option Addr) (kV doc pm:Value) (an:Option Addr) (cdv ct:Value) (osl:Array (Option Value)),
  fd=PySem.W.fnOf x qual (defArgs st) (defBody st) (defScope st) .none kV doc pm an cdv ct∧K.lookup f=some ⟨oc,od,.func fd,osl⟩∧PySem.W.codeIn K cdv qual=true
 kp:PySem.W.keepIn K (.ref f)=true
section
variable {P:Program}{w:World}{K:PySem.W.Frag}{mg:Str→Option Value}{base:Heap}
theorem Fun.ok {x qual:Str}{st:Stmt}{f:Addr}{fd:FuncData}{N ps:List Str}{k:Nat}{sp:Sp} (F:Fun K x qual st f fd) (S:FnScope N ps (defScope st)) (len:∀ vs H Q E,sp vs H Q E→vs.length=ps.length)
  (hbody:∀ (cdv:Value) (A:Around) (outer:List Env) (s:Shared) (H:Hp) (vs:List V) (Q:VK) (E:XK),Room k (A.deeper (envOfC qual (defScope st) s.heap.objs.size f cdv))→sp vs H Q E →
   ∃ t,PSs (cxOf CX0 P w K mg base N qual (defScope st) f cdv A outer s H E).nox (defBody st) t∧t { nx:=fun _ H'=>Q .non H',rt:=Q } (start N vs) H):FnOk P w K mg base CX0 (k+1) f fd ps sp:=by
 obtain⟨oc,od,kV,doc,pm,an,cdv,ct,osl,rfl,lk,hcd⟩:=F.ex
 refine fn_of lk hcd S len fun A outer s H vs Q E hr hsp=>?_
 obtain⟨t,h,q⟩:=hbody cdv A outer s H vs Q E hr hsp
 exact⟨t,h.nox,q⟩
theorem Fun.binds {x qual:Str}{st:Stmt}{f:Addr}{fd:FuncData}{ps:List Str} (F:Fun K x qual st f fd)
  (h:∀ (kV doc pm:Value) (an:Option Addr) (cdv ct:Value) (us:List Value),us.length=ps.length→bindArgs (PySem.W.fnOf x qual (defArgs st) (defBody st) (defScope st) .none kV doc pm an cdv ct) ⟨us,[]⟩=pure (ps.zip us)):Binds K fd ps []:=by
 obtain⟨oc,od,kV,doc,pm,an,cdv,ct,osl,rfl,lk,hcd⟩:=F.ex
 exact .all (h kV doc pm an cdv ct)
theorem fun_mk {x qual:Str}{st:Stmt}{f:Addr}{oc:Value}{od an:Option Addr}{osl:Array (Option Value)}{kV doc pm cdv ct:Value} (l:K.lookup f=some ⟨oc,od,.func (PySem.W.fnOf x qual (defArgs st) (defBody st) (defScope st) .none kV doc pm an cdv ct),osl⟩)
  (c:PySem.W.codeIn K cdv qual=true) (k:PySem.W.keepIn K (.ref f)=true):Fun K x qual st f (PySem.W.fnOf x qual (defArgs st) (defBody st) (defScope st) .none kV doc pm an cdv ct):=⟨⟨oc,od,kV,doc,pm,an,cdv,ct,osl,rfl,l,c⟩,k⟩
end
section
variable {X:Cx}
theorem pv (i:Nat) {x:Str}{pos:Pos} (hN:X.N[i]?=some x:=by rfl) (hv:Vis X.env.scope x:=by first | exact Or.inl rfl | exact Or.inr (Or.inl rfl) | exact Or.inr (Or.inr rfl)) (hd:(x == ("__debug__":Str))=false:=by decide)
  (hcd:(x == ("__classdict__":Str))=false:=by decide):PE X (.Name x pos) (tVar i):=pe_var hN hv hd hcd
end
theorem iteF {A B:Prop} (h:B):if false=true then A else B:=by
 rw [if_neg Bool.false_ne_true]
 exact h
theorem iteT {A B:Prop} (h:A):if true=true then A else B:=by
 rw [if_pos rfl]
 exact h
theorem ite2 {c A B:Prop} [Decidable c] (h1:c→A) (h2:¬ c→B):if c then A else B:=by
 by_cases h:c
 ·rw [if_pos h]
  exact h1 h
 ·rw [if_neg h]
  exact h2 h
def Same (H H':Hp):Prop:=∀ b o,H b=some o→H' b=some o
theorem Same.refl (H:Hp):Same H H:=fun _ _ h=>h
theorem Same.trans {H H1 H2:Hp} (a:Same H H1) (b:Same H1 H2):Same H H2:=fun c o h=>b c o (a c o h)
theorem Same.free {H H':Hp} (e:Same H H') {l:Addr} (h:H' l=Option.none):H l=Option.none:=by
 cases q:H l with
 | none=>rfl
 | some o =>
  rw [e l o q] at h
  cases h
theorem Same.seq {K:PySem.W.Frag}{H H':Hp}{a:Addr}{xs:List V} (e:Same H H') (h:SqL K H a xs):SqL K H' a xs:=by
 rcases h with (h | ⟨o,h⟩) | h
 ·exact .inl (.inl (e _ _ h))
 ·exact .inl (.inr ⟨o,e _ _ h⟩)
 ·exact .inr h
end L2
set_option maxHeartbeats 4000000
namespace Sw
inductive All2 {α β:Type} (R:α→β→Prop):List α→List β→Prop where
 | nil:All2 R [] []
 | cons {a:α}{b:β}{as:List α}{bs:List β}:R a b→All2 R as bs→All2 R (a::as) (b::bs)
namespace All2
variable {α β:Type}{R S:α→β→Prop}
theorem length {as:List α}{bs:List β} (h:All2 R as bs):bs.length=as.length:=by
 induction h with
 | nil=>rfl
 | cons _ _ ih=>rw [List.length_cons,List.length_cons,ih]
theorem imp {as:List α}{bs:List β} (f:∀ a b,R a b→S a b) (h:All2 R as bs):All2 S as bs:=by
 induction h with
 | nil=>exact .nil
 | cons r _ ih=>exact .cons (f _ _ r) ih
theorem append {as as':List α}{bs bs':List β} (h:All2 R as bs) (g:All2 R as' bs'):All2 R (as++as') (bs++bs'):=by
 induction h with
 | nil=>exact g
 | cons r _ ih=>exact .cons r ih
theorem one {a:α}{b:β} (h:R a b):All2 R [a] [b]:=.cons h .nil
theorem get {as:List α}{bs:List β} (h:All2 R as bs):∀ {i:Nat}{b:β},bs[i]?=some b→∃ a,as[i]?=some a∧R a b:=by
 induction h with
 | nil=>intro i b e; simp at e
 | cons r _ ih =>
  intro i b e
  cases i with
  | zero=>exact⟨_,rfl,by have e':=Option.some.inj e; rw [← e']; exact r⟩
  | succ i=>exact ih (i:=i) (by simpa using e)
theorem take (n:Nat):∀ {as:List α}{bs:List β},All2 R as bs→All2 R (as.take n) (bs.take n):=by
 induction n with
 | zero=>intro as bs _; rw [List.take_zero,List.take_zero]; exact .nil
 | succ n ih =>
  intro as bs h
  cases h with
  | nil=>exact .nil
  | cons r h=>exact .cons r (ih h)
theorem of_get:∀ {bs:List β}{as:List α},bs.length=as.length→(∀ (i:Nat) b,bs[i]?=some b→∃ a,as[i]?=some a∧R a b)→All2 R as bs
 | [],[],_,_=>.nil
 | [],_::_,h,_=>by simp at h
 | _::_,[],h,_=>by simp at h
 | b::bs,a::as,h,g=>by
  obtain⟨a',e,r⟩:=g 0 b rfl
  have e':=Option.some.inj e
  refine .cons (by rw [e']; exact r) (of_get (by simpa using h) fun i b e=>?_)
  exact g (i+1) b (by simpa using e)
end All2
inductive T where
 | node (ts:List T)
namespace T
def kids:T→List T | .node ts=>ts
mutual
def parts:T→Nat | .node ts=>1+partsL ts
def partsL:List T→Nat
 | []=>0
 | t::ts=>parts t+partsL ts
end
mutual
def deep:T→Nat | .node ts=>deepL ts
def deepL:List T→Nat
 | []=>0
 | t::ts=>max (deep t+1) (deepL ts)
end
mutual
def beq:T→T→Bool | .node ts,.node us=>beqL ts us
def beqL:List T→List T→Bool
 | [],[]=>true
 | t::ts,u::us=>beq t u && beqL ts us
 | _,_=>false
end
mutual
theorem beq_iff:∀ t u:T,beq t u=true↔t=u
 | .node ts,.node us=>by
  unfold beq
  rw [beqL_iff ts us]
  exact⟨fun h=>by rw [h],fun h=>by injection h⟩
theorem beqL_iff:∀ ts us:List T,beqL ts us=true↔ts=us
 | [],[]=>by simp [beqL]
 | [],_::_=>by simp [beqL]
 | _::_,[]=>by simp [beqL]
 | t::ts,u::us=>by
  unfold beqL
  rw [Bool.and_eq_true,beq_iff t u,beqL_iff ts us]
  simp
end
theorem beq_self (t:T):beq t t=true:=(beq_iff t t).mpr rfl
instance:DecidableEq T:=fun t u=>if h:beq t u=true then isTrue ((beq_iff t u).mp h) else isFalse fun e=>h ((beq_iff t u).mpr e)
theorem parts_node (ts:List T):(T.node ts).parts=1+partsL ts:=by unfold parts; rfl
theorem deep_node (ts:List T):(T.node ts).deep=deepL ts:=by unfold deep; rfl
theorem partsL_nil:partsL []=0:=by unfold partsL; rfl
theorem partsL_cons (t:T) (ts:List T):partsL (t::ts)=t.parts+partsL ts:=by rw [partsL]
theorem deepL_nil:deepL []=0:=by unfold deepL; rfl
theorem deepL_cons (t:T) (ts:List T):deepL (t::ts)=max (t.deep+1) (deepL ts):=by rw [deepL]
theorem parts_pos (t:T):1≤t.parts:=by cases t; rw [parts_node]; lia
theorem parts_kids (t:T):t.parts=1+partsL t.kids:=by cases t; rw [parts_node]; rfl
theorem partsL_append:∀ a b:List T,partsL (a++b)=partsL a+partsL b
 | [],b=>by rw [partsL_nil,List.nil_append]; lia
 | t::a,b=>by rw [List.cons_append,partsL_cons,partsL_cons,partsL_append a b]; lia
theorem deepL_append:∀ a b:List T,deepL (a++b)=max (deepL a) (deepL b)
 | [],b=>by rw [deepL_nil,List.nil_append]; lia
 | t::a,b=>by rw [List.cons_append,deepL_cons,deepL_cons,deepL_append a b]; lia
theorem len_le_parts:∀ ts:List T,ts.length≤partsL ts
 | []=>by simp
 | t::ts=>by
  have h1:=parts_pos t
  have h2:=len_le_parts ts
  rw [partsL_cons,List.length_cons]
  lia
theorem partsL_dropLast {ts:List T}{t:T} (h:ts[ts.length - 1]?=some t):partsL ts=partsL ts.dropLast+t.parts:=by
 have e:ts=ts.dropLast++[t]:=by
  have hne:ts≠[]:=by rintro rfl; simp at h
  have h2:=List.dropLast_concat_getLast hne
  have h3:ts.getLast hne=t:=by
   rw [← List.getLast?_eq_getElem?,List.getLast?_eq_some_getLast hne] at h
   exact Option.some.inj h
  rw [h3] at h2
  exact h2.symm
 have e2:partsL ts=partsL (ts.dropLast++[t]):=congrArg partsL e
 rw [e2,partsL_append,partsL_cons,partsL_nil]
 lia
theorem partsL_take_drop (n:Nat) (ts:List T):partsL ts=partsL (ts.take n)+partsL (ts.drop n):=by
 rw [← partsL_append,List.take_append_drop]
theorem partsL_le_of {B:Nat}:∀ {ts:List T},(∀ t∈ts,t.parts≤B)→partsL ts≤ts.length * B
 | [],_=>by rw [partsL_nil]; lia
 | t::ts,h=>by
  have h1:=h t List.mem_cons_self
  have h2:=partsL_le_of fun u hu=>h u (List.mem_cons_of_mem _ hu)
  rw [partsL_cons,List.length_cons,Nat.succ_mul]
  lia
theorem deepL_le_of {B:Nat}:∀ {ts:List T},(∀ t∈ts,t.deep+1≤B)→deepL ts≤B
 | [],_=>by rw [deepL_nil]; lia
 | t::ts,h=>by
  have h1:=h t List.mem_cons_self
  have h2:=deepL_le_of fun u hu=>h u (List.mem_cons_of_mem _ hu)
  rw [deepL_cons]
  lia
theorem mem_parts:∀ {ts:List T}{t:T},t∈ts→t.parts≤partsL ts
 | _::ts,t,h=>by
  rw [partsL_cons]
  rcases List.mem_cons.mp h with rfl | h
  ·lia
  ·have:=mem_parts h
   lia
theorem mem_deep:∀ {ts:List T}{t:T},t∈ts→t.deep+1≤deepL ts
 | _::ts,t,h=>by
  rw [deepL_cons]
  rcases List.mem_cons.mp h with rfl | h
  ·lia
  ·have:=mem_deep h
   lia
end T
end Sw
namespace Sw
open PySem PySem.Spec PyProof.Rows L2
abbrev Sg:=List (Option V)
def blk (X:Cx) (scope:Scope) (cl:List (Str×Addr)) (C:Addr) (N:List Str) (s:Shared) (H:Hp) (fp:List Addr) (pins:List (Addr×Obj)):Cx :=
 { X with N:=N,s₀:=s,H₀:=H,env:=compEnvC scope cl C X.env,outer:=X.stack,ex:=fp,fn:=fun _=>false,calm:=true,pn:=X.pn++pins,xe:=fun _ _=>False }
def FrOk (X:Cx) (scope:Scope):List Str→List Nat→Prop
 | [],[]=>True
 | y::fr,j::js=>(X.N[j]?=some y∧X.env.scope.names.lookup y=some .cell∧(relabel scope X.env).names.lookup y=some .cell)∧FrOk X scope fr js
 | _,_=>False
theorem FrOk.len {X:Cx}{scope:Scope}:∀ {fr:List Str}{js:List Nat},FrOk X scope fr js→fr.length=js.length
 | [],[],_=>rfl
 | _::_,_::_,h=>congrArg (· + 1) (FrOk.len h.2)
theorem FrOk.get {X:Cx}{scope:Scope}:∀ {fr:List Str}{js:List Nat},FrOk X scope fr js→∀ {i:Nat}{y:Str},fr[i]?=some y →
  ∃ j:Nat,js[i]?=some j∧X.N[j]?=some y∧X.env.scope.names.lookup y=some .cell∧(relabel scope X.env).names.lookup y=some .cell
 | [],[],_,i,y,e=>by simp at e
 | z::fr,j::js,h,0,y,e=>by
  have e':z=y:=by simpa using e
  subst e'
  exact⟨j,rfl,h.1⟩
 | z::fr,j::js,h,i+1,y,e=>by
  obtain⟨k,h1,h2⟩:=FrOk.get h.2 (i:=i) (y:=y) (by simpa using e)
  exact⟨k,by simpa using h1,h2⟩
structure LcOk (X:Cx) (scope:Scope) (x:Str) (fr:List Str) (js:List Nat) (cl:List (Str×Addr)):Prop where
 kind:scope.kind=.function
 clos:closureFor scope X.env=pure cl
 cell:∀ y∈scope.names,y.2≠.cell
 loc:∀ y∈scope.names,y.2=.local→scope.names.lookup y.1=some .local
 var:scope.names.lookup x=some .local
 sub:∀ y c,cl.lookup y=some c→X.env.cells.lookup y=some c
 has:∀ y,((relabel scope X.env).names.lookup y=some .cell∨(relabel scope X.env).names.lookup y=some .free)→∃ c,cl.lookup y=some c
 frk:FrOk X scope fr js
 nd:(x::fr).Nodup
section
variable {X:Cx}{pins:List (Addr×Obj)}{σ:Sg}{H:Hp}{s:Shared}{scope:Scope}{cl:List (Str×Addr)}{x:Str}{fr:List Str}{js:List Nat}{fp:List Addr}
theorem blk_ok {N:List Str} (I:Inv X pins σ H s) (L:LcOk X scope x fr js cl) (hc:X.calm=true) (hfp:∀ b∈fp,FpOk X pins H b) (hsz:∀ b∈fp,b<s.heap.objs.size) :
  (blk X scope cl s.heap.objs.size N s H fp pins).Ok where
 mod:=I.ok.mod
 kind:=L.kind
 glob:=I.ok.glob
 blt:=I.ok.blt
 above:=Nat.le_refl _
 inj:=fun y z c h1 h2=>I.ok.inj y z c (L.sub y c h1) (L.sub z c h2)
 has:=fun y hy=>L.has y hy
 cab:=fun y c h _=>absurd (show false=true from h) Bool.false_ne_true
 hd:=fun _=>I.ok.hd hc
 frames:=I.ok.frames
 stk:=.inl rfl
 exf:=fun b hb=>⟨Nat.ne_of_lt (hsz b hb),fun y c h=>(hfp b hb).2.2.2.2.1 y c (L.sub y c h)⟩
 bs:=I.bs
 bsz:=Nat.le_trans I.ok.bsz I.sz
 noex:=fun b o e hb=>by
  rcases (hfp b hb).2.2.2.1 with z | z
  ·exact I.ok.noex b o e z
  ·exact absurd (Nat.lt_of_lt_of_le (Nat.lt_of_lt_of_le (Heap.lt_size e) I.ok.bsz) z) (Nat.lt_irrefl _)
 exfs:=fun b hb z=>by
  rcases List.mem_cons.mp (I.stkSub b z) with e | e
  ·exact (hfp b hb).2.1 e
  ·exact (hfp b hb).2.2.1 e
 funs:=I.stack
 frf:=I.stkFree
def frv (σ:Sg) (js:List Nat):Sg:=js.map fun j=>(σ[j]?).getD none
theorem blk_inv {h1:Heap}{m1:Str→Option Value}{tk:Nat} (I:Inv X pins σ H s) (L:LcOk X scope x fr js cl) (hc:X.calm=true) (hfp:∀ b∈fp,FpOk X pins H b) (hsz:∀ b∈fp,b<s.heap.objs.size)
  (hn:h1.Ns s.heap.objs.size m1) (hk:∀ b o,s.heap.get? b=some o→h1.get? b=some o) :
  Inv (blk X scope cl s.heap.objs.size (x::fr) s H fp pins) [] (none::frv σ js) H { s with heap:=h1,toks:=tk }:=by
 refine⟨blk_ok I L hc hfp hsz,rfl,I.bare,Un.kept hk,⟨m1,hn,fun i y v e1 e2 _=>?_⟩,fun y c e=>?_,I.hok.fresh (Nat.le_refl _),fun y c e=>I.freeC y c (L.sub y c e),fun p hp=>?_,I.hok.kept hk,?_⟩
 ·cases i with
  | zero=>exact absurd e2 (by simp)
  | succ i =>
   have e1':fr[i]?=some y:=by simpa [blk] using e1
   obtain⟨j,hj,hN,hcell,hrel⟩:=L.frk.get e1'
   have e2':σ[j]?=some (some v):=by
    have q:(frv σ js)[i]?=some (some v):=by simpa using e2
    unfold frv at q
    rw [List.getElem?_map,hj] at q
    have q':(σ[j]?).getD none=some v:=by simpa using q
    cases hs:σ[j]? with
    | none=>rw [hs] at q'; cases q'
    | some o=>rw [hs] at q'; exact congrArg some q'
   obtain⟨m,_,hl⟩:=I.loc
   obtain⟨u,r,lk⟩:=hl j y v hN e2' (.inr (.inl hcell))
   refine⟨u,r,.inr ⟨.inl hrel,?_⟩⟩
   rcases lk with⟨hloc,_⟩ | ⟨_,c,hc1,hc2⟩
   ·have:X.env.scope.names.lookup y=some .local:=hloc
    rw [hcell] at this; cases this
   ·obtain⟨c',hc'⟩:=L.has y (.inl hrel)
    have e3:=L.sub y c' hc'
    rw [hc1] at e3; cases e3
    exact⟨c,hc',hc2.keeps hk⟩
 ·obtain⟨v,hv⟩:=I.cell y c (L.sub y c e)
  exact⟨v,hv.keeps hk⟩
 ·have hp':p∈X.pn++pins:=by simpa [blk] using hp
  obtain⟨a1,a2,a3,a4,a5⟩:=I.pin p hp'
  refine⟨hk _ _ a1,a2,Nat.ne_of_lt (Heap.lt_size a1),fun z=>?_,a5⟩
  rcases List.mem_cons.mp (I.stkSub _ z) with e | e
  ·exact a3 e
  ·exact a4 e
 ·show (none::frv σ js).length=(x::fr).length
  simp [frv,L.frk.len]
theorem blk_back {H':Hp}{s':Shared}{h':Heap}{σ':Sg}{N:List Str}{pins':List (Addr×Obj)} (I:Inv X pins σ H s) (J:Inv (blk X scope cl s.heap.objs.size N s H fp pins) pins' σ' H' s') (hfp:∀ b∈fp,FpOk X pins H b)
  (hsb:Heap.SameBut s.heap.objs.size s'.heap h'):Inv X pins σ H' { s' with heap:=h' }:=by
 have hos:s'.os=s.os:=J.os
 have nC:H' s.heap.objs.size=none:=J.free
 have kp:∀ b,b≠s.heap.objs.size→h'.get? b=s'.heap.get? b:=hsb.2
 have low:∀ b o,s.heap.get? b=some o→b≠s.heap.objs.size:=fun b o e=>Nat.ne_of_lt (Heap.lt_size e)
 have u:Un (frs X.stack) fp H H' s.heap h':=by
  have u0:Un (frs X.stack) fp H H' s.heap s'.heap:=J.base
  exact⟨fun b o e n h1 h2=>(kp b (low b o e)).trans (u0.keep b o e n h1 h2),fun b o e n h1 h2=>by
    obtain⟨sl,q⟩:=u0.slot b o e n h1 h2
    exact⟨sl,(kp b (low b o e)).trans q⟩,u0.free,fun b o e h1=>by
    obtain⟨o',q⟩:=u0.there b o e h1
    exact⟨o',(kp b (low b o e)).trans q⟩,u0.tups,u0.frzs,u0.tbls⟩
 have hok:HOk X.prog X.w H' h':=fun b o e=>by
  refine (J.hok b o e).stay (fun c v hc q=>(kp c ?_).trans q) (fun _ q=>q) fun _ _ q=>q
  rcases hc with z | z
  ·rw [z]; intro z'; rw [z',nC] at e; cases e
  ·intro z'; rw [z',nC] at z; cases z
 have q:=I.call (g':=s'.gens) (t':=s'.toks) (d':=s'.drawn) u hok J.bare fun b hb=>⟨(hfp b hb).2.2.2.1,(hfp b hb).2.1,(hfp b hb).2.2.2.2.1,(hfp b hb).2.2.2.2.2⟩
 obtain⟨hp,g,d,tk,os⟩:=s'
 have:os=s.os:=hos
 subst this
 exact q
end
def LcRun (J:It) (js:List Nat) (te:TE) (σ:Sg) (Q:VK) (H1:Hp):Prop:=∀ D,H1 D=none →
 ∃ W:Nat→Nat→List V→Hp→Prop,(∃ m,W 0 m [] (upd H1 D (.lst [])))∧∀ i m ys H',W i m ys H'→H' D=some (.lst ys) ∧
  ((J.stop i H'∧Q (.ref D) H')∨(J.go i H'∧∀ x H2,J.yld i H' x H2→te (some x::frv σ js) H2 fun y H3=>H3 D=some (.lst ys)∧ys.length<sizeLine ∧
   ∃ m',m'<m∧W (i+1) m' (ys++[y]) (upd H3 D (.lst (ys++[y])))))
def tLC (wi:TI) (js:List Nat) (te:TE):TE:=fun σ H Q=>wi σ H fun J H1=>LcRun J js te σ Q H1
section
variable {X:Cx}{scope:Scope}{cl:List (Str×Addr)}{x:Str}{fr:List Str}{js:List Nat}{elt iter:Expr}{px pos:Pos}{wi:TI}{te:TE}
theorem lc_loop {prog:Program}{w:World}{A:Around}{R:Result→Shared→Prop}{s:Shared}{tg:Expr}{it acc:Value}{env:Env} (Iv:Nat→Shared→Prop)
  (turn:∀ n s,Iv n s→wpAny (model prog w) A (pyNext it) (fun r s1=>match r with
   | none=>R (.ok .next) s1
   | some v=>wpAny (model prog w) A (letOwnedTupleGo tg it v) (fun _ s2=>wpAny (model prog w) A (assign tg env v) (fun _ s3=>wpAny (model prog w) A (eval elt env) (fun y s4 =>
     wpAny (model prog w) A (call (.builtin "list.append") [acc,y]) (fun _ s5=>∃ m,m<n∧Iv m s5) (fun _ _=>False) s4) (fun _ _=>False) s3) (fun _ _=>False) s2) (fun _ _=>False) s1) (fun _ _=>False) s)
  (n:Nat) (h:Iv n s):codeAny (model prog w) A (.compLoop (.ListComp elt [⟨tg,iter,[],0⟩] scope pos) 0 it acc env) R s:=by
 refine codeAny_loop rfl Iv (fun n s hI=>?_) n h
 refine wpAny_noted ?_
 rw [compTurn_list1]
 refine wpAny_bind (wpAny_standAt (wpAny_bind (wpAny_mono (turn n s hI) (fun r s1 h1=>?_) fun _ _ z=>z.elim)))
 cases r with
 | none=>exact wpAny_pure h1
 | some v =>
  refine wpAny_bind (wpAny_mono h1 (fun _ s2 h2=>?_) fun _ _ z=>z.elim)
  refine wpAny_bind (wpAny_mono h2 (fun _ s3 h3=>?_) fun _ _ z=>z.elim)
  refine wpAny_bind (wpAny_bind (wpAny_mono h3 (fun y s4 h4=>?_) fun _ _ z=>z.elim))
  refine wpAny_bind (wpAny_mono h4 (fun _ s5 h5=>?_) fun _ _ z=>z.elim)
  exact wpAny_pure (wpAny_pure ⟨rfl,h5⟩)
theorem pe_lc (hc:X.calm=true) (L:LcOk X scope x fr js cl) (hi:PI X (.Name x px) iter wi)
  (he:∀ C s H fp pins,PE (blk X scope cl C (x::fr) s H fp pins) elt te)
  (hs:∀ v,foldedSetIterable iter X.env v=pure v:=by intro _; rfl) :
  PE X (.ListComp elt [⟨.Name x px,iter,[],0⟩] scope pos) (tLC wi js te):=by
 intro pins s σ H Q I h
 rw [eval_ListComp]
 refine wpAny_comprehension_free (use:=none) rfl hs L.clos L.kind L.loc (thn (hi pins s σ H _ I h) fun v s1 h1=>thn h1 fun itv s2 h2=>?_)
 obtain⟨it,fp,tn,J,H2,e,I2,T,st2,f2,rd⟩:=h2
 subst e
 obtain⟨W,⟨m0,w0⟩,turn⟩:=rd _ I2.fresh
 have I3:=I2.lnew (ys:=[]) (its:=[]) (t':=s2.toks) .nil (Nat.zero_le _)
 refine wpAny_newObj_type ?_
 have fsz2:∀ b∈fp,b<s2.heap.objs.size:=fun b hb=>by
  obtain⟨o,ho,_⟩:=T.obj 0 _ st2 b hb
  exact Heap.lt_size ho
 generalize hs3:({ s2 with heap:=s2.heap.push { cls:=.type "list",dict:=none,data:=.seq ([]:List Value).toArray } }:Shared)=s3
 have I3':Inv X pins σ (upd H2 s2.heap.objs.size (.lst [])) s3:=by rw [← hs3]; exact I3
 have sz3:s3.heap.objs.size=s2.heap.objs.size+1:=by rw [← hs3]; exact Heap.size_push ..
 have k23:∀ b o,s2.heap.get? b=some o→s3.heap.get? b=some o:=fun b o e=>by rw [← hs3]; exact Heap.get?_push_of_some _ e
 have fsz:∀ b∈fp,b<s3.heap.objs.size:=fun b hb=>by rw [sz3]; exact Nat.lt_succ_of_lt (fsz2 b hb)
 have f3:∀ b∈fp,FpOk X pins (upd H2 s2.heap.objs.size (.lst [])) b:=fun b hb=>⟨by rw [upd_ne (Nat.ne_of_lt (fsz2 b hb))]; exact (f2 b hb).1,(f2 b hb).2⟩
 refine wpAny_newFunctionEnv L.cell (by intro y hy; simp at hy) (fun h4 hn4 hsb4=>?_) L.kind
 have k34:∀ b o,s3.heap.get? b=some o→h4.get? b=some o:=fun b o e=>(hsb4.2 b (Nat.ne_of_lt (Heap.lt_size e))).trans (Heap.get?_push_of_some _ e)
 generalize hX':blk X scope cl s3.heap.objs.size (x::fr) s3 (upd H2 s2.heap.objs.size (.lst [])) fp pins=X'
 have I4:Inv X' [] (none::frv σ js) (upd H2 s2.heap.objs.size (.lst [])) { s3 with heap:=h4,toks:=s3.toks+([]:List (Str×Value)).length }:=by
  rw [← hX']; exact blk_inv I3' L hc f3 fsz hn4 k34
 have st4:tn 0 h4:=T.keep _ _ _ st2 fun b _ o e=>k34 b o (k23 b o e)
 have he':PE X' elt te:=by rw [← hX']; exact he _ _ _ _ _
 have xp:X'.prog=X.prog:=by rw [← hX']; rfl
 have xw:X'.w=X.w:=by rw [← hX']; rfl
 have xK:X'.K=X.K:=by rw [← hX']; rfl
 have xA:X'.A=X.A:=by rw [← hX']; rfl
 have xc:X'.calm=true:=by rw [← hX']; rfl
 have xe:X'.xe=fun _ _=>False:=by rw [← hX']; rfl
 have xn:X'.N=x::fr:=by rw [← hX']; rfl
 have xv:X'.env=compEnvC scope cl s3.heap.objs.size X.env:=by rw [← hX']; rfl
 have xpn:X'.pn=X.pn++pins:=by rw [← hX']; rfl
 have xex:X'.ex=fp:=by rw [← hX']; rfl
 have xfs:X'.fs=frs X.stack:=by rw [← hX']; rfl
 have back:∀ {H':Hp}{s':Shared}{h':Heap}{σ':Sg},Inv X' [] σ' H' s'→Heap.SameBut s3.heap.objs.size s'.heap h'→Inv X pins σ H' { s' with heap:=h' }:=fun {H' s' h' σ'} J' hsb=>by
  rw [← hX'] at J'; exact blk_back I3' J' f3 hsb
 have frame:∀ b∈fp,b ∉ frs X.stack:=fun b hb z=>by
  rcases List.mem_cons.mp (I3'.stkSub b z) with e | e
  ·exact (f3 b hb).2.1 e
  ·exact (f3 b hb).2.2.1 e
 have stat:∀ {H':Hp},(∀ b∈fp,H' b=none)→∀ b∈fp,FpOk X' [] H' b:=fun {H'} hn b hb=>by
  refine⟨hn b hb,?_,?_,.inl (by rw [xex]; exact hb),?_,?_⟩
  ·rw [xv]; exact Nat.ne_of_lt (fsz b hb)
  ·rw [xfs]; exact frame b hb
  ·rw [xv]; exact fun y c e=>(f3 b hb).2.2.2.2.1 y c (L.sub y c e)
  ·rw [xpn,List.append_nil]; exact (f3 b hb).2.2.2.2.2
 have loop:codeAny (model X.prog X.w) X.A (.compLoop (.ListComp elt [⟨.Name x px,iter,[],0⟩] scope pos) 0 (.ref it) (.ref s2.heap.objs.size) (compEnvC scope cl s3.heap.objs.size X.env))
   (compPost (model X.prog X.w) X.A X.xe none (EP X pins σ Q) (.ref s2.heap.objs.size) s3.heap.objs.size) { s3 with heap:=h4,toks:=s3.toks+([]:List (Str×Value)).length }:=by
  refine lc_loop (fun n s'=>∃ i ys o H',Inv X' [] (o::frv σ js) H' s'∧tn i s'.heap∧(∀ b∈fp,H' b=none)∧W i n ys H') ?_ m0 ⟨0,[],none,_,I4,st4,fun b hb=>(f3 b hb).1,w0⟩
  rintro n s5 ⟨i,ys,o,H5,I5,st5,fr5,w5⟩
  obtain⟨hD,hstep⟩:=turn i n ys H5 w5
  rcases hstep with⟨stop,qn⟩ | ⟨go,step⟩
  ·have q:=T.done X' xp xw xK xc i [] s5 _ H5 (fun _ _=>False) I5 (stat fr5) st5 stop
   rw [xA] at q
   refine thn q fun r s6 ⟨hr,I6⟩=>?_
   subst hr
   obtain⟨m6,hn6,_⟩:=I6.loc
   rw [xv] at hn6
   exact⟨m6,hn6,fun h' hsb=>⟨.ref s2.heap.objs.size,H5,back I6 hsb,rfl,qn⟩⟩
  ·have q:=T.item X' xp xw xK xc i [] s5 _ H5 (fun _ _=>False) I5 (stat fr5) st5 go
   rw [xA] at q
   refine thn q fun r s6 ⟨u,hr,h6⟩=>?_
   subst hr
   refine thn h6 fun _ s7 ⟨xx,H7,I7,r7,y7,st7,fr7⟩=>?_
   have I7':=I7.pinned (stat fr7) (T.obj _ _ st7)
   have hg:PG X' (.Name x px) (gName 0):=by
    refine pg_name (i:=0) (x:=x) (by rw [xn]; exact L.nd) (by rw [xn]; rfl) ?_ ?_
    ·rw [xv]; exact .inl (lookup_relabel_local L.var)
    ·rw [xv]; exact .inr (lookup_relabel_local L.var)
   have q7:=hg _ s7 _ H7 xx u (fun σ8 H8=>σ8=some xx::frv σ js∧H8=H7) I7' r7 ⟨rfl,rfl⟩
   rw [xp,xw,xA,xe,xv] at q7
   refine thn q7 fun _ s8 ⟨σ8,H8,I8,e8,e8'⟩=>?_
   subst e8 e8'
   have q8:=he' _ s8 _ _ _ I8 (step xx _ y7)
   rw [xp,xw,xA,xe,xv] at q8
   refine thn q8 fun yv s9 ⟨y,H9,I9,r9,d9,z9,m9,hm9,w9⟩=>?_
   have q9:=mt_append (X:=X') _ s9 _ H9 (.ref s2.heap.objs.size) [y] (.ref s2.heap.objs.size) [yv] (fun z H'=>H'=upd H9 s2.heap.objs.size (.lst (ys++[y]))) I9 rfl (.cons r9 .nil) ⟨_,ys,y,rfl,rfl,d9,z9,rfl⟩
   rw [xp,xw,xA,xe] at q9
   refine thn q9 fun _ s10 ⟨_,H10,I10,_,e10⟩=>?_
   subst e10
   refine⟨m9,hm9,i+1,ys++[y],some xx,_,I10.unpinned,T.keep _ _ _ st7 fun b hb ob e=>(I10.pin (b,ob) (List.mem_append_right _ (List.mem_append_right _ (mem_pinsAt hb e)))).1,fun b hb=>?_,w9⟩
   obtain⟨ob,e,_⟩:=T.obj _ _ st7 b hb
   exact (I10.pin (b,ob) (List.mem_append_right _ (List.mem_append_right _ (mem_pinsAt hb e)))).2.1
 exact codeAny_compStart_list loop (T.self _ 0 _ _ _ st4 loop)
end
end Sw
namespace Sw
open PySem PySem.Spec PyProof.Rows L2
def clOf (cells:List (Str×Addr)):List (Str×NameKind)→List (Str×Addr)→List (Str×Addr)
 | [],acc=>acc
 | (n,.free)::r,acc=>match cells.lookup n with
  | some c=>clOf cells r ((n,c)::acc)
  | none=>clOf cells r acc
 | (_,_)::r,acc=>clOf cells r acc
theorem clOf_skip {cells:List (Str×Addr)}{n:Str}{k:NameKind}{r:List (Str×NameKind)}{acc:List (Str×Addr)} (h:k≠.free):clOf cells ((n,k)::r) acc=clOf cells r acc:=by
 cases k <;> first | rfl | exact absurd rfl h
theorem clOf_free {cells:List (Str×Addr)}{n:Str}{c:Addr}{r:List (Str×NameKind)}{acc:List (Str×Addr)} (h:cells.lookup n=some c):clOf cells ((n,.free)::r) acc=clOf cells r ((n,c)::acc):=by
 rw [clOf,h]
theorem clOf_sub {cells:List (Str×Addr)}:∀ {names:List (Str×NameKind)}{acc:List (Str×Addr)},(∀ y∈names,y.2=.free→∃ c,cells.lookup y.1=some c)→(∀ y c,acc.lookup y=some c→cells.lookup y=some c) →
  ∀ y c,(clOf cells names acc).lookup y=some c→cells.lookup y=some c
 | [],_,_,h,y,c,e=>h y c e
 | (n,k)::r,acc,hf,h,y,c,e=>by
  have hr:∀ y∈r,y.2=.free→∃ c,cells.lookup y.1=some c:=fun y hy=>hf y (List.mem_cons_of_mem _ hy)
  by_cases hk:k=.free
  ·subst hk
   obtain⟨d,hd⟩:=hf (n,.free) List.mem_cons_self rfl
   rw [clOf_free hd] at e
   refine clOf_sub hr (fun z b hz=>?_) y c e
   rw [List.lookup_cons] at hz
   cases hzn:z == n with
   | true =>
    rw [hzn] at hz
    have:z=n:=eq_of_beq hzn
    rw [this,hd]
    exact hz
   | false =>
    rw [hzn] at hz
    exact h z b hz
  ·rw [clOf_skip hk] at e
   exact clOf_sub hr h y c e
theorem clOf_has {cells:List (Str×Addr)}:∀ {names:List (Str×NameKind)}{acc:List (Str×Addr)},(∀ y∈names,y.2=.free→∃ c,cells.lookup y.1=some c) →
  ∀ y:Str,((y,NameKind.free)∈names∨∃ c,acc.lookup y=some c)→∃ c,(clOf cells names acc).lookup y=some c
 | [],_,_,y,h=>by
  rcases h with h | h
  ·simp at h
  ·exact h
 | (n,k)::r,acc,hf,y,h=>by
  have hr:∀ y∈r,y.2=.free→∃ c,cells.lookup y.1=some c:=fun y hy=>hf y (List.mem_cons_of_mem _ hy)
  by_cases hk:k=.free
  ·subst hk
   obtain⟨d,hd⟩:=hf (n,.free) List.mem_cons_self rfl
   rw [clOf_free hd]
   refine clOf_has hr y ?_
   by_cases hyn:y=n
   ·subst hyn
    exact .inr ⟨d,by simp [List.lookup_cons]⟩
   ·rcases h with h | ⟨c,h⟩
    ·rcases List.mem_cons.mp h with e | e
     ·exact absurd (congrArg Prod.fst e) hyn
     ·exact .inl e
    ·refine .inr ⟨c,?_⟩
     rw [List.lookup_cons]
     have:(y == n)=false:=by simpa using hyn
     rw [this]
     exact h
  ·rw [clOf_skip hk]
   refine clOf_has hr y ?_
   rcases h with h | h
   ·rcases List.mem_cons.mp h with e | e
    ·exact absurd (congrArg Prod.snd e).symm hk
    ·exact .inl e
   ·exact .inr h
theorem closure_eq {scope:Scope}{env:Env} (hf:∀ y∈scope.names,y.2=.free→∃ c,env.cells.lookup y.1=some c):closureFor scope env=pure (clOf env.cells scope.names []):=by
 have key:∀ (names:List (Str×NameKind)) (acc:List (Str×Addr)),(∀ y∈names,y.2=.free→∃ c,env.cells.lookup y.1=some c) →
   (forIn names acc fun (x:Str×NameKind) (cs:List (Str×Addr))=>(match x with | (name,kind)=>if (kind == NameKind.free)=true then (cellOf env name >>= fun a=>pure (ForInStep.yield ((name,a)::cs))) else pure (ForInStep.yield cs):Sem (ForInStep (List (Str×Addr)))))=pure (clOf env.cells names acc):=by
  intro names
  induction names with
  | nil=>intro acc _; rfl
  | cons x r ih =>
   intro acc h
   obtain⟨n,k⟩:=x
   have hr:∀ y∈r,y.2=.free→∃ c,env.cells.lookup y.1=some c:=fun y hy=>h y (List.mem_cons_of_mem _ hy)
   rw [List.forIn_cons]
   by_cases hk:k=.free
   ·subst hk
    obtain⟨d,hd⟩:=h (n,.free) List.mem_cons_self rfl
    have hc:cellOf env n=pure d:=by unfold cellOf; rw [hd]
    rw [clOf_free hd,← ih _ hr]
    simp only [beq_self_eq_true,if_true,hc,pure_bind]
   ·have hb:(k == NameKind.free)=false:=by simpa using hk
    rw [clOf_skip hk,← ih _ hr]
    simp only [hb,Bool.false_eq_true,if_false,pure_bind]
 have:=key scope.names [] hf
 unfold closureFor
 simp only [bind_pure_comp,map_pure] at this ⊢
 first
  | exact this
  | (rw [this]; rfl)
  | (simp only [this]; rfl)
theorem lc_free {X:Cx}{scope sc:Scope}{x:Str}{fr:List Str}{js:List Nat} (hk:scope.kind=.function) (hsc:X.env.scope=sc) (hkf:sc.kind=.function)
  (hcell:∀ y∈scope.names,y.2≠.cell) (hloc:∀ y∈scope.names,y.2=.local→scope.names.lookup y.1=some .local) (hvar:scope.names.lookup x=some .local)
  (hfree:∀ y∈scope.names,y.2=.free→sc.names.lookup y.1=some .cell) (hfr:FrOk X scope fr js) (hnd:(x::fr).Nodup)
  (hcs:∀ y,X.env.scope.names.lookup y=some .cell→∃ c,X.env.cells.lookup y=some c):LcOk X scope x fr js (clOf X.env.cells scope.names []):=by
 have hall:∀ y∈scope.names,y.2=.free→∃ c,X.env.cells.lookup y.1=some c:=fun y hy e=>hcs _ (by rw [hsc]; exact hfree y hy e)
 refine⟨hk,closure_eq hall,hcell,hloc,hvar,clOf_sub hall fun y c e=>by simp at e,fun y hy=>clOf_has hall y (.inl ?_),hfr,hnd⟩
 have get:∀ k,(k=NameKind.cell∨k=NameKind.free)→(relabel scope X.env).names.lookup y=some k→(y,NameKind.free)∈scope.names:=fun k hkk e=>by
  have hm:=PySem.mem_of_lookup e
  unfold relabel at hm
  obtain⟨⟨n,k0⟩,hin,heq⟩:=List.mem_map.mp hm
  dsimp only at heq
  split at heq
  ·rename_i hc
   have e1:n=y:=congrArg Prod.fst heq
   have e2:k0=.free:=by
    rw [Bool.and_eq_true,Bool.and_eq_true] at hc
    exact eq_of_beq hc.1.1
   rw [← e1,← e2]
   exact hin
  ·have e1:n=y:=congrArg Prod.fst heq
   have e2:k0=k:=congrArg Prod.snd heq
   rcases hkk with z | z
   ·exact absurd (by rw [e2,z]) (hcell _ hin)
   ·rw [← e1,← z,← e2]
    exact hin
 rcases hy with h | h
 ·exact get _ (.inl rfl) h
 ·exact get _ (.inr rfl) h
end Sw
namespace Sw
open PySem PySem.Spec PyProof.Rows L2
theorem same_new {H:Hp}{p:Addr} (h:H p=none) (o:HO):Same H (upd H p o):=fun b u q=>by rw [upd_ne (ne_of_none q h)]; exact q
structure Kt (H H':Hp):Prop where
 t:∀ b xs,H b=some (.tup xs)→H' b=some (.tup xs)
 f:∀ b o u,H b=some (.frz o u)→H' b=some (.frz o u)
theorem Kt.of {H H':Hp} (S:Same H H'):Kt H H':=⟨fun b _ e=>S b _ e,fun b _ _ e=>S b _ e⟩
theorem Kt.refl (H:Hp):Kt H H:=⟨fun _ _ e=>e,fun _ _ _ e=>e⟩
theorem Kt.trans {H H1 H2:Hp} (a:Kt H H1) (b:Kt H1 H2):Kt H H2:=⟨fun _ _ e=>b.t _ _ (a.t _ _ e),fun _ _ _ e=>b.f _ _ _ (a.f _ _ _ e)⟩
theorem Kt.new {H:Hp}{p:Addr}{o:HO} (h:H p=none):Kt H (upd H p o):=.of (same_new h o)
theorem Kt.lst {H:Hp}{p:Addr}{ys:List V}{o:HO} (h:H p=some (.lst ys)):Kt H (upd H p o) :=
 ⟨fun b xs e=>by rw [upd_ne (ne_of e h (fun z=>by cases z))]; exact e,fun b o' u e=>by rw [upd_ne (ne_of e h (fun z=>by cases z))]; exact e⟩
theorem sqT_mono {K:PySem.W.Frag}{H H':Hp}{a:Addr}{xs:List V} (S:Kt H H') (h:SqT K H a xs):SqT K H' a xs:=by
 rcases h with (h | ⟨o,h⟩) | h
 ·exact .inl (.inl (S.t _ _ h))
 ·exact .inl (.inr ⟨o,S.f _ _ _ h⟩)
 ·exact .inr h
theorem same_upd {H H':Hp}{p:Addr}{o:HO} (S:Same H H') (h:H p=none):Same H (upd H' p o):=fun b u q=>by rw [upd_ne (ne_of_none q h)]; exact S b u q
section
variable {X:Cx}
theorem extend_tuple_meets (l:Addr) (items:Array Value) (n:Nat) (b:Addr) (items2:Array Value) (n2:Nat) (dd:Option Addr) (sl:Array (Option Value))
  (h0:¬ (!items.isEmpty && Builtin.List.listTooLong (items.size+items2.size))=true) (h1:items.size≤sizeLine) (h2:items.size+items2.size≤sizeLine+1) :
  Meets (Builtin.«list.extend» ⟨[.ref l,.ref b],[]⟩) (fun _ R s=>s.heap.get? l=some { cls:=.type "list",dict:=none,data:=.seq items n,slots:=#[] } ∧
   s.heap.get? b=some { cls:=.type "tuple",dict:=dd,data:=.seq items2 n2,slots:=sl }∧R (.ok (.ret Value.none)) { s with heap:=s.heap.update l (Obj.mapSeq fun x=>x++items2),toks:=s.toks }) :=
 .of_wp fun prog w A R s h=>by
  obtain⟨hp,g,d,tk,os⟩:=s
  obtain⟨hl,hb,h⟩:=h
  have f1:=AutoSeq1.idx_int
  have f2:=AutoSeq1.sub_tuple_tuple
  have f3:=AutoSeq1.sub_list_list
  have f4:=AutoSeq1.sub_tuple_list
  have f5:=AutoSeq1.sub_list_tuple
  have hz':(items++items2).size≤sizeLine+1:=by
   rw [Array.size_append]
   exact h2
  wp_walk using (wpAny_updateSeq hl rfl (hz:=h1) (_hz':=hz')),AutoSeq1.wpAny_loadPart' hl,AutoSeq1.wpAny_loadPart' hb
  exact⟨_,rfl,h⟩
def rExtT (K:PySem.W.Frag):V→List V→Hp→VK→Prop:=fun x vs H Q=>∃ l b xs zs,x=.ref l∧vs=[.ref b]∧H l=some (.lst xs)∧SqT K H b zs∧xs.length+zs.length≤sizeLine∧Q .non (upd H l (.lst (xs++zs)))
theorem mt_extT:MtM X "list.extend" (rExtT X.K):=by
 intro pins s σ H x vs v us Q I rx rv h
 obtain⟨l,b,xs,zs,rfl,rfl,hH,hB,hz,q⟩:=h
 cases rx
 obtain⟨u,rfl,ru⟩:=rv.one
 cases ru
 obtain⟨z,its,n,r,hl,e⟩:=I.lstM hH
 obtain⟨its2,r2,⟨⟨c2,d2,dt2,sl2⟩,e2,hc2,n2,hd2⟩,z2⟩:=I.tuple hB
 have hl2:=r2.length
 simp only at hc2 hd2
 subst hc2 hd2
 have hsz:its.toArray.size+its2.toArray.size≤sizeLine:=by rw [List.size_toArray,List.size_toArray]; lia
 have hlong:¬ (!its.toArray.isEmpty && Builtin.List.listTooLong (its.toArray.size+its2.toArray.size))=true:=by
  rw [notLongL hsz,Bool.and_false]
  exact Bool.false_ne_true
 refine call_meets F.slot_list_extend ⟨_,e,rfl⟩ F.entry_list_extend (F.args_list_extend_2 _ _)
  (extend_tuple_meets l its.toArray n b its2.toArray n2 d2 sl2 hlong (by rw [List.size_toArray]; lia) (by lia)) ⟨e,e2,?_⟩
 refine⟨.non,_,I.lset (its':=its++its2) hH e (by simp) (r.append r2) ?_,rfl,q⟩
 rw [List.length_append]
 lia
theorem getItem_tuple_whole {prog:Program}{w:World}{A:Around}{E:Value→Shared→Prop}{s:Shared}{t sl:Addr}{items:Array Value}{vl vu:Value}{lo hi:Option Int}{Q:Value→Shared→Prop}
  (ht:IsTup s.heap t items) (hs:s.heap.IsSliceOf sl vl vu .none) (pl:IsPart vl lo) (pu:IsPart vu hi)
  (h1:HT.sIx items.size 0 lo=0) (h2:HT.sIx items.size items.size hi=items.size) (h:Q (.ref t) s):wpAny (model prog w) A (getItem (.ref t) (.ref sl)) Q E s:=by
 obtain⟨os,hos,hcs,hds⟩:=id hs
 have hTs:s.TypeIs (.ref sl) "slice":=⟨os,hos,hcs⟩
 unfold getItem
 try with_reducible refine wpAny_holding ?_
 first | refine wpAny_bind (wpAny_pure ?_) | skip
 refine wpAny_bind (wpAny_sequenceKey ht.typeIs (by decide) ?_)
 refine wpAny_bind (wpAny_callSpecial?_slot (name:=Str.ofString "__getitem__") ht.typeIs PyProof.Rows.slot_tuple_getitem
  (wpAny_call_entry PyProof.Rows.slot_tuple_getitem ht.typeIs entry_tuple_getitem ?_ (args_tuple_getitem _ _)))
 show wpAny _ _ (Builtin.Tuple.tupleItemsOf (.ref t) >>= _) _ _ s
 refine wpAny_bind (tupleItemsOf_ ht ?_)
 refine wpAny_bind (wpAny_typeOf hTs ?_)
 rw [if_pos (by decide)]
 refine wpAny_bind (HT.sliceApplied_gen hs pl pu ?_)
 have hyes:(((HT.sIx items.size 0 lo:Nat):Int) == 0 && (1:Int) == 1 && (HT.sIx items.size items.size hi - HT.sIx items.size 0 lo) == items.size)=true:=by
  rw [h1,h2]
  simp
 show wpAny _ _ (if (((HT.sIx items.size 0 lo:Nat):Int) == 0 && (1:Int) == 1 && (HT.sIx items.size items.size hi - HT.sIx items.size 0 lo) == items.size)=true then _ else _) _ _ s
 rw [if_pos hyes]
 unfold Builtin.Tuple.tupleIsExact
 refine wpAny_bind (wpAny_bind (wpAny_typeOf ht.typeIs (wpAny_pure ?_)))
 rw [if_pos (by decide)]
 refine wpAny_bind (wpAny_rule ?_)
 exact wpAny_pure ⟨_,rfl,wpAny_pure h⟩
def rSlTW (K:PySem.W.Frag):V→Option Int→Option Int→Hp→VK→Prop:=fun x lo hi H Q=>∃ a xs,x=.ref a∧SqT K H a xs ∧
 HT.sIx xs.length 0 lo=0∧HT.sIx xs.length xs.length hi=xs.length∧Q (.ref a) H
theorem sl_tupW:SlR X (rSlTW X.K):=by
 intro pins s σ H x v vl vu lo hi sl Q I rx hs pl pu h
 obtain⟨a,xs,rfl,hx,w1,w2,q⟩:=h
 cases rx
 obtain⟨its,r,ht,hz⟩:=I.tuple hx
 have hlen:its.toArray.size=xs.length:=by rw [List.size_toArray]; exact r.length.symm
 refine⟨"tuple",_,PyProof.Rows.slot_tuple_getitem.lookup,ht.typeIs,?_⟩
 exact getItem_tuple_whole ht hs pl pu (by rw [hlen]; exact w1) (by rw [hlen]; exact w2) ⟨.ref a,H,I,rfl,q⟩
def rSlTA (K:PySem.W.Frag):V→Option Int→Option Int→Hp→VK→Prop:=fun x lo hi H Q=>∃ a xs,x=.ref a∧SqT K H a xs∧∀ p H',Same H H'→SqT K H' p (cutV xs lo hi)→Q (.ref p) H'
theorem cutV_whole {xs:List V}{lo hi:Option Int} (h1:HT.sIx xs.length 0 lo=0) (h2:HT.sIx xs.length xs.length hi=xs.length):cutV xs lo hi=xs:=by
 unfold cutV
 rw [h1,h2]
 simp
theorem sl_tupA:SlR X (rSlTA X.K):=by
 intro pins s σ H x v vl vu lo hi sl Q I rx hs pl pu h
 obtain⟨a,xs,rfl,hx,q⟩:=h
 by_cases hw:HT.sIx xs.length 0 lo=0∧HT.sIx xs.length xs.length hi=xs.length
 ·exact sl_tupW pins s σ H _ v vl vu lo hi sl Q I rx hs pl pu ⟨a,xs,rfl,hx,hw.1,hw.2,q a H (Same.refl H) (by rw [cutV_whole hw.1 hw.2]; exact hx)⟩
 ·exact sl_tup pins s σ H _ v vl vu lo hi sl Q I rx hs pl pu ⟨a,xs,rfl,hx,hw,fun p hp=>q p _ (same_new hp _) (SqT.of upd_same)⟩
theorem call_isinst:CallR X (.builtin "isinstance") (fun xs H Q=>∃ x T t b,xs=[x,.ty T]∧TyOf X.K H x t∧PySem.W.kitOne X.K t (.type T)=some b∧Q (.bl b) H):=by
 intro pins s σ H xs us Q I r h
 obtain⟨x,T,t,b,rfl,ty,e,q⟩:=h
 obtain⟨u,w',rfl,r1,r2⟩:=vals2 r
 cases r2
 exact isinst_ok I r1 ty e fun tk=>⟨.bl b,H,I.tok tk,rfl,q⟩
theorem call_isinstT:CallR X (.builtin "isinstance") (fun xs H Q=>∃ a ys T b,xs=[.ref a,.ty T]∧SqT X.K H a ys∧PySem.W.kitOne X.K (.type "tuple") (.type T)=some b∧Q (.bl b) H):=by
 intro pins s σ H xs us Q I r h
 obtain⟨a,ys,T,b,rfl,hq,e,q⟩:=h
 obtain⟨u,w',rfl,r1,r2⟩:=vals2 r
 cases r1
 cases r2
 obtain⟨its,_,⟨o,h1,h2,_⟩,_⟩:=I.tuple hq
 exact PySem.W.kia_one PySem.W.kitx_tuple I.kIn ⟨o,h1,h2⟩ e (fun z=>nomatch z) fun tk=>⟨.bl b,H,I.tok tk,rfl,q⟩
end
mutual
def TR (K:PySem.W.Frag) (H:Hp):T→V→Prop
 | .node ts,x=>∃ a xs,x=.ref a∧SqT K H a xs∧TRs K H ts xs
def TRs (K:PySem.W.Frag) (H:Hp):List T→List V→Prop
 | [],xs=>xs=[]
 | t::ts,xs=>∃ x r,xs=x::r∧TR K H t x∧TRs K H ts r
end
section
variable {K:PySem.W.Frag}{H H':Hp}
theorem TR_node {ts:List T}{x:V}:TR K H (.node ts) x↔∃ a xs,x=.ref a∧SqT K H a xs∧TRs K H ts xs:=by rw [TR]
theorem TRs_nil {xs:List V}:TRs K H [] xs↔xs=[]:=by rw [TRs]
theorem TRs_cons {t:T}{ts:List T}{xs:List V}:TRs K H (t::ts) xs↔∃ x r,xs=x::r∧TR K H t x∧TRs K H ts r:=by rw [TRs]
theorem TR_of {t:T}{x:V} (h:TR K H t x):∃ a xs,x=.ref a∧SqT K H a xs∧TRs K H t.kids xs:=by
 cases t with
 | node ts=>exact TR_node.mp h
theorem TR_mk {ts:List T}{a:Addr}{xs:List V} (h:SqT K H a xs) (q:TRs K H ts xs):TR K H (.node ts) (.ref a):=TR_node.mpr ⟨a,xs,rfl,h,q⟩
mutual
theorem TR.mono (S:Kt H H'):∀ {t:T}{x:V},TR K H t x→TR K H' t x
 | .node ts,x,h=>by
  obtain⟨a,xs,e,h1,h2⟩:=TR_node.mp h
  exact TR_node.mpr ⟨a,xs,e,sqT_mono S h1,TRs.mono S h2⟩
theorem TRs.mono (S:Kt H H'):∀ {ts:List T}{xs:List V},TRs K H ts xs→TRs K H' ts xs
 | [],xs,h=>by rw [TRs_nil] at h ⊢; exact h
 | t::ts,xs,h=>by
  obtain⟨x,r,e,h1,h2⟩:=TRs_cons.mp h
  exact TRs_cons.mpr ⟨x,r,e,TR.mono S h1,TRs.mono S h2⟩
end
theorem TRs.length:∀ {ts:List T}{xs:List V},TRs K H ts xs→xs.length=ts.length
 | [],xs,h=>by rw [TRs_nil] at h; rw [h]; rfl
 | t::ts,xs,h=>by
  obtain⟨x,r,e,h1,h2⟩:=TRs_cons.mp h
  rw [e,List.length_cons,List.length_cons,TRs.length h2]
theorem TRs.append:∀ {ts us:List T}{xs ys:List V},TRs K H ts xs→TRs K H us ys→TRs K H (ts++us) (xs++ys)
 | [],us,xs,ys,h,g=>by rw [TRs_nil] at h; rw [h]; exact g
 | t::ts,us,xs,ys,h,g=>by
  obtain⟨x,r,e,h1,h2⟩:=TRs_cons.mp h
  rw [e]
  exact TRs_cons.mpr ⟨x,r++ys,rfl,h1,TRs.append h2 g⟩
theorem TRs.get:∀ {ts:List T}{xs:List V},TRs K H ts xs→∀ {i:Nat}{x:V},xs[i]?=some x→∃ t,ts[i]?=some t∧TR K H t x
 | [],xs,h,i,x,e=>by rw [TRs_nil] at h; rw [h] at e; simp at e
 | t::ts,xs,h,i,x,e=>by
  obtain⟨y,r,rfl,h1,h2⟩:=TRs_cons.mp h
  cases i with
  | zero=>exact⟨t,rfl,by have e':y=x:=(by simpa using e);rw [← e']; exact h1⟩
  | succ i=>exact TRs.get h2 (i:=i) (by simpa using e)
theorem TRs.take:∀ (n:Nat) {ts:List T}{xs:List V},TRs K H ts xs→TRs K H (ts.take n) (xs.take n)
 | 0,ts,xs,h=>by rw [List.take_zero,List.take_zero,TRs_nil]
 | n+1,[],xs,h=>by rw [TRs_nil] at h; rw [h]; exact TRs_nil.mpr rfl
 | n+1,t::ts,xs,h=>by
  obtain⟨x,r,rfl,h1,h2⟩:=TRs_cons.mp h
  exact TRs_cons.mpr ⟨x,r.take n,rfl,h1,TRs.take n h2⟩
theorem TRs.drop:∀ (n:Nat) {ts:List T}{xs:List V},TRs K H ts xs→TRs K H (ts.drop n) (xs.drop n)
 | 0,ts,xs,h=>h
 | n+1,[],xs,h=>by rw [TRs_nil] at h; rw [h]; exact TRs_nil.mpr rfl
 | n+1,t::ts,xs,h=>by
  obtain⟨x,r,rfl,h1,h2⟩:=TRs_cons.mp h
  exact TRs.drop n h2
theorem TRs.dropLast {ts:List T}{xs:List V} (h:TRs K H ts xs):TRs K H ts.dropLast xs.dropLast:=by
 rw [List.dropLast_eq_take,List.dropLast_eq_take,h.length]
 exact h.take _
end
section
variable {X:Cx}{pins:List (Addr×Obj)}{σ:Sg}{H:Hp}{s:Shared}
theorem tr_inj (I:Inv X pins σ H s):∀ (n:Nat),(∀ (t u:T) (x:V),t.parts≤n→TR X.K H t x→TR X.K H u x→t=u)∧(∀ (ts us:List T) (xs:List V),T.partsL ts≤n→TRs X.K H ts xs→TRs X.K H us xs→ts=us)
 | 0=>⟨fun t u x h _ _=>absurd (T.parts_pos t) (by lia),fun ts us xs h q r=>by
   have h1:=T.len_le_parts ts
   have h2:=q.length
   have h3:=r.length
   have e1:ts=[]:=List.length_eq_zero_iff.mp (by lia)
   have e2:us=[]:=List.length_eq_zero_iff.mp (by lia)
   rw [e1,e2]⟩
 | n+1=>by
  have ih:=tr_inj I n
  have A:∀ (t u:T) (x:V),t.parts≤n+1→TR X.K H t x→TR X.K H u x→t=u:=fun t u x h q r=>by
   cases t with
   | node ts =>
    cases u with
    | node us =>
     obtain⟨a,xs,e1,q1,q2⟩:=TR_node.mp q
     obtain⟨b,ys,e2,r1,r2⟩:=TR_node.mp r
     rw [e1] at e2
     cases e2
     have:=I.tuple_inj q1 r1
     subst this
     rw [T.parts_node] at h
     rw [ih.2 ts us xs (by lia) q2 r2]
  refine⟨A,fun ts us xs h q r=>?_⟩
  cases ts with
  | nil =>
   rw [TRs_nil] at q
   subst q
   have:=r.length
   exact (List.length_eq_zero_iff.mp (by simpa using this.symm)).symm
  | cons t ts =>
   obtain⟨x,r',rfl,q1,q2⟩:=TRs_cons.mp q
   cases us with
   | nil=>rw [TRs_nil] at r; cases r
   | cons u us =>
    obtain⟨x2,r2',e,r1,r2⟩:=TRs_cons.mp r
    cases e
    rw [T.partsL_cons] at h
    have h1:=T.parts_pos t
    rw [A t u x (by lia) q1 r1,ih.2 ts us r' (by lia) q2 r2]
def eqsAt (ts us:List T) (j:Nat):Bool:=match ts[j]?,us[j]? with
 | some t,some u=>T.beq t u
 | _,_=>false
theorem beqL_range:∀ ts us:List T,((List.range (min ts.length us.length)).all (eqsAt ts us) && ts.length == us.length)=T.beqL ts us
 | [],[]=>by simp [T.beqL]
 | [],u::us=>by simp [T.beqL]
 | t::ts,[]=>by simp [T.beqL]
 | t::ts,u::us=>by
  have ih:=beqL_range ts us
  have e:min (t::ts).length (u::us).length=min ts.length us.length+1:=by simp only [List.length_cons]; lia
  rw [e,List.range_succ_eq_map,List.all_cons,List.all_map]
  have e2:(eqsAt (t::ts) (u::us)∘Nat.succ)=eqsAt ts us:=by
   funext j
   simp [eqsAt]
  have e3:eqsAt (t::ts) (u::us) 0=T.beq t u:=rfl
  have e4:((t::ts).length == (u::us).length)=(ts.length == us.length):=by simp
  rw [e2,e3,e4,Bool.and_assoc,ih]
  rw [T.beqL]
theorem rc_tree (I:Inv X pins σ H s):∀ (n:Nat) (t u:T) (A:Around) (a b:Addr),t.deep≤n→TR X.K H t (.ref a)→TR X.K H u (.ref b)→A.units+n<cLine→SeqAt.RcAt A s (.ref a) (.ref b) (T.beq t u):=by
 intro n
 induction n with
 | zero =>
  intro t u A a b hd q r hu
  cases t with
  | node ts =>
   cases u with
   | node us =>
    obtain⟨a',xs,e1,q1,q2⟩:=TR_node.mp q
    cases e1
    obtain⟨b',ys,e2,r1,r2⟩:=TR_node.mp r
    cases e2
    rw [T.deep_node] at hd
    have hts:ts=[]:=by
     cases ts with
     | nil=>rfl
     | cons t ts=>rw [T.deepL_cons] at hd; lia
    subst hts
    rw [TRs_nil] at q2
    subst q2
    obtain⟨its,rv,ht,_⟩:=I.tuple q1
    obtain⟨its2,rv2,ht2,_⟩:=I.tuple r1
    have h0:=rv.length
    have h2:=rv2.length
    have h3:=r2.length
    have key:=SeqAt.RcAt.tuples (A:=A) (e:=fun _=>true) ht ht2 (by lia) (fun j j1 _=>absurd j1 (by rw [List.size_toArray,← h0]; simp))
    have ev:((List.range (min its.toArray.size its2.toArray.size)).all (fun _=>true) && its.toArray.size == its2.toArray.size)=T.beq (.node []) (.node us):=by
     rw [List.size_toArray,List.size_toArray,← h0,← h2,h3,T.beq,← beqL_range]
     simp
    rw [ev] at key
    exact key
 | succ n ih =>
  intro t u A a b hd q r hu
  cases t with
  | node ts =>
   cases u with
   | node us =>
    obtain⟨a',xs,e1,q1,q2⟩:=TR_node.mp q
    cases e1
    obtain⟨b',ys,e2,r1,r2⟩:=TR_node.mp r
    cases e2
    rw [T.deep_node] at hd
    obtain⟨its,rv,ht,_⟩:=I.tuple q1
    obtain⟨its2,rv2,ht2,_⟩:=I.tuple r1
    have l1:=rv.length
    have l2:=rv2.length
    have l3:=q2.length
    have l4:=r2.length
    have key:=SeqAt.RcAt.tuples (A:=A) (e:=eqsAt ts us) ht ht2 (by lia) (fun j j1 j2=>?_)
    ·have ev:((List.range (min its.toArray.size its2.toArray.size)).all (eqsAt ts us) && its.toArray.size == its2.toArray.size)=T.beq (.node ts) (.node us):=by
      rw [List.size_toArray,List.size_toArray,← l1,← l2,l3,l4,T.beq,← beqL_range]
     rw [ev] at key
     exact key
    ·have j1':j<xs.length:=by rw [l1]; simpa using j1
     have j2':j<ys.length:=by rw [l2]; simpa using j2
     obtain⟨u1,hu1,ru1⟩:=rv.get (List.getElem?_eq_getElem j1')
     obtain⟨u2,hu2,ru2⟩:=rv2.get (List.getElem?_eq_getElem j2')
     obtain⟨t1,ht1,tr1⟩:=q2.get (List.getElem?_eq_getElem j1')
     obtain⟨t2,ht2',tr2⟩:=r2.get (List.getElem?_eq_getElem j2')
     have ee:eqsAt ts us j=T.beq t1 t2:=by unfold eqsAt; rw [ht1,ht2']
     have g1:its.toArray[j]=u1:=by
      have:its[j]?=some u1:=hu1
      rw [List.getElem?_eq_some_iff] at this
      obtain⟨_,e⟩:=this
      simpa using e
     have g2:its2.toArray[j]=u2:=by
      have:its2[j]?=some u2:=hu2
      rw [List.getElem?_eq_some_iff] at this
      obtain⟨_,e⟩:=this
      simpa using e
     rw [ee,g1,g2]
     obtain⟨a1,zs1,e1,_⟩:=TR_of tr1
     obtain⟨a2,zs2,e2,_⟩:=TR_of tr2
     rw [e1] at ru1 tr1
     rw [e2] at ru2 tr2
     obtain rfl:u1=Value.ref a1:=ru1
     obtain rfl:u2=Value.ref a2:=ru2
     by_cases hne:a1=a2
     ·subst hne
      have et:t1=t2:=(tr_inj I t1.parts).1 t1 t2 _ (Nat.le_refl _) tr1 tr2
      rw [et,T.beq_self]
      exact SeqAt.EqAt.same _
     ·have hd1:t1.deep≤n:=by
       have:=T.mem_deep (List.mem_of_getElem? ht1)
       lia
      exact SeqAt.EqAt.of_refs hne (ih t1 t2 A.in1 a1 a2 hd1 tr1 tr2 (by rw [Around.in1_units]; lia))
end
section
variable {X:Cx}
def rEqTr (K:PySem.W.Frag) (n:Nat):R2:=fun x y H Q=>∃ t u,TR K H t x∧TR K H u y∧t.deep≤n∧Q (.bl (T.beq t u)) H
theorem op_eqTr {n:Nat} (hu:X.A.units+n<cLine):OpR X (compareOp .Eq) (rEqTr X.K n):=by
 intro pins s σ H x y v u Q I rx ry h
 obtain⟨t,t',h1,h2,hd,q⟩:=h
 obtain⟨a,xs,e1,_⟩:=TR_of h1
 obtain⟨b,ys,e2,_⟩:=TR_of h2
 subst e1 e2
 cases rx
 cases ry
 exact rc_tree I n t t' X.A a b hd h1 h2 hu _ _ _ _ ⟨.bl _,H,I,rfl,q⟩
end
section
variable {X:Cx}{K:PySem.W.Frag}
end
theorem sqL_new {K:PySem.W.Frag}{H:Hp}{a D:Addr}{xs:List V}{o:HO} (h:SqL K H a xs) (hD:H D=none):SqL K (upd H D o) a xs:=(same_new hD o).seq h
theorem lc_list {K:PySem.W.Frag}{H:Hp}{a:Addr}{xs:List V}{σ:Sg}{js:List Nat}{te:TE}{Q:VK} (Pr:Nat→V→Prop) (hl:SqL K H a xs) (hz:xs.length≤sizeLine)
  (hte:∀ (i:Nat) (x:V) (H':Hp) (R:VK),xs[i]?=some x→Same H H'→(∀ y,Pr i y→R y H')→te (some x::frv σ js) H' R)
  (q:∀ (D:Addr) (ys:List V),H D=none→ys.length=xs.length→(∀ i y,ys[i]?=some y→Pr i y)→Q (.ref D) (upd H D (.lst ys))) :
  LcRun (Itl K a) js te σ Q H:=by
 intro D hD
 refine⟨fun i m ys H'=>m=xs.length - i∧i≤xs.length∧ys.length=i∧(∀ j y,ys[j]?=some y→Pr j y)∧H'=upd H D (.lst ys),⟨xs.length,by lia,Nat.zero_le _,rfl,fun j y e=>by simp at e,rfl⟩,?_⟩
 rintro i m ys H' ⟨rfl,hi,hly,hp,rfl⟩
 refine⟨upd_same,?_⟩
 have hl':=sqL_new (o:=.lst ys) hl hD
 by_cases hlt:i<xs.length
 ·refine .inr ⟨⟨xs,xs[i],hl',List.getElem?_eq_getElem hlt⟩,fun x H2 y=>?_⟩
  obtain⟨e,y⟩:=y
  subst e
  refine hte i x _ _ (y xs hl') (same_new hD _) fun y py=>⟨upd_same,by lia,xs.length - (i+1),by lia,rfl,by lia,by simp [hly],fun j z e=>?_,by rw [upd_upd]⟩
  by_cases hj:j<ys.length
  ·rw [List.getElem?_append_left hj] at e
   exact hp j z e
  ·rw [List.getElem?_append_right (by lia)] at e
   have:j - ys.length=0:=by
    rcases Nat.eq_zero_or_pos (j - ys.length) with h | h
    ·exact h
    ·rw [List.getElem?_eq_none (by simp; lia)] at e; cases e
   rw [this] at e
   have e':y=z:=by simpa using e
   have ej:j=i:=by lia
   rw [← e',ej]
   exact py
 ·have ei:i=xs.length:=by lia
  exact .inl ⟨⟨xs,hl',by lia⟩,q D ys hD (by lia) hp⟩
end Sw
namespace SwR
open PySem PySem.Spec PyProof.Rows L2 Sw
theorem sl_next:Slot "reversed" "__next__" "reversed.__next__":=.of (owner:="reversed") (n:="__next__") (by rw [typeLookup_type,builtinLookup_eq_fast]; kernel_rfl) (by decide +kernel) (by decide +kernel) (by decide +kernel) (by first | exact .inl (by decide +kernel) | exact .inr (by decide +kernel)) (by rw [isSubtype_type]; kernel_rfl)
theorem en_next:entryFor table "reversed.__next__"=some Builtin.«reversed.__next__»:=entryFor_of_tree (by kernel_rfl)
theorem ar_next (a:Value):argsOk "reversed.__next__" ⟨[a],[]⟩:=by unfold argsOk; kernel_rfl
theorem sl_iter:Slot "reversed" "__iter__" "reversed.__iter__":=.of (owner:="reversed") (n:="__iter__") (by rw [typeLookup_type,builtinLookup_eq_fast]; kernel_rfl) (by decide +kernel) (by decide +kernel) (by decide +kernel) (by first | exact .inl (by decide +kernel) | exact .inr (by decide +kernel)) (by rw [isSubtype_type]; kernel_rfl)
theorem ar_iter (a:Value):argsOk "reversed.__iter__" ⟨[a],[]⟩:=by unfold argsOk; kernel_rfl
theorem en_iter:entryFor table "reversed.__iter__"=some Builtin.«dict_keyiterator.__iter__»:=entryFor_alias (id':="dict_keyiterator.__iter__") (by kernel_rfl) (by first | rfl | decide +kernel) (by decide +kernel) (by kernel_rfl)
theorem sl_hint:Slot "reversed" "__length_hint__" "reversed.__length_hint__":=.of (owner:="reversed") (n:="__length_hint__") (by rw [typeLookup_type,builtinLookup_eq_fast]; kernel_rfl) (by decide +kernel) (by decide +kernel) (by decide +kernel) (by first | exact .inl (by decide +kernel) | exact .inr (by decide +kernel)) (by rw [isSubtype_type]; kernel_rfl)
theorem en_hint:entryFor table "reversed.__length_hint__"=some Builtin.«reversed.__length_hint__»:=entryFor_of_tree (by kernel_rfl)
theorem ar_hint (a:Value):argsOk "reversed.__length_hint__" ⟨[a],[]⟩:=by unfold argsOk; kernel_rfl
theorem no_len:typeLookup (.type "reversed") "__len__"=pure none:=by rw [typeLookup_type,builtinLookup_eq_fast]; kernel_rfl
theorem sl_init:Slot "reversed" "__init__" "object.__init__":=.of (owner:="object") (n:="__init__") (by rw [typeLookup_type,builtinLookup_eq_fast]; kernel_rfl) (by decide +kernel) (by decide +kernel) (by decide +kernel) (by first | exact .inl (by decide +kernel) | exact .inr (by decide +kernel)) (by rw [isSubtype_type]; kernel_rfl)
theorem tup_norev:typeLookup (.type "tuple") "__reversed__"=pure none:=by rw [typeLookup_type,builtinLookup_eq_fast]; kernel_rfl
theorem called_rev:TypeCalled "reversed" "reversed.__new__" "object.__init__" :=
 ⟨by decide +kernel,by decide +kernel,⟨_,_,F.mro_reversed⟩,F.made_reversed,by decide +kernel,by rw [isSubtype_type]; kernel_rfl,sl_init⟩
def RvO (h:Heap) (p a:Addr) (i:Int):Prop:=∃ o,h.get? p=some o∧o.cls=.type "reversed"∧o.data=.fields #[.ref a,rawInt i]
theorem RvO.typeIs {s:Shared}{p a:Addr}{i:Int} (x:RvO s.heap p a i):s.TypeIs (.ref p) "reversed":=let ⟨o,ho,hc,_⟩:=x; ⟨o,ho,hc⟩
section
variable {prog:Program}{w:World}{A:Around}{E:Value→Shared→Prop}{s:Shared}
theorem next_item {it a:Addr}{i:Nat}{items:Array Value}{x:Value}{Q:Option Value→Shared→Prop} (hit:RvO s.heap it a (i:Int)) (ht:IsTup s.heap a items) (hx:items[i]?=some x) (hz:items.size≤sizeLine) (hne:a≠it)
  (hQ:∀ h' tk,RvO h' it a ((i:Int) - 1)→Heap.SameBut it s.heap h'→Q (some x) { s with heap:=h',toks:=tk }):wpAny (model prog w) A (pyNext (.ref it)) Q E s:=by
 obtain⟨o,ho,hc,hd⟩:=id hit
 unfold pyNext
 refine wpAny_bind (wpAny_attempt (wpAny_callSpecial?_slot (name:=Str.ofString "__next__") hit.typeIs sl_next (wpAny_call_entry sl_next hit.typeIs en_next ?_ (ar_next _))))
 unfold Builtin.«reversed.__next__»
 refine wpAny_bind (wpAny_of_eq (a:=(Value.ref it,[])) rfl ?_)
 dsimp only
 refine wpAny_bind (wpAny_field ho hd (x:=.ref a) rfl ?_)
 refine wpAny_bind (wpAny_field ho hd (x:=rawInt (i:Int)) rfl ?_)
 show wpAny _ _ (if (i:Int)<0 then _ else _) _ _ s
 rw [if_neg (by lia)]
 refine wpAny_bind (wpAny_specialOf ht.typeIs PyProof.Rows.slot_tuple_getitem.lookup ?_)
 rw [if_neg (by decide)]
 have hi:i<items.size:=(Array.getElem?_eq_some_iff.mp hx).1
 have hl:sizeLine=16777216:=sizeLine_eq
 refine wpAny_bind (wpAny_mkInt ?_)
 refine wpAny_bind (wpAny_attempt (getItem_tuple (j:=i) ht (by lia) (by lia) (by rw [seqIndex_of (by lia) (by lia)]; rfl) hx ?_))
 dsimp only
 refine wpAny_bind (wpAny_field ho hd (x:=rawInt (i:Int)) rfl ?_)
 refine wpAny_bind (wpAny_setField ho hd (by simp) ?_)
 refine wpAny_pure ⟨x,rfl,wpAny_pure (hQ _ _ ?_ (Heap.SameBut.update ..))⟩
 exact⟨_,Heap.get?_update_self _ ho (Obj.isFreed_of_fields (Obj.data_mapFields hd _)),(Obj.cls_mapFields ..).trans hc,by rw [Obj.data_mapFields hd]; simp⟩
theorem next_end {it a:Addr}{Q:Option Value→Shared→Prop} (hh:A.handled=none) (hit:RvO s.heap it a (-1))
  (hQ:∀ h',Heap.ExtBut it s.heap h'→Q none { s with heap:=h' }):wpAny (model prog w) A (pyNext (.ref it)) Q E s:=by
 obtain⟨o,ho,hc,hd⟩:=id hit
 unfold pyNext
 refine wpAny_bind (wpAny_attempt (wpAny_callSpecial?_slot (name:=Str.ofString "__next__") hit.typeIs sl_next (wpAny_call_entry sl_next hit.typeIs en_next ?_ (ar_next _))))
 unfold Builtin.«reversed.__next__»
 refine wpAny_bind (wpAny_of_eq (a:=(Value.ref it,[])) rfl ?_)
 dsimp only
 refine wpAny_bind (wpAny_field ho hd (x:=.ref a) rfl ?_)
 refine wpAny_bind (wpAny_field ho hd (x:=rawInt (-1)) rfl ?_)
 show wpAny _ _ (if (-1:Int)<0 then _ else _) _ _ s
 rw [if_pos (by decide)]
 refine wpAny_bind (wpAny_rule ?_)
 have e1:=Heap.get?_update_self (Obj.mapFields fun vs=>vs.setIfInBounds 1 (rawInt (-1))) ho (Obj.isFreed_of_fields (Obj.data_mapFields hd _))
 refine wpAny_bind (wpAny_bind (wpAny_setField ho hd (by simp) ?_))
 refine wpAny_setField e1 (Obj.data_mapFields hd _) (by simp) ?_
 refine wpAny_bind ?_
 unfold Builtin.SmallTypes.stopIteration
 refine wpAny_bind ?_
 simp only [newExc,newTuple]
 refine wpAny_bind (wpAny_newObj_type ?_ (by size_fits)); refine wpAny_bind (m:=firstArgMember _ _) (wpAny_of_eq (a:=Value.none) (by first | rfl | (simp only [firstArgMember]; rfl)) ?_); refine wpAny_newObj_type ?_ (by size_fits)
 simp only [raiseNew]; refine wpAny_bind (wpAny_handled ?_)
 first | rw [show A.in1.handled=none from hh] | rw [hh]
 refine wpAny_bind (wpAny_pure (wpAny_throw ?_)); refine wpAny_bind (wpAny_isInstance (T:="StopIteration") (b:=true) ⟨_,Heap.get?_push_size _ rfl,rfl⟩ isSubtype_stop (wpAny_pure (hQ _ ?_)))
 intro b ob hb e
 refine Heap.get?_push_of_some _ (Heap.get?_push_of_some _ ?_)
 exact (Heap.get?_update_other _ _ (Ne.symm hb)).trans ((Heap.get?_update_other _ _ (Ne.symm hb)).trans e)
theorem iter_self {it a:Addr}{i:Int}{Q:Value→Shared→Prop} (hit:RvO s.heap it a i) (h:Q (.ref it) s):wpAny (model prog w) A (pyIter (.ref it)) Q E s:=by
 refine wpAny_pyIter_slot hit.typeIs sl_iter (wpAny_call_entry sl_iter hit.typeIs en_iter ?_ (ar_iter _))
 show wpAny _ _ (ret (.ref it)) _ _ s
 exact wpAny_pure ⟨_,rfl,"reversed",_,hit.typeIs,sl_next.lookup,h⟩
theorem RvO.keep {h h':Heap}{p a:Addr}{i:Int} (x:RvO h p a i) (e:∀ o,h.get? p=some o→h'.get? p=some o):RvO h' p a i:=let ⟨o,ho,r⟩:=x; ⟨o,e _ ho,r⟩
theorem tup_keep {h h':Heap}{a:Addr}{items:Array Value} (x:IsTup h a items) (e:∀ o,h.get? a=some o→h'.get? a=some o):IsTup h' a items:=let ⟨o,ho,r⟩:=x; ⟨o,e _ ho,r⟩
end
theorem walks_rev {prog:Program}{w:World}{A:Around} (hh:A.handled=none) (I a:Addr) (hne:a≠I) (items:Array Value) (hz:items.size≤sizeLine) :
  Walks prog w A I [I,a] [I] items.size (fun i v=>items[items.size - 1 - i]?=some v) (fun i h=>i≤items.size∧RvO h I a ((items.size:Int) - 1 - (i:Int))∧IsTup h a items) where
 sub:=fun b hb=>by simp at hb; simp [hb]
 frame:=fun _ _ _ x hk=>⟨x.1,x.2.1.keep fun o e=>hk I (by simp) o e,tup_keep x.2.2 fun o e=>hk a (by simp) o e⟩
 item:=fun i s Q E hi x hQ=>by
  obtain⟨_,hit,ht⟩:=x
  have e:(items.size:Int) - 1 - (i:Int)=((items.size - 1 - i:Nat):Int):=by lia
  rw [e] at hit
  have hx:items[items.size - 1 - i]?=some (items[items.size - 1 - i]'(by lia)):=Array.getElem?_eq_getElem (by lia)
  refine next_item hit ht hx hz hne fun h' tk hit' hs'=>hQ _ h' tk hx ⟨by lia,?_,tup_keep ht fun o eo=>(hs'.2 a hne).trans eo⟩ fun b o hb eo=>hs'.extBut b o (fun z=>hb (by simp [z])) eo
  have e2:((items.size - 1 - i:Nat):Int) - 1=(items.size:Int) - 1 - ((i+1:Nat):Int):=by lia
  rw [← e2]
  exact hit'
 done:=fun s Q E x hQ=>by
  obtain⟨_,hit,ht⟩:=x
  have e:(items.size:Int) - 1 - (items.size:Int)=-1:=by lia
  rw [e] at hit
  exact next_end hh hit fun h' he'=>hQ h' s.toks fun b o hb eo=>he' b o (fun z=>hb (by simp [z])) eo
 self:=fun _ _ _ _ x hQ=>iter_self x.2.1 hQ
section
variable {prog:Program}{w:World}{A:Around}{E:Value→Shared→Prop}{s:Shared}
theorem asInt_int (k:Int) (u:Tok):asInt? (.int k u)=pure (some k):=rfl
theorem call_hint {it a:Addr}{items:Array Value}{Q:Value→Shared→Prop} (hit:RvO s.heap it a ((items.size:Int) - 1)) (ht:IsTup s.heap a items) (hz:items.size≤sizeLine)
  (hQ:∀ t tk,s.toks≤tk→Q (.int (items.size:Int) t) { s with toks:=tk }):wpAny (model prog w) A (call (.builtin "reversed.__length_hint__") [.ref it]) Q E s:=by
 obtain⟨o,ho,hc,hd⟩:=id hit
 have hl:sizeLine=16777216:=sizeLine_eq
 refine wpAny_call_entry sl_hint hit.typeIs en_hint ?_ (ar_hint _)
 unfold Builtin.«reversed.__length_hint__»
 refine wpAny_bind (wpAny_of_eq (a:=Value.ref it) rfl ?_)
 refine wpAny_bind (wpAny_field ho hd (x:=.ref a) rfl ?_)
 rw [if_neg (show ¬ ((Value.ref a == Value.none)=true) from Bool.false_ne_true)]
 refine wpAny_bind (len_tuple ht (by lia) ?_)
 refine wpAny_bind (m:=asInt? (.int (items.size:Int) (s.toks+1))) (wpAny_pure ?_)
 dsimp only
 refine wpAny_bind (wpAny_field ho hd (x:=rawInt ((items.size:Int) - 1)) rfl ?_)
 show wpAny _ _ (if (items.size:Int)<((items.size:Int) - 1)+1 then _ else retInt (((items.size:Int) - 1)+1)) _ _ _
 rw [if_neg (by lia),show ((items.size:Int) - 1)+1=(items.size:Int) by lia]
 unfold retInt
 refine wpAny_bind (wpAny_mkInt (wpAny_pure ⟨_,rfl,hQ _ _ ?_⟩))
 show s.toks≤s.toks+1+1+1
 lia
theorem rev_extend {it a S:Addr}{items:Array Value}{c₀:Nat}{R:Result→Shared→Prop} (hh:A.handled=none) (hit:RvO s.heap it a ((items.size:Int) - 1)) (ht:IsTup s.heap a items) (hz:items.size≤sizeLine)
  (hai:a≠it) (hSi:S≠it) (hSa:S≠a) (hS:s.heap.get? S=some { cls:=.type "list",data:=.seq #[] c₀ })
  (hR:∀ h' tk acc' c',(∀ b o,b≠S→b≠it→s.heap.get? b=some o→h'.get? b=some o)→h'.get? S=some { cls:=.type "list",dict:=none,data:=.seq acc' c',slots:=#[] } →
   ItemsOf (fun i v=>items[items.size - 1 - i]?=some v) acc' items.size→R (.ok (.ret .none)) { s with heap:=h',toks:=tk }) :
  wpAny (model prog w) A.in1 (Builtin.List.listExtendWith (.ref S) (.ref it) .none)
   (fun fin s'=>match fin with | .done f=>R (.ok f) s' | .again c'=>c'.quiet=true∧codeAny (model prog w) A c' R s') (fun e s'=>R (.error e) s') s:=by
 have hl:sizeLine=16777216:=sizeLine_eq
 have h1:Builtin.List.listSameRef (.ref S) (.ref it)=false:=by simp [Builtin.List.listSameRef,hSi]
 unfold Builtin.List.listExtendWith
 refine wpAny_bind (wpAny_typeOf hit.typeIs ?_)
 rw [if_neg (by rw [h1]; decide)]
 refine wpAny_bind (iter_self hit ?_)
 refine wpAny_bind (wpAny_holding ?_)
 unfold Builtin.List.listLengthHint
 refine wpAny_bind (wpAny_specialOf hit.typeIs no_len ?_)
 show wpAny _ A.in1 (specialOf (Value.ref it) (Str.ofString "__length_hint__") >>= _) _ _ _
 refine wpAny_bind (wpAny_specialOf hit.typeIs sl_hint.lookup ?_)
 (generalize hid:("reversed.__length_hint__":String)=id0; (fail_if_success (clear hid id0)); wp_delta; rw [show splitId id0=some ("reversed","__length_hint__") from by subst hid; decide +kernel]; subst hid)
 refine wpAny_bind (wpAny_isInstance (b:=true) hit.typeIs (by rw [isSubtype_type]; kernel_rfl) ?_)
 rw [if_neg (by decide)]
 dsimp only
 rw [if_neg (by decide)]
 refine wpAny_bind (wpAny_rule ?_)
 refine wpAny_bind (wpAny_of_eq (sl_hint.bind _) ?_)
 dsimp only
 refine wpAny_bind (wpAny_attempt (call_hint hit ht hz fun t tk htk=>?_))
 dsimp only
 rw [asInt_int,pure_bind]
 dsimp only
 have hf:Builtin.List.listFitsIndex (items.size:Int)=true:=by
  unfold Builtin.List.listFitsIndex
  simp only [Bool.and_eq_true,decide_eq_true_eq]
  lia
 have htl:Builtin.List.listTooLong (Int.toNat (items.size:Int))=false:=by
  rw [Int.toNat_natCast]
  exact notLongL hz
 rw [if_neg (by rw [hf]; decide),if_neg (by lia),if_neg (by rw [htl]; decide)]
 refine wpAny_pure ?_
 have hSf:S ∉ [it,a]:=by simp [hSi,hSa]
 have W:=walks_rev (prog:=prog) (w:=w) (A:=A.in1) hh it a hai items hz
 have loop:∀ (s2:Shared) (c₂:Nat),(∀ b o,b≠S→s.heap.get? b=some o→s2.heap.get? b=some o)→s2.heap.get? S=some { cls:=.type "list",data:=.seq #[] c₂ }→s2.gens=s.gens→s2.drawn=s.drawn→s2.os=s.os →
   codeAny (model prog w) A (.builtin "list.extend.loop" ⟨[.ref S,.ref it,.none],[]⟩) R s2:=fun s2 c₂ hk hS2 g1 g2 g3=>by
  have st:0≤items.size∧RvO s2.heap it a ((items.size:Int) - 1 - ((0:Nat):Int))∧IsTup s2.heap a items:=by
   refine⟨Nat.zero_le _,?_,tup_keep ht fun o e=>hk a o (Ne.symm hSa) e⟩
   have:(items.size:Int) - 1 - ((0:Nat):Int)=(items.size:Int) - 1:=by lia
   rw [this]
   exact hit.keep fun o e=>hk it o (Ne.symm hSi) e
  refine codeAny_extend_loopS W.toS hz S hSf .none items.size 0 s2 #[] c₂ rfl (Nat.zero_le _) st hS2 (ItemsOf.nil _) fun s' acc' c' hm hS' hacc=>?_
  have hs':=Moved.eq_with hm
  rw [g1,g2,g3] at hs'
  rw [hs']
  exact hR s'.heap s'.toks acc' c' (fun b o hbS hbi e=>hm.heap b o (by simp [hbS,hbi]) (hk b o hbS e)) hS' hacc
 split
 ·refine wpAny_bind (wpAny_rule ?_)
  unfold Builtin.List.listTouch
  have e1:=Heap.get?_update_self (Obj.mapSeq (·.push Value.none)) hS rfl
  have e2:=Heap.get?_update_self (Obj.mapSeq (·.pop)) e1 rfl
  refine wpAny_bind (wpAny_bind (m:=Builtin.List.listUpdate (.ref S) (·.push Value.none)) (wpAny_updateSeq hS rfl ?_ (hz:=Nat.zero_le _) (_hz':=Nat.succ_le_succ (Nat.zero_le _))))
  refine wpAny_updateSeq e1 rfl ?_ (hz:=(by show 1≤sizeLine; decide)) (_hz':=Nat.zero_le _)
  refine wpAny_pure ⟨plainId_quiet F.plain_extend_loop _,loop _ _ (fun b o hb e=>?_) (by simpa [Obj.mapSeq] using e2) rfl rfl rfl⟩
  exact (Heap.get?_update_other _ _ (Ne.symm hb)).trans ((Heap.get?_update_other _ _ (Ne.symm hb)).trans e)
 ·exact wpAny_pure ⟨plainId_quiet F.plain_extend_loop _,loop _ c₀ (fun b o _ e=>e) hS rfl rfl rfl⟩
theorem call_list_rev {it a:Addr}{items:Array Value}{Q:Value→Shared→Prop} (hh:A.handled=none) (hit:RvO s.heap it a ((items.size:Int) - 1)) (ht:IsTup s.heap a items) (hz:items.size≤sizeLine) (hai:a≠it)
  (hQ:∀ h' tk acc' c',(∀ b o,b≠it→s.heap.get? b=some o→h'.get? b=some o)→h'.get? s.heap.objs.size=some { cls:=.type "list",dict:=none,data:=.seq acc' c',slots:=#[] } →
   acc'.toList=items.toList.reverse→Q (.ref s.heap.objs.size) { s with heap:=h',toks:=tk }):wpAny (model prog w) A (call (.type "list") [.ref it]) Q E s:=by
 have lit:it<s.heap.objs.size:=let ⟨_,ho,_⟩:=hit; Heap.lt_size ho
 have la:a<s.heap.objs.size:=let ⟨_,ho,_⟩:=ht; Heap.lt_size ho
 refine callType_codes (Q₁:=fun obj s₁=>obj=.ref s.heap.objs.size∧s₁={ s with heap:=s.heap.push { cls:=.type "list",data:=.seq #[] } }) F.called_list (F.typeCall_list_1 _) F.entry_list_init (code_list_new _ ⟨rfl,rfl⟩) fun obj s1 h1=>?_
 obtain⟨e1,e2⟩:=h1
 subst e1 e2
 have hS:(s.heap.push { cls:=.type "list",data:=.seq #[] }).get? s.heap.objs.size=some { cls:=.type "list",data:=.seq #[] }:=Heap.get?_push_size _ rfl
 refine⟨⟨_,hS,rfl⟩,F.args_list_init_2 _ _,?_⟩
 show wpAny _ _ (Builtin.List.listItems (.ref s.heap.objs.size) >>= fun old=>Builtin.List.listUpdate (.ref s.heap.objs.size) (fun _=>#[]) >>= fun _=>letGo old.toList.reverse >>= fun _=>Builtin.List.listExtendWith (.ref s.heap.objs.size) (.ref it) .none) _ _ _
 refine wpAny_bind ?_
 unfold Builtin.List.listItems
 refine wpAny_bind (wpAny_seqItems hS rfl (wpAny_pure ?_))
 refine wpAny_bind (m:=Builtin.List.listUpdate (.ref s.heap.objs.size) (fun _=>#[])) (wpAny_updateSeq hS rfl ?_)
 have hS2:=Heap.get?_update_self (Obj.mapSeq (fun _=>(#[]:Array Value))) hS rfl
 have oth:∀ b o,b≠s.heap.objs.size→s.heap.get? b=some o→((s.heap.push { cls:=.type "list",data:=.seq #[] }).update s.heap.objs.size (Obj.mapSeq (fun _=>(#[]:Array Value)))).get? b=some o :=
  fun b o hb e=>(Heap.get?_update_other _ _ (Ne.symm hb)).trans (Heap.get?_push_of_some _ e)
 refine wpAny_bind (wpAny_letGo ?_)
 refine rev_extend (A:=A.in1) hh (hit.keep fun o e=>oth it o (Nat.ne_of_lt lit) e) (tup_keep ht fun o e=>oth a o (Nat.ne_of_lt la) e) hz hai (Nat.ne_of_gt lit) (Nat.ne_of_gt la) hS2 fun h' tk acc' c' hk hS' hacc=>?_
 refine⟨rfl,hQ h' tk acc' c' (fun b o hb e=>hk b o (Nat.ne_of_lt (Heap.lt_size e)) hb (oth b o (Nat.ne_of_lt (Heap.lt_size e)) e)) hS' ?_⟩
 obtain⟨hsz,hat⟩:=hacc
 refine List.ext_getElem? fun i=>?_
 by_cases hi:i<items.size
 ·have h1:=hat i (acc'[i]'(by lia)) (Array.getElem?_eq_getElem (by lia))
  rw [List.getElem?_reverse (by rw [Array.length_toList]; exact hi),Array.length_toList,Array.getElem?_toList,Array.getElem?_toList,h1,Array.getElem?_eq_getElem (by lia)]
 ·rw [List.getElem?_eq_none (by rw [Array.length_toList]; lia),List.getElem?_eq_none (by rw [List.length_reverse,Array.length_toList]; lia)]
end
section
variable {prog:Program}{w:World}{A:Around}{E:Value→Shared→Prop}{s:Shared}
theorem rev_new_meets (a:Addr) (items:Array Value) (n:Nat) (dd:Option Addr) (sl:Array (Option Value)) (hz:items.size≤sizeLine) :
  Meets (Builtin.«reversed.__new__» ⟨[.type "reversed",.ref a],[]⟩) (fun _ R s=>s.heap.get? a=some { cls:=.type "tuple",dict:=dd,data:=.seq items n,slots:=sl } ∧
   ∀ tk,R (.ok (.ret (.ref s.heap.objs.size))) { s with heap:=s.heap.push { cls:=.type "reversed",data:=.fields #[.ref a,rawInt ((items.size:Int) - 1)] },toks:=tk }) :=
 .of_wp fun prog w A R s h=>by
  obtain⟨ht,h⟩:=h
  have hl:sizeLine=16777216:=sizeLine_eq
  have hT:s.TypeIs (.ref a) "tuple":=⟨_,ht,rfl⟩
  have hI:IsTup s.heap a items:=⟨_,ht,rfl,n,rfl⟩
  unfold Builtin.«reversed.__new__»
  refine wpAny_bind (wpAny_of_eq (newClass_reversed _) ?_)
  dsimp only
  refine wpAny_bind (wpAny_of_eq (a:=()) (by first | rfl | kernel_rfl) ?_); refine wpAny_bind (wpAny_of_eq (a:=()) (by first | rfl | kernel_rfl) ?_)
  refine wpAny_bind (wpAny_specialOf hT tup_norev ?_)
  dsimp only
  refine wpAny_bind ?_
  refine wpAny_bind (wpAny_isInstance (b:=false) hT (by rw [isSubtype_type]; kernel_rfl) ?_)
  rw [if_neg (by decide)]
  refine wpAny_bind (wpAny_specialOf hT PyProof.Rows.slot_tuple_getitem.lookup ?_)
  dsimp only
  rw [if_pos (by decide)]
  refine wpAny_pure ?_
  rw [if_neg (by decide)]
  refine wpAny_bind (len_tuple hI (by lia) ?_)
  rw [asInt_int,pure_bind]
  dsimp only
  show wpAny _ _ (newObj (.type "reversed") (.fields #[.ref a,rawInt ((items.size:Int) - 1)]) >>= _) _ _ _
  refine wpAny_bind (wpAny_newObj_type ?_)
  exact wpAny_pure ⟨_,rfl,h _⟩
theorem call_rev {a:Addr}{items:Array Value}{Q:Value→Shared→Prop} (ht:IsTup s.heap a items) (hz:items.size≤sizeLine)
  (h:∀ tk,Q (.ref s.heap.objs.size) { s with heap:=s.heap.push { cls:=.type "reversed",data:=.fields #[.ref a,rawInt ((items.size:Int) - 1)] },toks:=tk }):wpAny (model prog w) A (call (.type "reversed") [.ref a]) Q E s:=by
 obtain⟨⟨c,d,dt,sl⟩,ho,hc,n,hd⟩:=id ht
 simp only at hc hd
 subst hc hd
 refine callType_new called_rev (by decide) (F.typeCall_reversed_1 _) (F.newCall_reversed_1 _) (fun obj=>F.args_object_init_2 obj _) F.entry_reversed_new (rev_new_meets a items n d sl hz) ⟨ho,fun tk=>?_⟩
 exact⟨⟨_,Heap.get?_push_size _ rfl,rfl⟩,h tk⟩
end
theorem bt_reversed:bootBuiltins "reversed"=some (.type "reversed"):=by decide +kernel
theorem bt_list':bootBuiltins "list"=some (.type "list"):=by decide +kernel
def tLR (K:PySem.W.Frag) (te:TE):TE:=fun σ H Q=>te σ H fun x H1=>∃ a ys,x=.ref a∧SqT K H1 a ys∧∀ l,H1 l=none→Q (.ref l) (upd H1 l (.lst ys.reverse))
theorem pe_listRev {X:Cx}{e:Expr}{te:TE}{p1 p2 pos pos2:Pos} (hgl:Gl X "list") (hgr:Gl X "reversed") (ml:X.mg "list"=none) (mr:X.mg "reversed"=none) (hc:X.calm=true) (he:PE X e te)
  (hs1:starEach [.Call (.Name "reversed" p2) [e] [] pos2] X.env=[(false,eval (.Call (.Name "reversed" p2) [e] [] pos2) X.env)]:=by rfl) (hs2:starEach [e] X.env=[(false,eval e X.env)]:=by rfl) :
  PE X (.Call (.Name "list" p1) [.Call (.Name "reversed" p2) [e] [] pos2] [] pos) (tLR X.K te):=by
 intro pins s σ H Q I h
 refine wpAny_Call_Name_kw (ld_blt I hgl ml bt_list' ?_)
 refine PyProof.Rows.callWith_type1 ?_ (by rw [hs1]; rfl) (by rfl)
 rw [hs1]
 refine Calls.spliced_cons ?_
 refine wpAny_Call_Name_kw (ld_blt I hgr mr bt_reversed ?_)
 refine PyProof.Rows.callWith_type1 ?_ (by rw [hs2]; rfl) (by rfl)
 rw [hs2]
 refine Calls.spliced_cons (thn (he pins s σ H _ I h) fun v s1 ⟨x,H1,I1,r1,q1⟩=>Calls.spliced_nil ?_)
 obtain⟨a,ys,e1,hq,q⟩:=q1
 subst e1
 cases r1
 obtain⟨its,rv,ht,hz⟩:=I1.tuple hq
 have hlen:=rv.length
 have hz':its.toArray.size≤sizeLine:=by rw [List.size_toArray]; lia
 refine call_rev ht hz' fun tk=>Calls.spliced_nil ?_
 generalize hs2':({ s1 with heap:=s1.heap.push { cls:=.type "reversed",data:=.fields #[.ref a,rawInt ((its.toArray.size:Int) - 1)] },toks:=tk }:Shared)=s2
 have I2:Inv X pins σ H1 s2:=by rw [← hs2']; exact I1.kept fun b o e=>Heap.get?_push_of_some _ e
 have la:a<s1.heap.objs.size:=let ⟨_,ho,_⟩:=ht; Heap.lt_size ho
 have sz2:s2.heap.objs.size=s1.heap.objs.size+1:=by rw [← hs2']; exact Heap.size_push ..
 have hit:RvO s2.heap s1.heap.objs.size a ((its.toArray.size:Int) - 1):=by rw [← hs2']; exact⟨_,Heap.get?_push_size _ rfl,rfl,rfl⟩
 have ht2:IsTup s2.heap a its.toArray:=by rw [← hs2']; exact ht.push _
 have fp:FpOk X pins H1 s1.heap.objs.size:=I1.fpOk (Nat.le_refl _) (I1.hok.fresh (Nat.le_refl _))
 refine call_list_rev (I2.ok.hd hc) hit ht2 hz' (Nat.ne_of_lt la) fun h' tk' acc' c' hk hS' hacc=>?_
 have hfree:H1 s2.heap.objs.size=none:=I2.hok.fresh (Nat.le_refl _)
 have hp0:H1 s1.heap.objs.size=none:=fp.1
 have oks:ObjOk X.prog X.w (upd H1 s2.heap.objs.size (.lst ys.reverse)) h' s2.heap.objs.size (.lst ys.reverse):=by
  refine⟨by rw [List.length_reverse]; exact hz,its.reverse,c',rv.reverse,?_⟩
  rw [hS',show acc'=its.reverse.toArray from Array.toList_inj.mp (by simpa using hacc)]
 have nS:∀ b o,s2.heap.get? b=some o→b≠s2.heap.objs.size:=fun b o e=>Nat.ne_of_lt (Heap.lt_size e)
 have np:∀ b u,H1 b=some u→b≠s1.heap.objs.size:=fun b u e=>ne_of_none e hp0
 have nh:∀ b u,H1 b=some u→upd H1 s2.heap.objs.size (.lst ys.reverse) b=some u:=fun b u e=>by rw [upd_ne (ne_of_none e hfree)]; exact e
 have hok:HOk X.prog X.w (upd H1 s2.heap.objs.size (.lst ys.reverse)) h':=fun b u e=>by
  by_cases hb:b=s2.heap.objs.size
  ·subst hb
   rw [upd_same] at e
   cases e
   exact oks
  ·rw [upd_ne hb] at e
   refine (I2.hok b u e).stay (fun c v hc' q'=>hk c v ?_ q') (fun x q'=>nh _ _ q') fun c v q'=>nh _ _ q'
   rcases hc' with z | z
   ·rw [z]; exact np b u e
   ·exact np c _ z
 have I3:Inv X pins σ (upd H1 s2.heap.objs.size (.lst ys.reverse)) { s2 with heap:=h',toks:=tk' }:=by
  refine I2.step (g':=s2.gens) (d':=s2.drawn) (t':=tk') (ch:=[s1.heap.objs.size]) (fun b hb=>?_) (fun b o _ _ hb e _=>hk b o (fun z=>hb (by simp [z])) e) (fun b o _ _ hb e _=>⟨o.slots,hk b o (fun z=>hb (by simp [z])) e⟩)
   (fun b o _ e n=>by rw [upd_ne (nS b o e)]; exact n) (fun b o hb e=>⟨o,hk b o (fun z=>hb (by simp [z])) e⟩) (fun b xs e=>nh _ _ e) (fun b o u e=>nh _ _ e) (fun b ps e=>⟨#[],by rw [nh _ _ e]; simp⟩) (fun m hm=>?_) hok I2.bare
  ·have e:b=s1.heap.objs.size:=by simpa using hb
   subst e
   exact⟨fp.2.2.2.1,fp.2.1,fp.2.2.2.2.1,fp.2.2.2.2.2⟩
  ·obtain⟨o,es,ep,ho,r⟩:=hm
   exact⟨o,es,ep,hk _ o (Ne.symm fp.2.1) ho,r⟩
 exact⟨.ref s2.heap.objs.size,_,I3,rfl,q _ hfree⟩
end SwR
namespace Sw
open PySem PySem.Spec PyProof.Rows L2
def tx (l:List Nat):Str:=⟨l.toArray⟩
theorem tx_append (a b:List Nat):tx a++tx b=tx (a++b):=by
 show Str.mk (a.toArray++b.toArray)=Str.mk (a++b).toArray
 simp
theorem tx_len (a:List Nat):(tx a).length=a.length:=rfl
theorem tx_inj {a b:List Nat}:tx a=tx b↔a=b:=by
 constructor
 ·intro h
  have h1:a.toArray=b.toArray:=congrArg Str.cps h
  simpa using congrArg Array.toList h1
 ·intro h
  rw [h]
theorem tx_lp:Str.ofString "("=tx [40]:=by decide +kernel
theorem tx_rp:Str.ofString ")"=tx [41]:=by decide +kernel
theorem tx_nil:Str.ofString ""=tx []:=by decide +kernel
theorem dec_tx (a b:List Nat):decide (V.str (tx a)=V.str (tx b))=decide (a=b):=by
 by_cases h:a=b
 ·subst h; simp
 ·rw [decide_eq_false h,decide_eq_false]
  intro e
  exact h (tx_inj.mp (V.str.inj e))
theorem strsAre_of:∀ {ss:List Str}{us:List Value},Vals (ss.map V.str) us→StrsAre us ss
 | [],us,r=>by rw [List.map_nil] at r; cases r; exact .nil
 | z::ss,us,r=>by
  rw [List.map_cons] at r
  cases r with
  | cons r1 r2 =>
   obtain⟨t,rfl⟩:=r1
   exact .cons z t (strsAre_of r2)
theorem join_tx (ls:List (List Nat)):Txt.join (tx []) (ls.map tx)=tx ls.flatten:=by
 have key:∀ (ls:List (List Nat)) (acc:List Nat),(ls.map tx).foldl (fun acc p=>acc++(tx []).cps++p.cps) acc.toArray=(acc++ls.flatten).toArray:=by
  intro ls
  induction ls with
  | nil=>intro acc; simp
  | cons l ls ih =>
   intro acc
   rw [List.map_cons,List.foldl_cons]
   have e:acc.toArray++(tx []).cps++(tx l).cps=(acc++l).toArray:=by simp [tx]
   rw [e,ih,List.flatten_cons,List.append_assoc]
 show Str.mk _=_
 cases ls with
 | nil=>rfl
 | cons l ls =>
  have:=key ls l
  show Str.mk (((l::ls).map tx).drop 1 |>.foldl (fun acc p=>acc++(tx []).cps++p.cps) (((l::ls).map tx).headD Str.empty).cps)=tx (l::ls).flatten
  rw [List.map_cons,List.drop_one,List.tail_cons,List.headD_cons,List.flatten_cons]
  exact congrArg Str.mk this
section
variable {X:Cx}
def rJoin (K:PySem.W.Frag):V→List V→Hp→VK→Prop:=fun x vs H Q=>∃ (l:Addr) (ls:List (List Nat)),x=.str (tx [])∧vs=[.ref l]∧SqL K H l (ls.map fun c=>V.str (tx c))∧ls.flatten.length≤16777216∧Q (.str (tx ls.flatten)) H
theorem sum_len:∀ ls:List (List Nat),((ls.map tx).map (·.length)).sum=ls.flatten.length
 | []=>rfl
 | l::ls=>by rw [List.map_cons,List.map_cons,List.sum_cons,sum_len ls,List.flatten_cons,List.length_append,tx_len]
theorem mt_join:MtM X "str.join" (rJoin X.K):=by
 intro pins s σ H x vs v us Q I rx rv h
 obtain⟨l,ls,rfl,rfl,hq,hz,q⟩:=h
 obtain⟨t,rfl⟩:=rx
 obtain⟨u,rfl,ru⟩:=rv.one
 cases ru
 obtain⟨its,r,pl,_⟩:=I.list hq
 have hs:StrsAre its (ls.map tx):=strsAre_of (by rw [List.map_map]; exact r)
 refine join_list (ys:=ls.map tx) pl.isList (by simpa using hs) ?_ fun t' k=>?_
 ·rw [sum_len,tx_len]
  simp only [List.length_nil,Nat.mul_zero,Nat.add_zero]
  exact hz
 ·rw [join_tx]
  exact⟨.str (tx ls.flatten),H,I.tok _,⟨_,rfl⟩,q⟩
def Its (z:Str):It:=⟨fun i _=>i<z.cps.size,fun i H v H'=>H'=H∧∃ c,z.cps[i]?=some c∧v=.str (tx [c]),fun i _=>z.cps.size≤i⟩
theorem turn_str {P:Program}{w:World}{K:PySem.W.Frag}{x:Str}{px:Pos}{ty:String} (hty:ty="str_ascii_iterator"∨ty="str_iterator") (z:Str) (t:Tok) (it:Addr) :
  Turn P w K (.Name x px) (Its z) [it] it (fun i h=>h.IsStrIter it ty z t i) where
 mem:=by simp
 obj:=fun i h st b hb=>by
  have e:b=it:=by simpa using hb
  subst e
  obtain⟨o,e,c,d⟩:=st
  exact⟨o,e,fun v z=>by rw [d] at z; cases z⟩
 keep:=fun i h h' st k=>by
  obtain⟨o,e,r⟩:=st
  exact⟨o,k it (by simp) o e,r⟩
 item:=by
  intro X hP hw hK hc i pins s σ H E I hf st hg
  subst hP hw hK
  obtain⟨f0,f1,f2,f3,f4,f5⟩:=hf it (by simp)
  have hi:z.cps[i]?=some (z.cps[i]'hg):=Array.getElem?_eq_getElem hg
  rcases hty with rfl | rfl
  ·refine wpAny_pyNext_ascii_item st hi fun h' st' sb=>?_
   exact⟨_,rfl,wpAny_pure ⟨.str (tx [z.cps[i]'hg]),H,I.turned (fun b o hb e=>(sb.2 b hb).trans e) f0 f1 f3 f4 f5,⟨_,rfl⟩,⟨rfl,_,hi,rfl⟩,st',fun b hb=>(hf b hb).1⟩⟩
  ·refine wpAny_pyNext_wide_item st hi fun h' st' sb=>?_
   exact⟨_,rfl,wpAny_pure ⟨.str (tx [z.cps[i]'hg]),H,I.turned (fun b o hb e=>(sb.2 b hb).trans e) f0 f1 f3 f4 f5,⟨_,rfl⟩,⟨rfl,_,hi,rfl⟩,st',fun b hb=>(hf b hb).1⟩⟩
 done:=by
  intro X hP hw hK hc i pins s σ H E I hf st hg
  subst hP hw hK
  obtain⟨f0,f1,f2,f3,f4,f5⟩:=hf it (by simp)
  have hi:z.cps[i]?=none:=Array.getElem?_eq_none hg
  rcases hty with rfl | rfl
  ·exact wpAny_pyNext_ascii_end (I.ok.hd hc) st hi fun h' eb=>⟨rfl,I.turned (t':=s.toks) (fun b o hb e=>eb b o hb e) f0 f1 f3 f4 f5⟩
  ·exact wpAny_pyNext_wide_end (I.ok.hd hc) st hi fun h' eb=>⟨rfl,I.turned (t':=s.toks) (fun b o hb e=>eb b o hb e) f0 f1 f3 f4 f5⟩
 self:=fun _ _ _ _ _ st h=>by
  rcases hty with rfl | rfl
  ·exact wpAny_pyIter_striter_ascii st h
  ·exact wpAny_pyIter_striter_wide st h
def iStr (tl:TE):TI:=fun σ H R=>tl σ H fun x H1=>∃ z,x=.str z∧R (Its z) H1
theorem pi_str {x:Str}{px:Pos}{l:Expr}{tl:TE} (hl:PE X l tl):PI X (.Name x px) l (iStr tl):=by
 intro pins s σ H R I h
 refine thn (hl pins s σ H _ I h) fun v s1 ⟨y,H1,I1,r1,q1⟩=>?_
 obtain⟨z,rfl,q⟩:=q1
 obtain⟨t,rfl⟩:=r1
 have fp:∀ b∈[s1.heap.objs.size],FpOk X pins H1 b:=fun b hb=>by
  have e:b=s1.heap.objs.size:=by simpa using hb
  subst e
  exact I1.fpOk (Nat.le_refl _) (I1.hok.fresh (Nat.le_refl _))
 cases ha:z.cps.all (·<128)
 ·refine wpAny_pyIter_wide ha ?_
  exact⟨s1.heap.objs.size,[s1.heap.objs.size],_,_,H1,rfl,I1.kept (t':=s1.toks) fun b o e=>Heap.get?_push_of_some _ e,turn_str (.inr rfl) z t _,⟨_,Heap.get?_push_size _ rfl,rfl,rfl⟩,fp,q⟩
 ·refine wpAny_pyIter_ascii ha ?_
  exact⟨s1.heap.objs.size,[s1.heap.objs.size],_,_,H1,rfl,I1.kept (t':=s1.toks) fun b o e=>Heap.get?_push_of_some _ e,turn_str (.inl rfl) z t _,⟨_,Heap.get?_push_size _ rfl,rfl,rfl⟩,fp,q⟩
theorem for_str {l:List Nat}{g:TG}{tb:TS}{D:Ends}{σ:Sg}{H:Hp} (Pv:Nat→Sg→Hp→Prop) (h0:Pv 0 σ H)
  (hs:∀ i c σ H,l[i]?=some c→Pv i σ H→g (.str (tx [c])) σ H fun σ2 H2=>tb { D with nx:=Pv (i+1),ct:=Pv (i+1),bk:=D.nx } σ2 H2) (hd:∀ σ H,Pv l.length σ H→D.nx σ H) :
  ∃ W:Nat→Nat→Sg→Hp→Prop,(∃ m,W 0 m σ H)∧∀ i m σ H,W i m σ H →
   ((Its (tx l)).stop i H∧D.nx σ H)∨((Its (tx l)).go i H∧∃ N:Sg→Hp→Prop,(∀ σ' H',N σ' H'→∃ m',m'<m∧W (i+1) m' σ' H')∧∀ x H',(Its (tx l)).yld i H x H'→g x σ H' fun σ2 H2=>tb { D with nx:=N,ct:=N,bk:=D.nx } σ2 H2):=by
 refine⟨fun i m σ H=>m=l.length - i∧i≤l.length∧Pv i σ H,⟨l.length,by simp,Nat.zero_le _,h0⟩,?_⟩
 rintro i m σ H ⟨rfl,hi,p⟩
 have sz:(tx l).cps.size=l.length:=by simp [tx]
 by_cases hlt:i<l.length
 ·refine .inr ⟨by show i<(tx l).cps.size; lia,Pv (i+1),fun σ' H' p'=>⟨l.length - (i+1),by lia,rfl,hlt,p'⟩,fun x H' y=>?_⟩
  obtain⟨e,c,hc,rfl⟩:=y
  subst e
  exact hs i c σ _ (by simpa [tx] using hc) p
 ·have e:i=l.length:=by lia
  subst e
  exact .inl ⟨by show (tx l).cps.size≤l.length; lia,hd σ H p⟩
theorem eq_items {pins:List (Addr×Obj)}{σ:Sg}{H:Hp}{s:Shared} (I:Inv X pins σ H s) {ts us:List T}{xs ys:List V}{its its2:List Value} (q2:TRs X.K H ts xs) (r2:TRs X.K H us ys) (rv:Vals xs its) (rv2:Vals ys its2) {n:Nat}{A:Around}
  (hd:T.deepL ts≤n+1) (hu:A.units+n<cLine):∀ j (h1:j<its.toArray.size) (h2:j<its2.toArray.size),SeqAt.EqAt A s its.toArray[j] its2.toArray[j] (eqsAt ts us j):=by
 intro j j1 j2
 have l1:=rv.length
 have l2:=rv2.length
 have j1':j<xs.length:=by rw [l1]; simpa using j1
 have j2':j<ys.length:=by rw [l2]; simpa using j2
 obtain⟨u1,hu1,ru1⟩:=rv.get (List.getElem?_eq_getElem j1')
 obtain⟨u2,hu2,ru2⟩:=rv2.get (List.getElem?_eq_getElem j2')
 obtain⟨t1,ht1,tr1⟩:=q2.get (List.getElem?_eq_getElem j1')
 obtain⟨t2,ht2',tr2⟩:=r2.get (List.getElem?_eq_getElem j2')
 have ee:eqsAt ts us j=T.beq t1 t2:=by unfold eqsAt; rw [ht1,ht2']
 have g1:its.toArray[j]=u1:=by
  have:its[j]?=some u1:=hu1
  rw [List.getElem?_eq_some_iff] at this
  obtain⟨_,e⟩:=this
  simpa using e
 have g2:its2.toArray[j]=u2:=by
  have:its2[j]?=some u2:=hu2
  rw [List.getElem?_eq_some_iff] at this
  obtain⟨_,e⟩:=this
  simpa using e
 rw [ee,g1,g2]
 obtain⟨a1,zs1,e1,_⟩:=TR_of tr1
 obtain⟨a2,zs2,e2,_⟩:=TR_of tr2
 rw [e1] at ru1 tr1
 rw [e2] at ru2 tr2
 obtain rfl:u1=Value.ref a1:=ru1
 obtain rfl:u2=Value.ref a2:=ru2
 by_cases hne:a1=a2
 ·subst hne
  have et:t1=t2:=(tr_inj I t1.parts).1 t1 t2 _ (Nat.le_refl _) tr1 tr2
  rw [et,T.beq_self]
  exact SeqAt.EqAt.same _
 ·have hd1:t1.deep≤n:=by
   have:=T.mem_deep (List.mem_of_getElem? ht1)
   lia
  exact SeqAt.EqAt.of_refs hne (rc_tree I n t1 t2 A a1 a2 hd1 tr1 tr2 hu)
def rNeTr (K:PySem.W.Frag) (n:Nat):R2:=fun x y H Q=>∃ t u,TR K H t x∧TR K H u y∧t.deep≤n∧Q (.bl (!T.beq t u)) H
theorem op_neTr {n:Nat} (hu:X.A.units+n+1<cLine):OpR X (compareOp .NotEq) (rNeTr X.K n):=by
 intro pins s σ H x y v u Q I rx ry h
 obtain⟨t,t',h1,h2,hd,q⟩:=h
 cases t with
 | node ts =>
  cases t' with
  | node us =>
   obtain⟨a,xs,rfl,q1,q2⟩:=TR_node.mp h1
   obtain⟨b,ys,rfl,r1,r2⟩:=TR_node.mp h2
   cases rx
   cases ry
   rw [T.deep_node] at hd
   obtain⟨its,rv,ht,_⟩:=I.tuple q1
   obtain⟨its2,rv2,ht2,_⟩:=I.tuple r1
   have key:=SeqAt.RcNeAt.tuples (A:=X.A) (e:=eqsAt ts us) ht ht2 (by lia) (eq_items I q2 r2 rv rv2 (n:=n) (by lia) (by rw [Around.in1_units]; lia))
   have ev:((List.range (min its.toArray.size its2.toArray.size)).all (eqsAt ts us) && its.toArray.size == its2.toArray.size)=T.beq (.node ts) (.node us):=by
    rw [List.size_toArray,List.size_toArray,← rv.length,← rv2.length,q2.length,r2.length,T.beq,← beqL_range]
   rw [ev] at key
   exact key _ _ _ _ ⟨.bl _,H,I,rfl,q⟩
end
end Sw
namespace Sw
namespace T
mutual
def wr:T→List Nat | .node ts=>40::(wrL ts++[41])
def wrL:List T→List Nat
 | []=>[]
 | t::ts=>wr t++wrL ts
end
theorem wr_node (ts:List T):wr (.node ts)=40::(wrL ts++[41]):=by rw [wr]
theorem wrL_nil:wrL []=[]:=by rw [wrL]
theorem wrL_cons (t:T) (ts:List T):wrL (t::ts)=wr t++wrL ts:=by rw [wrL]
theorem wr_kids (t:T):wr t=40::(wrL t.kids++[41]):=by cases t; rw [wr_node]; rfl
mutual
theorem wr_len:∀ t:T,(wr t).length=2 * t.parts
 | .node ts=>by
  rw [wr_node,parts_node,List.length_cons,List.length_append,wrL_len ts,List.length_singleton]
  lia
theorem wrL_len:∀ ts:List T,(wrL ts).length=2 * partsL ts
 | []=>by rw [wrL_nil,partsL_nil]; rfl
 | t::ts=>by
  rw [wrL_cons,partsL_cons,List.length_append,wr_len t,wrL_len ts]
  lia
end
theorem wrL_flat (ts:List T):(ts.map wr).flatten=wrL ts:=by
 induction ts with
 | nil=>rw [wrL_nil]; rfl
 | cons t ts ih=>rw [List.map_cons,List.flatten_cons,ih,wrL_cons]
def rd1:List (List T)→Nat→Option (List (List T))
 | r::rs,c=>if c=40 then some ([]::r::rs) else if c=41 then (match rs with | r'::rs'=>some ((r'++[.node r])::rs') | []=>none) else none
 | [],_=>none
def rd:List (List T)→List Nat→Option (List (List T))
 | st,[]=>some st
 | st,c::l=>(rd1 st c).bind fun st'=>rd st' l
theorem rd_cons (st:List (List T)) (c:Nat) (l:List Nat):rd st (c::l)=(rd1 st c).bind fun st'=>rd st' l:=rfl
theorem rd_append:∀ (a b:List Nat) (st:List (List T)),rd st (a++b)=(rd st a).bind fun st'=>rd st' b
 | [],b,st=>rfl
 | c::a,b,st=>by
  rw [List.cons_append,rd_cons,rd_cons]
  cases rd1 st c with
  | none=>rfl
  | some st'=>exact rd_append a b st'
theorem rd1_open (r:List T) (rs:List (List T)):rd1 (r::rs) 40=some ([]::r::rs):=rfl
theorem rd1_shut (r r':List T) (rs:List (List T)):rd1 (r::r'::rs) 41=some ((r'++[.node r])::rs):=rfl
mutual
theorem rd_wr:∀ (t:T) (r:List T) (rs:List (List T)) (l:List Nat),rd (r::rs) (wr t++l)=rd ((r++[t])::rs) l
 | .node ts,r,rs,l=>by
  rw [wr_node,List.cons_append,rd_cons,rd1_open,Option.bind_some,List.append_assoc,rd_wrL ts [] (r::rs) ([41]++l),List.nil_append,List.singleton_append,rd_cons,rd1_shut,Option.bind_some]
theorem rd_wrL:∀ (ts:List T) (r:List T) (rs:List (List T)) (l:List Nat),rd (r::rs) (wrL ts++l)=rd ((r++ts)::rs) l
 | [],r,rs,l=>by rw [wrL_nil,List.nil_append,List.append_nil]
 | t::ts,r,rs,l=>by
  rw [wrL_cons,List.append_assoc,rd_wr t r rs,rd_wrL ts (r++[t]) rs l,List.append_assoc,List.singleton_append]
end
theorem rd_whole (t:T):rd [[]] (wr t)=some [[t]]:=by
 have:=rd_wr t [] [] []
 rw [List.append_nil] at this
 rw [this]
 rfl
theorem rd_take {l:List Nat}{st st':List (List T)}{i c:Nat} (hl:rd [[]] l=some st') (hi:rd [[]] (l.take i)=some st) (hc:l[i]?=some c) :
  ∃ st2,rd1 st c=some st2∧rd [[]] (l.take (i+1))=some st2:=by
 have hlt:i<l.length:=(List.getElem?_eq_some_iff.mp hc).1
 have e1:l.take (i+1)=l.take i++[c]:=by rw [List.take_add_one,hc]; rfl
 have e2:l=l.take (i+1)++l.drop (i+1):=(List.take_append_drop _ _).symm
 have h3:rd [[]] (l.take (i+1))=rd1 st c:=by
  rw [e1,rd_append,hi,Option.bind_some,rd_cons]
  cases rd1 st c <;> rfl
 cases h:rd1 st c with
 | some st2=>exact⟨st2,rfl,by rw [h3,h]⟩
 | none =>
  rw [h] at h3
  rw [e2,rd_append,h3] at hl
  cases hl
theorem rd1_cases {st st2:List (List T)}{c:Nat} (h:rd1 st c=some st2) :
  (c=40∧∃ r rs,st=r::rs∧st2=[]::r::rs)∨(c=41∧∃ r r' rs,st=r::r'::rs∧st2=(r'++[.node r])::rs):=by
 cases st with
 | nil=>cases h
 | cons r rs =>
  unfold rd1 at h
  dsimp only at h
  by_cases h1:c=40
  ·rw [if_pos h1] at h
   exact .inl ⟨h1,r,rs,rfl,(Option.some.inj h).symm⟩
  ·rw [if_neg h1] at h
   by_cases h2:c=41
   ·rw [if_pos h2] at h
    cases rs with
    | nil=>cases h
    | cons r' rs=>exact .inr ⟨h2,r,r',rs,rfl,(Option.some.inj h).symm⟩
   ·rw [if_neg h2] at h
    cases h
def outO:Option T→List Nat
 | none=>[41]
 | some t=>wr t
def out (os:List (Option T)):List Nat:=(os.reverse.map outO).flatten
theorem out_nil:out []=[]:=rfl
theorem out_append (a b:List (Option T)):out (a++b)=out b++out a:=by
 unfold out
 rw [List.reverse_append,List.map_append,List.flatten_append]
theorem out_one (o:Option T):out [o]=outO o:=by simp [out]
theorem out_kids (ts:List T):out (ts.reverse.map some)=wrL ts:=by
 unfold out
 rw [← List.map_reverse,List.reverse_reverse,List.map_map,← wrL_flat]
 rfl
theorem outO_pos (o:Option T):1≤(outO o).length:=by
 cases o with
 | none=>exact Nat.le_refl _
 | some t =>
  show 1≤(wr t).length
  rw [wr_kids]
  simp
theorem out_len (os:List (Option T)):os.length≤(out os).length:=by
 induction os with
 | nil=>exact Nat.zero_le _
 | cons o os ih =>
  have:out (o::os)=out os++outO o:=by rw [← List.singleton_append,out_append,out_one]
  rw [this,List.length_append,List.length_cons]
  have:=outO_pos o
  lia
end T
end Sw
namespace Sw
namespace T
end T
end Sw
namespace Sw
open PySem PySem.Spec PyProof.Rows L2
end Sw
namespace Sw
open PySem PySem.Spec PyProof.Rows L2
section
variable {P:Program}{w:World}{K:PySem.W.Frag}{mg:Str→Option Value}{base:Heap}{N:List Str}{qual:Str}{scope:Scope}{f:Addr}{cd:Value}{A:Around}{outer:List Env}{s₀:Shared}{H₀:Hp}{E:XK}
end
section
variable {X:Cx}{pins:List (Addr×Obj)}{σ:Sg}{H:Hp}{s:Shared}
end
end Sw
namespace Sw
open PySem PySem.Spec PyProof.Rows L2
def cutL (l:List Nat) (lo hi:Option Int):List Nat:=(l.drop (HT.sIx l.length 0 lo)).take (HT.sIx l.length l.length hi - HT.sIx l.length 0 lo)
theorem cutL_len (l:List Nat) (lo hi:Option Int):(cutL l lo hi).length≤l.length:=by
 unfold cutL
 rw [List.length_take,List.length_drop]
 lia
theorem idx_eq (lo hi:Option Int) (n:Nat):Builtin.Str.strSliceIndices lo hi 1 n=(List.range (HT.sIx n n hi - HT.sIx n 0 lo)).map (fun k=>HT.sIx n 0 lo+k):=by
 obtain⟨e1,e2,e3⟩:=slice_bounds lo hi n
 have e:Builtin.Str.strSliceIndices lo hi 1 n=sliceRange (sliceBounds lo hi none n).1 (sliceBounds lo hi none n).2.1 1:=rfl
 rw [e,e1,e2]
 generalize HT.sIx n 0 lo=a
 generalize HT.sIx n n hi=b
 have e4:(if (a:Int)<b then ((b:Int) - a+1 - 1) / 1 else 0).toNat=b - a:=by
  split
  ·simp
  ·lia
 show List.map _ (List.range (if (a:Int)<b then ((b:Int) - a+1 - 1) / 1 else 0).toNat)=_
 rw [e4]
 refine List.map_congr_left fun k _=>?_
 lia
theorem pick_eq (l:List Nat) (lo hi:Option Int):(Builtin.Str.strSliceIndices lo hi 1 (tx l).length).filterMap ((tx l).cps[·]?)=cutL l lo hi:=by
 have hl:(tx l).length=l.length:=tx_len l
 rw [hl,idx_eq]
 unfold cutL
 have h2:=HT.sIx_le l.length l.length (Nat.le_refl _) hi
 generalize HT.sIx l.length 0 lo=a
 generalize HT.sIx l.length l.length hi=b at h2
 have key:∀ n,a+n≤l.length∨n=0→((List.range n).map fun k=>a+k).filterMap ((tx l).cps[·]?)=(l.drop a).take n:=by
  intro n
  induction n with
  | zero=>intro _; simp
  | succ n ih =>
   intro h
   have h':a+n<l.length:=by lia
   rw [List.range_succ,List.map_append,List.filterMap_append,ih (by lia),List.take_add_one,List.getElem?_drop]
   congr 1
   simp [tx,h']
 exact key (b - a) (by lia)
theorem get_strSlice {prog:Program}{w:World}{A:Around}{E:Value→Shared→Prop}{s:Shared}{l:List Nat}{t:Tok}{sl:Addr}{vl vu:Value}{lo hi:Option Int}{Q:Value→Shared→Prop}
  (hs:s.heap.IsSliceOf sl vl vu .none) (pl:IsPart vl lo) (pu:IsPart vu hi) (hz:l.length≤sizeLine) (h:∀ t' k,Q (.str (tx (cutL l lo hi)) t') { s with toks:=k }):wpAny (model prog w) A (getItem (.str (tx l) t) (.ref sl)) Q E s:=by
 have hT:=typeIs_str s (tx l) t
 obtain⟨pl',el,fl⟩:∃ p:Option (Int×Tok),partValue p=vl∧p.map (·.1)=lo:=by
  cases pl with
  | none=>exact⟨none,rfl,rfl⟩
  | int i t=>exact⟨some (i,t),rfl,rfl⟩
 obtain⟨pu',eu,fu⟩:∃ p:Option (Int×Tok),partValue p=vu∧p.map (·.1)=hi:=by
  cases pu with
  | none=>exact⟨none,rfl,rfl⟩
  | int i t=>exact⟨some (i,t),rfl,rfl⟩
 have hs':s.heap.IsSlice sl pl' pu' none:=by
  obtain⟨o,h1,h2,h3⟩:=hs
  exact⟨o,h1,h2,by rw [el,eu]; exact h3⟩
 have ep:slicePicked (tx l) pl' pu' none=Builtin.Str.strSliceIndices lo hi 1 (tx l).length:=by
  unfold slicePicked
  rw [fl,fu]
  rfl
 have m:=meets_str_getitem_slice (tx l) t sl pl' pu' none rfl
 unfold getItem
 try with_reducible refine wpAny_holding ?_
 first | refine wpAny_bind (wpAny_pure ?_) | skip
 refine wpAny_bind (wpAny_callSpecial?_slot (name:=Str.ofString "__getitem__") hT PyProof.Rows.slot_str_getitem ?_)
 refine call_meets PyProof.Rows.slot_str_getitem hT PyProof.Rows.entry_str_getitem (PyProof.Rows.args_str_getitem _ _) m ⟨hs',?_⟩
 unfold sliceMade
 rw [ep]
 split
 ·rename_i hc
  have hlen:(Builtin.Str.strSliceIndices lo hi 1 (tx l).length).length=l.length:=by
   simp at hc
   rw [hc]
   exact tx_len l
  have ecut:cutL l lo hi=l:=by
   have h2:=HT.sIx_le l.length l.length (Nat.le_refl _) hi
   rw [tx_len,idx_eq,List.length_map,List.length_range] at hlen
   unfold cutL
   by_cases h0:l.length=0
   ·have:l=[]:=List.length_eq_zero_iff.mp h0
    subst this
    simp
   ·have e0:HT.sIx l.length 0 lo=0:=by lia
    rw [e0,List.drop_zero,List.take_of_length_le (by lia)]
  have:=h t s.toks
  rw [ecut] at this
  exact wpAny_pure this
 ·rw [pick_eq]
  refine⟨?_,?_⟩
  ·show (tx (cutL l lo hi)).length≤sizeLine
   rw [tx_len]
   exact Nat.le_trans (cutL_len l lo hi) hz
  ·exact wpAny_pure (h _ _)
def rSlS:V→Option Int→Option Int→Hp→VK→Prop:=fun x lo hi H Q=>∃ l,x=.str (tx l)∧l.length≤sizeLine∧Q (.str (tx (cutL l lo hi))) H
theorem sl_str {X:Cx}:SlR X rSlS:=by
 intro pins s σ H x v vl vu lo hi sl Q I rx hs pl pu h
 obtain⟨l,rfl,hz,q⟩:=h
 obtain⟨t,rfl⟩:=rx
 exact⟨"str",_,PyProof.Rows.slot_str_getitem.lookup,typeIs_str _ _ _,get_strSlice hs pl pu hz fun t' k=>⟨.str _,H,I.tok _,⟨_,rfl⟩,q⟩⟩
end Sw
namespace Sw
open PySem PySem.Spec PyProof.Rows L2
section
variable {K:PySem.W.Frag}{C a:Addr}{prog:Program}{w:World}{A:Around}
end
end Sw
namespace Sw
open PySem PySem.Spec PyProof.Rows L2
structure QE (X:Cx) (e:Expr) (t:TE):Prop where
 run:PE X e t
structure QT (X:Cx) (e:Expr) (t:TT):Prop where
 run:PT X e t
structure QW (X:Cx) (e:Expr) (t:TT):Prop where
 run:PW X e t
structure QA (X:Cx) (es:List Expr) (t:TA):Prop where
 run:PA X es t
structure QS (X:Cx) (st:Stmt) (t:TS):Prop where
 run:PS X st t
structure QSs (X:Cx) (st:List Stmt) (t:TS):Prop where
 run:PSs X st t
structure QI (X:Cx) (tg iter:Expr) (wi:TI):Prop where
 run:PI X tg iter wi
structure QG (X:Cx) (tg:Expr) (t:TG):Prop where
 run:PG X tg t
structure QO (X:Cx) (o:Option Expr) (t:TO):Prop where
 run:PO X o t
theorem QW.pt {X:Cx}{e:Expr}{t:TT} (h:QW X e t):QT X e t:=⟨h.run.pt⟩
theorem qv {X:Cx} (i:Nat) {x:Str}{pos:Pos} (hN:X.N[i]?=some x:=by rfl) (hv:Vis X.env.scope x:=by first | exact Or.inl rfl | exact Or.inr (Or.inl rfl) | exact Or.inr (Or.inr rfl)) (hd:(x == ("__debug__":Str))=false:=by decide) (hcd:(x == ("__classdict__":Str))=false:=by decide):QE X (.Name x pos) (tVar i):=⟨L2.pv (i:=i) (hN:=hN) (hv:=hv) (hd:=hd) (hcd:=hcd)⟩
theorem qe_int {X:Cx}{i j pos}:QE X (.Constant (.int i) j pos) (tC (.int i)):=⟨L2.pe_int⟩
theorem qe_bl {X:Cx}{b j pos}:QE X (.Constant (.bool b) j pos) (tC (.bl b)):=⟨L2.pe_bl⟩
theorem qe_non {X:Cx}{j pos}:QE X (.Constant .none j pos) (tC .non):=⟨L2.pe_non⟩
theorem qe_str {X:Cx}{x j pos}:QE X (.Constant (.str x) j pos) (tC (.str x)):=⟨L2.pe_str⟩
theorem qe_bltn {X:Cx}{x:Str}{v:V}{u:Value}{pos:Pos} (hg:Gl X x) (hm:X.mg x=none) (hv:bootBuiltins x=some u) (r:RelV v u) (hn:x≠"__name__":=by decide) (hd:(x == ("__debug__":Str))=false:=by decide):QE X (.Name x pos) (tC v):=⟨L2.pe_bltn (hg:=hg) (hm:=hm) (hv:=hv) (r:=r) (hn:=hn) (hd:=hd)⟩
theorem qe_glob {X:Cx}{x:Str}{v:V}{u:Value}{pos:Pos} (hg:Gl X x) (hm:X.mg x=some u) (r:RelV v u) (hd:(x == ("__debug__":Str))=false:=by decide):QE X (.Name x pos) (tC v):=⟨L2.pe_glob (hg:=hg) (hm:=hm) (r:=r) (hd:=hd)⟩
theorem qe_op {X:Cx}{a b:Expr}{ta tb:TE}{pos:Pos}{op:Operator}{r:R2} (ho:OpR X (binaryOp op) r) (ha:QE X a ta) (hb:QE X b tb):QE X (.BinOp a op b pos) (tOp r ta tb):=⟨L2.pe_op (ho:=ho) (ha:=ha.run) (hb:=hb.run)⟩
theorem qe_un {X:Cx}{a:Expr}{ta:TE}{pos:Pos}{op:UnaryOp}{r:V→Hp→VK→Prop} (ho:UnR X (unaryOp op) r) (ha:QE X a ta):QE X (.UnaryOp op a pos) (tUn r ta):=⟨L2.pe_un (ho:=ho) (ha:=ha.run)⟩
theorem qe_not {X:Cx}{a:Expr}{ta:TE}{pos:Pos} (ha:QE X a ta):QE X (.UnaryOp .Not a pos) (tNotV ta):=⟨L2.pe_not (ha:=ha.run)⟩
theorem qe_cmpR {X:Cx}{a b:Expr}{ta tb:TE}{pos:Pos}{op:CmpOp}{r:R2} (ho:OpR X (compareOp op) r) (ha:QE X a ta) (hb:QE X b tb) (hm:behindInMarks op b=false):QE X (.Compare a [op] [b] pos) (tOp r ta tb):=⟨L2.pe_cmpR (ho:=ho) (ha:=ha.run) (hb:=hb.run) (hm:=hm)⟩
theorem qe_and {X:Cx}{a b:Expr}{ta tb:TE}{pos:Pos}{rest:List Expr} (ha:QE X a ta) (hb:QE X (.BoolOp .And (b::rest) pos) tb):QE X (.BoolOp .And (a::b::rest) pos) (tAndV ta tb):=⟨L2.pe_and (ha:=ha.run) (hb:=hb.run)⟩
theorem qe_or {X:Cx}{a b:Expr}{ta tb:TE}{pos:Pos}{rest:List Expr} (ha:QE X a ta) (hb:QE X (.BoolOp .Or (b::rest) pos) tb):QE X (.BoolOp .Or (a::b::rest) pos) (tOrV ta tb):=⟨L2.pe_or (ha:=ha.run) (hb:=hb.run)⟩
theorem qe_one {X:Cx}{a:Expr}{pos:Pos}{op}{t:TE} (h:QE X a t):QE X (.BoolOp op [a] pos) t:=⟨L2.pe_one (h:=h.run)⟩
theorem qe_lst {X:Cx}{es:List Expr}{t:TA}{pos:Pos} (h:QA X es t):QE X (.List es pos) (tLst t):=⟨L2.pe_lst (h:=h.run)⟩
theorem qe_tup {X:Cx}{es:List Expr}{t:TA}{pos:Pos}{x1} (h:QA X es t):QE X (.Tuple es x1 pos) (tTup t):=⟨L2.pe_tup (h:=h.run)⟩
theorem qe_ifExp {X:Cx}{a b:Expr}{ta tb:TE}{pos:Pos}{tA:TT}{c:Expr} (hc:QT X c tA) (ha:QE X a ta) (hb:QE X b tb):QE X (.IfExp c a b pos) (tIf tA ta tb):=⟨L2.pe_ifExp (hc:=hc.run) (ha:=ha.run) (hb:=hb.run)⟩
theorem qe_slice {X:Cx}{e:Expr}{te:TE}{lo hi:Option Expr}{tl th:TO}{pos p2:Pos}{r:V→Option Int→Option Int→Hp→VK→Prop} (hr:SlR X r) (he:QE X e te) (hl:QO X lo tl) (hu:QO X hi th):QE X (.Subscript e (.Slice lo hi none p2) pos) (tSl r te tl th):=⟨L2.pe_slice (hr:=hr) (he:=he.run) (hl:=hl.run) (hu:=hu.run)⟩
theorem qe_ix {X:Cx}{a b:Expr}{ta tb:TE}{pos:Pos}{r:R2} (hr:IxR X r) (ha:QE X a ta) (hb:QE X b tb) (hs:PlainIx b):QE X (.Subscript a b pos) (tOp r ta tb):=⟨L2.pe_ix (hr:=hr) (ha:=ha.run) (hb:=hb.run) (hs:=hs)⟩
theorem qe_lc {X:Cx}{scope:Scope}{cl:List (Str×Addr)}{x:Str}{fr:List Str}{js:List Nat}{elt iter:Expr}{px pos:Pos}{wi:TI}{te:TE} (hc:X.calm=true) (L:LcOk X scope x fr js cl) (hi:QI X (.Name x px) iter wi) (he:∀ C s H fp pins,QE (blk X scope cl C (x::fr) s H fp pins) elt te) (hs:∀ v,foldedSetIterable iter X.env v=pure v:=by intro _; rfl):QE X (.ListComp elt [⟨.Name x px,iter,[],0⟩] scope pos) (tLC wi js te):=⟨Sw.pe_lc (hc:=hc) (L:=L) (hi:=hi.run) (he:=fun C s H fp pins=>(he C s H fp pins).run) (hs:=hs)⟩
theorem qe_call {X:Cx}{CX:CXT}{k:Nat}{f:Addr}{fd:FuncData}{ps:List Str}{sp:Sp}{dvs:List V}{ds:List Value}{E:XK}{x:Str}{p pos:Pos}{e:Expr}{es:List Expr}{t:TA} (F:FnOk X.prog X.w X.K X.mg X.base CX k f fd ps sp) (hr:Room k X.A) (hg:Gl X x) (hm:X.mg x=some (.ref f)) (hk:PySem.W.keepIn X.K (.ref f)=true) (hb:Binds X.K fd ps ds) (hd:Vals dvs ds) (hx:Passes CX X E) (ha:QA X (e::es) t) (hdb:(x == ("__debug__":Str))=false:=by decide) (he:starEach (e::es) X.env=(false,eval e X.env)::starEach es X.env:=by rfl) (hpl:(backTo pos (starEach es X.env)).any (·.1)=false:=by rfl):QE X (.Call (.Name x p) (e::es) [] pos) (tCall sp dvs E t):=⟨L2.pe_call (F:=F) (hr:=hr) (hg:=hg) (hm:=hm) (hk:=hk) (hb:=hb) (hd:=hd) (hx:=hx) (ha:=ha.run) (hdb:=hdb) (he:=he) (hpl:=hpl)⟩
theorem qe_call0 {X:Cx}{CX:CXT}{k:Nat}{f:Addr}{fd:FuncData}{ps:List Str}{sp:Sp}{dvs:List V}{ds:List Value}{E:XK}{x:Str}{p pos:Pos} (F:FnOk X.prog X.w X.K X.mg X.base CX k f fd ps sp) (hr:Room k X.A) (hg:Gl X x) (hm:X.mg x=some (.ref f)) (hk:PySem.W.keepIn X.K (.ref f)=true) (hb:Binds X.K fd ps ds) (hd:Vals dvs ds) (hx:Passes CX X E) (hdb:(x == ("__debug__":Str))=false:=by decide):QE X (.Call (.Name x p) [] [] pos) (tCall sp dvs E tNil):=⟨L2.pe_call0 (F:=F) (hr:=hr) (hg:=hg) (hm:=hm) (hk:=hk) (hb:=hb) (hd:=hd) (hx:=hx) (hdb:=hdb)⟩
theorem qe_callTy {X:Cx}{x:Str}{p pos:Pos}{e:Expr}{es:List Expr}{t:TA}{T:String}{r:List V→Hp→VK→Prop} (hc:CallR X (.type T) r) (hg:Gl X x) (hm:X.mg x=none) (hv:bootBuiltins x=some (.type T)) (ha:QA X (e::es) t) (hn:x≠"__name__":=by decide) (hdb:(x == ("__debug__":Str))=false:=by decide) (he:starEach (e::es) X.env=(false,eval e X.env)::starEach es X.env:=by rfl) (hpl:(backTo pos (starEach es X.env)).any (·.1)=false:=by rfl):QE X (.Call (.Name x p) (e::es) [] pos) (tCB r t):=⟨L2.pe_callTy (hc:=hc) (hg:=hg) (hm:=hm) (hv:=hv) (ha:=ha.run) (hn:=hn) (hdb:=hdb) (he:=he) (hpl:=hpl)⟩
theorem qe_callB {X:Cx}{x:Str}{p pos:Pos}{e:Expr}{es:List Expr}{t:TA}{id:String}{r:List V→Hp→VK→Prop} (hc:CallR X (.builtin id) r) (hg:Gl X x) (hm:X.mg x=none) (hv:bootBuiltins x=some (.builtin id)) (ha:QA X (e::es) t) (hn:x≠"__name__":=by decide) (hdb:(x == ("__debug__":Str))=false:=by decide) (he:starEach (e::es) X.env=(false,eval e X.env)::starEach es X.env:=by rfl) (hpl:(backTo pos (starEach es X.env)).any (·.1)=false:=by rfl):QE X (.Call (.Name x p) (e::es) [] pos) (tCB r t):=⟨L2.pe_callB (hc:=hc) (hg:=hg) (hm:=hm) (hv:=hv) (ha:=ha.run) (hn:=hn) (hdb:=hdb) (he:=he) (hpl:=hpl)⟩
theorem qe_bm {X:Cx}{o e:Expr}{es:List Expr}{to:TE}{t:TA}{name:Str}{apos cpos:Pos}{T id:String}{r:V→List V→Hp→VK→Prop} (pa:PlainAttrs T) (slot:Slot T name id) (hty:typeOf (.builtin id)=pure (.type "method_descriptor")) (hm:MtR X id r) (ho:QE X o to) (ha:QA X (e::es) t) (hbase:attributeBase o name X.env (eval o X.env)=eval o X.env:=by rfl) (hfew:((backTo cpos (starEach (e::es) X.env)).all (fun x=>!x.1) && (backToKw cpos (keywordEach [] X.env)).all (fun x=>x.1.isSome)
   && decide ((e::es).length+([]:List Keyword).length+(if ([]:List Keyword).isEmpty then 0 else 1)<30))=true:=by rfl) (hline:(apos.endLine == cpos.line)=true:=by rfl) (hs:starEach (e::es) X.env=(false,eval e X.env)::starEach es X.env:=by rfl) (hplain:(backTo cpos (starEach es X.env)).any (·.1)=false:=by rfl):QE X (.Call (.Attribute o name apos) (e::es) [] cpos) (tBM X.K T r to t):=⟨L2.pe_bm (pa:=pa) (slot:=slot) (hty:=hty) (hm:=hm) (ho:=ho.run) (ha:=ha.run) (hbase:=hbase) (hfew:=hfew) (hline:=hline) (hs:=hs) (hplain:=hplain)⟩
theorem qe_bm0 {X:Cx}{o:Expr}{to:TE}{name:Str}{apos cpos:Pos}{T id:String}{r:V→List V→Hp→VK→Prop} (pa:PlainAttrs T) (slot:Slot T name id) (hty:typeOf (.builtin id)=pure (.type "method_descriptor")) (hm:MtR X id r) (ho:QE X o to) (hbase:attributeBase o name X.env (eval o X.env)=eval o X.env:=by rfl) (hline:(apos.endLine == cpos.line)=true:=by rfl):QE X (.Call (.Attribute o name apos) [] [] cpos) (tBM0 X.K T r to):=⟨L2.pe_bm0 (pa:=pa) (slot:=slot) (hty:=hty) (hm:=hm) (ho:=ho.run) (hbase:=hbase) (hline:=hline)⟩
theorem qe_listRev {X:Cx}{e:Expr}{te:TE}{p1 p2 pos pos2:Pos} (hgl:Gl X "list") (hgr:Gl X "reversed") (ml:X.mg "list"=none) (mr:X.mg "reversed"=none) (hc:X.calm=true) (he:QE X e te) (hs1:starEach [.Call (.Name "reversed" p2) [e] [] pos2] X.env=[(false,eval (.Call (.Name "reversed" p2) [e] [] pos2) X.env)]:=by rfl) (hs2:starEach [e] X.env=[(false,eval e X.env)]:=by rfl):QE X (.Call (.Name "list" p1) [.Call (.Name "reversed" p2) [e] [] pos2] [] pos) (SwR.tLR X.K te):=⟨SwR.pe_listRev (hgl:=hgl) (hgr:=hgr) (ml:=ml) (mr:=mr) (hc:=hc) (he:=he.run) (hs1:=hs1) (hs2:=hs2)⟩
theorem qe_chain {X:Cx}{a b c:Expr}{ta tb tc:TE}{pos:Pos}{op op':CmpOp}{r r':R2} (ho:OpR X (compareOp op) r) (ho':OpR X (compareOp op') r') (ha:QE X a ta) (hb:QE X b tb) (hc:QE X c tc) (hm:lastMarks [op,op'] [b,c]=false:=by with_unfolding_all rfl):QE X (.Compare a [op,op'] [b,c] pos) (tChain r r' ta tb tc):=⟨L2.pe_chain (ho:=ho) (ho':=ho') (ha:=ha.run) (hb:=hb.run) (hc:=hc.run) (hm:=hm)⟩
theorem qt_val {X:Cx}{e:Expr}{t:TE} (h:QE X e t) (he:∀ whole,isTrue e X.env whole=(do let v ← whole; standAt e.pos; holding [v] (truthy v)):=by intro _; rfl):QT X e (tB t):=⟨L2.pt_val (h:=h.run) (he:=he)⟩
theorem qt_truth {X:Cx}{a:Expr}{ta:TE} (ha:QE X a ta) (he:∀ whole,isTrue a X.env whole=(do let v ← whole; standAt a.pos; holding [v] (truthy v))):QT X a (fun σ H Q=>ta σ H fun x H'=>∃ k,TruV X.K x H' k∧Q k H'):=⟨L2.pt_truth (ha:=ha.run) (he:=he)⟩
theorem qt_cmpR {X:Cx}{a b:Expr}{ta tb:TE}{pos:Pos}{op:CmpOp}{r:R2} (ho:OpR X (compareOp op) r) (ha:QE X a ta) (hb:QE X b tb) (hm:behindInMarks op b=false):QT X (.Compare a [op] [b] pos) (tTest (tOp r ta tb)):=⟨L2.pt_cmpR (ho:=ho) (ha:=ha.run) (hb:=hb.run) (hm:=hm)⟩
theorem qt_not {X:Cx}{a:Expr}{pos:Pos}{tA:TT} (ha:QT X a tA):QT X (.UnaryOp .Not a pos) (tNot tA):=⟨L2.pt_not (ha:=ha.run)⟩
theorem qw_and {X:Cx}{a b:Expr}{pos:Pos}{tA tB':TT}{rest:List Expr} (ha:QT X a tA) (hb:QW X (.BoolOp .And (b::rest) pos) tB'):QW X (.BoolOp .And (a::b::rest) pos) (tAnd tA tB'):=⟨L2.pw_and (ha:=ha.run) (hb:=hb.run)⟩
theorem qw_and1 {X:Cx}{a:Expr}{pos:Pos}{tA:TT} (ha:QT X a tA):QW X (.BoolOp .And [a] pos) tA:=⟨L2.pw_and1 (ha:=ha.run)⟩
theorem qw_or {X:Cx}{a b:Expr}{pos:Pos}{tA tB':TT}{rest:List Expr} (ha:QT X a tA) (hb:QW X (.BoolOp .Or (b::rest) pos) tB'):QW X (.BoolOp .Or (a::b::rest) pos) (tOr tA tB'):=⟨L2.pw_or (ha:=ha.run) (hb:=hb.run)⟩
theorem qw_or1 {X:Cx}{a:Expr}{pos:Pos}{tA:TT} (ha:QT X a tA):QW X (.BoolOp .Or [a] pos) tA:=⟨L2.pw_or1 (ha:=ha.run)⟩
theorem qa_nil {X:Cx}:QA X [] tNil:=⟨L2.pa_nil⟩
theorem qa_cons {X:Cx}{e:Expr}{es:List Expr}{te:TE}{t:TA} (ha:QE X e te) (hr:QA X es t) (hs:starEach (e::es) X.env=(false,eval e X.env)::starEach es X.env:=by rfl):QA X (e::es) (tCons te t):=⟨L2.pa_cons (ha:=ha.run) (hr:=hr.run) (hs:=hs)⟩
theorem qs_ret {X:Cx}{e:Expr}{te:TE}{pos:Pos} (he:QE X e te):QS X (.Return (some e) pos) (tRet te):=⟨L2.ps_ret (he:=he.run)⟩
theorem qs_retN {X:Cx}{pos:Pos}:QS X (.Return none pos) tRetN:=⟨L2.ps_retN⟩
theorem qs_set {X:Cx}{pos:Pos}{i:Nat}{x:Str}{e:Expr}{te:TE}{pos':Pos} (hN:X.N.Nodup) (hi:X.N[i]?=some x) (hx:Loc X.env.scope x) (he:QE X e te) (hs:swapsWith e (some (.Name x pos')) pos.line X.env=pure false:=by rfl) (hf:X.fn x=true∨X.env.scope.names.lookup x=some .local:=by first | exact .inl rfl | exact .inr rfl | assumption):QS X (.Assign [.Name x pos'] e pos) (tAsg te (gName i)):=⟨L2.ps_set (hN:=hN) (hi:=hi) (hx:=hx) (he:=he.run) (hs:=hs) (hf:=hf)⟩
theorem qs_aug {X:Cx}{pos:Pos}{i:Nat}{x:Str}{e:Expr}{te:TE}{op:Operator}{ti:TIp}{pos':Pos} (hN:X.N.Nodup) (hi:X.N[i]?=some x) (hx:Loc X.env.scope x) (he:QE X e te) (ho:PIp X op ti) (hf:X.fn x=true∨X.env.scope.names.lookup x=some .local:=by first | exact .inl rfl | exact .inr rfl | assumption):QS X (.AugAssign (.Name x pos') op e pos) (tAug i te ti):=⟨L2.ps_aug (hN:=hN) (hi:=hi) (hx:=hx) (he:=he.run) (ho:=ho) (hf:=hf)⟩
theorem qs_if {X:Cx}{t u:TS}{pos:Pos}{c:Expr}{a b:List Stmt}{tc:TT} (hc:QT X c tc) (ha:QSs X a t) (hb:QSs X b u):QS X (.If c a b pos) (tIfS tc t u):=⟨L2.ps_if (hc:=hc.run) (ha:=ha.run) (hb:=hb.run)⟩
theorem qs_while {X:Cx}{pos:Pos}{c:Expr}{body:List Stmt}{tc:TT}{tb:TS} (hp:PassesOwn (model X.prog X.w) X.A X.env X.xe) (hc:QT X c tc) (hb:QSs X body tb):QS X (.While c body [] pos) (tWhile tc tb):=⟨L2.ps_while (hp:=hp) (hc:=hc.run) (hb:=hb.run)⟩
theorem qs_for {X:Cx}{tg:Expr}{iter:Expr}{body:List Stmt}{wi:TI}{g:TG}{tb:TS}{pos:Pos} (hp:PassesOwn (model X.prog X.w) X.A X.env X.xe) (hc:X.calm=true) (hi:QI X tg iter wi) (hg:QG X tg g) (hb:QSs X body tb) (hs:∀ x,foldedSetIterable iter X.env x=pure x:=by intro _; rfl):QS X (.For tg iter body [] pos) (tFor wi g tb):=⟨L2.ps_for (hp:=hp) (hc:=hc) (hi:=hi.run) (hg:=hg.run) (hb:=hb.run) (hs:=hs)⟩
theorem qs_expr {X:Cx}{e:Expr}{te:TE}{pos:Pos} (he:QE X e te) (hs:swapsWith e none pos.line X.env=pure false:=by rfl):QS X (.Expr e pos) (tDrop te):=⟨L2.ps_expr (he:=he.run) (hs:=hs)⟩
theorem qs_continue {X:Cx}{pos:Pos}:QS X (.Continue pos) tCont:=⟨L2.ps_continue⟩
theorem qs_pass {X:Cx}{pos:Pos}:QS X (.Pass pos) tNext:=⟨L2.ps_pass⟩
theorem qs_never {X:Cx}{st:Stmt}:QS X st tNever:=⟨L2.ps_never⟩
theorem qs_asg {X:Cx}{pos:Pos}{tg e:Expr}{te:TE}{g:TG} (he:QE X e te) (hg:QG X tg g) (hs:swapsWithSole [tg] e pos.line X.env=pure false:=by rfl) (hw:swappedStores [tg] e X.env=pure none:=by rfl) (h1:(assignEach [tg] X.env).map (·.2)=[assign tg X.env]:=by rfl):QS X (.Assign [tg] e pos) (tAsg te g):=⟨L2.ps_asg (he:=he.run) (hg:=hg.run) (hs:=hs) (hw:=hw) (h1:=h1)⟩
theorem qss_nil {X:Cx}:QSs X [] tNext:=⟨L2.pss_nil⟩
theorem qss_cons {X:Cx}{st:Stmt}{rest:List Stmt}{t u:TS} (h1:QS X st t) (h2:QSs X rest u):QSs X (st::rest) (tSeq t u):=⟨L2.pss_cons (h1:=h1.run) (h2:=h2.run)⟩
theorem qss_one {X:Cx}{st:Stmt}{t:TS} (h1:QS X st t):QSs X [st] t:=⟨L2.pss_one (h1:=h1.run)⟩
theorem qi_range1 {X:Cx}{tg:Expr}{a:Expr}{ta:TA}{p pos:Pos} (hg:Gl X "range") (hm:X.mg "range"=none) (ha:QA X [a] ta) (hs:starEach [a] X.env=[(false,eval a X.env)]:=by rfl):QI X tg (.Call (.Name "range" p) [a] [] pos) (iRng1 ta):=⟨L2.pi_range1 (hg:=hg) (hm:=hm) (ha:=ha.run) (hs:=hs)⟩
theorem qi_list {X:Cx}{tg:Expr}{l:Expr}{tl:TE} (hl:QE X l tl):QI X tg l (iList X.K tl):=⟨L2.pi_list (hl:=hl.run)⟩
theorem qi_tup {X:Cx}{tg:Expr}{l:Expr}{tl:TE} (hl:QE X l tl):QI X tg l (iTup X.K tl):=⟨L2.pi_tup (hl:=hl.run)⟩
theorem qg_name {X:Cx}{pos:Pos}{i:Nat}{x:Str} (hN:X.N.Nodup) (hi:X.N[i]?=some x) (hx:Loc X.env.scope x) (hf:X.fn x=true∨X.env.scope.names.lookup x=some .local:=by first | exact .inl rfl | exact .inr rfl | assumption):QG X (.Name x pos) (gName i):=⟨L2.pg_name (hN:=hN) (hi:=hi) (hx:=hx) (hf:=hf)⟩
theorem qo_none {X:Cx}:QO X none tNoPart:=⟨L2.po_none⟩
theorem qo_some {X:Cx}{e:Expr}{te:TE} (h:QE X e te):QO X (some e) (tPart te):=⟨L2.po_some (h:=h.run)⟩
theorem okQ {P:Program}{w:World}{K:PySem.W.Frag}{mg:Str→Option Value}{base:Heap}{x qual:Str}{st:Stmt}{f:Addr}{fd:FuncData}{N ps:List Str}{k:Nat}{sp:Sp} (F:Fun K x qual st f fd) (S:FnScope N ps (defScope st)) (len:∀ vs H Q E,sp vs H Q E→vs.length=ps.length)
  (hb:∀ (cdv:Value) (A:Around) (outer:List Env) (s:Shared) (H:Hp) (vs:List V) (Q:VK) (E:XK),Room k (A.deeper (envOfC qual (defScope st) s.heap.objs.size f cdv))→sp vs H Q E →
   ∃ t,QSs (cxOf CX0 P w K mg base N qual (defScope st) f cdv A outer s H E).nox (defBody st) t∧t { nx:=fun _ H'=>Q .non H',rt:=Q } (start N vs) H):FnOk P w K mg base CX0 (k+1) f fd ps sp :=
 F.ok S len fun cdv A outer s H vs Q E hr h=>let ⟨t,q,r⟩:=hb cdv A outer s H vs Q E hr h; ⟨t,q.run,r⟩
end Sw
namespace Sw
open PySem PySem.Spec PyProof.Rows L2
theorem bt_len:bootBuiltins "len"=some (.builtin "len"):=by decide +kernel
theorem bt_sum:bootBuiltins "sum"=some (.builtin "sum"):=by decide +kernel
theorem bt_min:bootBuiltins "min"=some (.builtin "min"):=by decide +kernel
theorem bt_isinstance:bootBuiltins "isinstance"=some (.builtin "isinstance"):=by decide +kernel
theorem bt_int:bootBuiltins "int"=some (.type "int"):=by decide +kernel
theorem bt_str:bootBuiltins "str"=some (.type "str"):=by decide +kernel
theorem bt_bool:bootBuiltins "bool"=some (.type "bool"):=by decide +kernel
theorem bt_tuple:bootBuiltins "tuple"=some (.type "tuple"):=by decide +kernel
theorem small {n:Nat} (h:n≤1000000):n≤sizeLine:=Nat.le_trans h (by decide)
theorem smallL {n:Nat} (h:n≤1000000):n<sizeLine:=Nat.lt_of_le_of_lt h (by decide)
theorem last_of {α:Type}{ys:List α} (h:ys≠[]):∃ y,ys[ys.length - 1]?=some y:=by
 have:ys.length - 1<ys.length:=by
  have:=List.length_pos_iff.mpr h
  lia
 exact⟨ys[ys.length - 1],List.getElem?_eq_getElem this⟩
theorem single_flat {α:Type}:∀ l:List α,(l.map fun c=>[c]).flatten=l
 | []=>rfl
 | c::l=>by rw [List.map_cons,List.flatten_cons,single_flat l]; rfl
theorem All2.dropLast {α β:Type}{R:α→β→Prop}{as:List α}{bs:List β} (h:All2 R as bs):All2 R as.dropLast bs.dropLast:=by
 rw [List.dropLast_eq_take,List.dropLast_eq_take,h.length]
 exact h.take _
theorem drop_last {α:Type}{ys:List α}{y:α} (h:ys[ys.length - 1]?=some y):ys=ys.dropLast++[y]:=by
 have hne:ys≠[]:=by rintro rfl; simp at h
 have h2:=List.dropLast_concat_getLast hne
 have h3:ys.getLast hne=y:=by
  rw [← List.getLast?_eq_getElem?,List.getLast?_eq_some_getLast hne] at h
  exact Option.some.inj h
 rw [h3] at h2
 exact h2.symm
theorem cut_from (xs:List V) (k:Nat):cutV xs (some (k:Int)) none=xs.drop k:=by
 unfold cutV
 rw [HT.sIx_nat,HT.sIx_none]
 by_cases h:k≤xs.length
 ·rw [Nat.min_eq_left h,List.take_of_length_le (by rw [List.length_drop]; lia)]
 ·rw [Nat.min_eq_right (by lia),List.drop_eq_nil_of_le (by lia),List.drop_eq_nil_of_le (by lia),List.take_nil]
theorem cut_to (xs:List V) (k:Nat):cutV xs none (some (k:Int))=xs.take k:=by
 unfold cutV
 rw [HT.sIx_nat,HT.sIx_none,List.drop_zero,Nat.sub_zero]
 by_cases h:k≤xs.length
 ·rw [Nat.min_eq_left h]
 ·rw [Nat.min_eq_right (by lia),List.take_of_length_le (Nat.le_refl _),List.take_of_length_le (by lia)]
section
variable {K:PySem.W.Frag}
theorem All2.rev {α β:Type}{R:α→β→Prop}{as:List α}{bs:List β} (h:All2 R as bs):All2 R as.reverse bs.reverse:=by
 induction h with
 | nil=>exact .nil
 | cons r _ ih=>rw [List.reverse_cons,List.reverse_cons]; exact ih.append (All2.one r)
def RowAt (K:PySem.W.Frag) (H₀ H:Hp) (ts:List T) (x:V):Prop:=∃ a xs,x=.ref a∧H₀ a=none∧H a=some (.lst xs)∧TRs K H ts xs
structure RowsR (K:PySem.W.Frag) (H₀ H:Hp) (p:Addr) (st:List (List T)) (ys:List V):Prop where
 new:H₀ p=none
 same:Same H₀ H
 at_:H p=some (.lst ys)
 rows:All2 (RowAt K H₀ H) st.reverse ys
 nd:((.ref p:V)::ys).Nodup
theorem RowAt.upd {H₀ H:Hp}{p:Addr}{o:HO}{ts:List T}{x:V} (h:RowAt K H₀ H ts x) (hne:x≠.ref p) (k:Kt H (upd H p o)):RowAt K H₀ (upd H p o) ts x:=by
 obtain⟨a,xs,rfl,h1,h2,h3⟩:=h
 exact⟨a,xs,rfl,h1,by rw [upd_ne (fun z=>hne (by rw [z]))]; exact h2,h3.mono k⟩
theorem rows_upd {H₀ H:Hp}{p:Addr}{o:HO} (k:Kt H (upd H p o)):∀ {ss:List (List T)}{ys:List V},All2 (RowAt K H₀ H) ss ys→(.ref p:V) ∉ ys→All2 (RowAt K H₀ (upd H p o)) ss ys:=by
 intro ss ys h
 induction h with
 | nil=>intro _; exact .nil
 | cons r _ ih=>intro hn; exact .cons (r.upd (fun z=>hn (by rw [z]; exact List.mem_cons_self)) k) (ih fun z=>hn (List.mem_cons_of_mem _ z))
theorem rows_open {H₀ H:Hp}{p q:Addr}{st:List (List T)}{ys:List V} (R:RowsR K H₀ H p st ys) (hq:H q=none):RowsR K H₀ (upd (upd H q (.lst [])) p (.lst (ys++[.ref q]))) p ([]::st) (ys++[.ref q]):=by
 have npq:p≠q:=ne_of_none R.at_ hq
 have hq0:H₀ q=none:=R.same.free hq
 have nin:(.ref q:V) ∉ ys:=fun hm=>by
  obtain⟨i,hi⟩:=List.mem_iff_getElem?.mp hm
  obtain⟨ts,_,a,xs,e,_,h2,_⟩:=R.rows.get hi
  cases e
  rw [hq] at h2
  cases h2
 have nd:=List.nodup_cons.mp R.nd
 have k1:Kt H (upd H q (.lst [])):=Kt.new hq
 have h1:upd H q (.lst []) p=some (.lst ys):=by rw [upd_ne npq]; exact R.at_
 have k2:Kt (upd H q (.lst [])) (upd (upd H q (.lst [])) p (.lst (ys++[.ref q]))):=Kt.lst h1
 refine⟨R.new,same_upd (same_upd R.same hq0) R.new,upd_same,?_,?_⟩
 ·rw [List.reverse_cons]
  refine All2.append (rows_upd k2 (rows_upd k1 R.rows nin) nd.1) (All2.one ⟨q,[],rfl,hq0,?_,TRs_nil.mpr rfl⟩)
  rw [upd_ne (Ne.symm npq)]
  exact upd_same
 ·rw [← List.cons_append]
  refine List.nodup_append.mpr ⟨R.nd,by simp,fun x hx y hy e=>?_⟩
  have ey:y=.ref q:=by simpa using hy
  rw [ey] at e
  subst e
  rcases List.mem_cons.mp hx with z | z
  ·exact npq (V.ref.inj z).symm
  ·exact nin z
theorem All2.snoc {α β:Type}{R:α→β→Prop}{as:List α}{a:α}{bs:List β} (h:All2 R (as++[a]) bs):∃ bs' b,bs=bs'++[b]∧All2 R as bs'∧R a b:=by
 induction as generalizing bs with
 | nil =>
  cases h with
  | cons r h=>cases h; exact⟨[],_,rfl,.nil,r⟩
 | cons c as ih =>
  cases h with
  | cons r h =>
   obtain⟨bs',b,rfl,h1,h2⟩:=ih h
   exact⟨_::bs',b,rfl,.cons r h1,h2⟩
theorem rows_shut {H₀ H:Hp}{p:Addr}{r r':List T}{rs:List (List T)}{ys:List V} (R:RowsR K H₀ H p (r::r'::rs) ys) :
  ∃ (ys0:List V) (a' a:Addr) (xs' xs:List V),ys=ys0++[.ref a']++[.ref a]∧H a=some (.lst xs)∧H a'=some (.lst xs')∧p≠a∧p≠a'∧xs.length=r.length∧xs'.length=r'.length ∧
   ∀ b,upd H p (.lst (ys0++[.ref a'])) b=none→RowsR K H₀ (upd (upd (upd H p (.lst (ys0++[.ref a']))) b (.tup xs)) a' (.lst (xs'++[.ref b]))) p ((r'++[.node r])::rs) (ys0++[.ref a']):=by
 have hr:=R.rows
 rw [List.reverse_cons,List.reverse_cons] at hr
 obtain⟨ys1,y,rfl,h1,a,xs,rfl,ha0,ha,hta⟩:=All2.snoc hr
 obtain⟨ys0,y',rfl,h2,a',xs',rfl,ha0',ha',hta'⟩:=All2.snoc h1
 have nd:=R.nd
 have ndp:(.ref p:V) ∉ ys0++[.ref a']++[.ref a]:=(List.nodup_cons.mp nd).1
 have ndy:=(List.nodup_cons.mp nd).2
 have npa:p≠a:=fun z=>ndp (by rw [z]; simp)
 have npa':p≠a':=fun z=>ndp (by rw [z]; simp)
 have nd1:(ys0++[V.ref a']).Nodup:=(List.nodup_append.mp ndy).1
 have na':(.ref a':V) ∉ ys0:=fun z=>(List.nodup_append.mp nd1).2.2 _ z _ (by simp) rfl
 refine⟨ys0,a',a,xs',xs,rfl,ha,ha',npa,npa',hta.length,hta'.length,fun b hb=>?_⟩
 have k1:Kt H (upd H p (.lst (ys0++[.ref a']))):=Kt.lst R.at_
 have k2:Kt (upd H p (.lst (ys0++[.ref a']))) (upd (upd H p (.lst (ys0++[.ref a']))) b (.tup xs)):=Kt.new hb
 have npb:p≠b:=fun z=>by rw [← z,upd_same] at hb; cases hb
 have nab:a'≠b:=fun z=>by
  rw [← z,upd_ne (Ne.symm npa'),ha'] at hb
  cases hb
 have hbH:H b=none:=by rw [upd_ne (Ne.symm npb)] at hb; exact hb
 have hb0:H₀ b=none:=R.same.free hbH
 have h3:upd (upd H p (.lst (ys0++[.ref a']))) b (.tup xs) a'=some (.lst xs'):=by rw [upd_ne nab,upd_ne (Ne.symm npa')]; exact ha'
 have k3:Kt (upd (upd H p (.lst (ys0++[.ref a']))) b (.tup xs)) (upd (upd (upd H p (.lst (ys0++[.ref a']))) b (.tup xs)) a' (.lst (xs'++[.ref b]))):=Kt.lst h3
 have nb0:(.ref b:V) ∉ ys0:=fun hm=>by
  obtain⟨i,hi⟩:=List.mem_iff_getElem?.mp hm
  obtain⟨ts,_,c,zs,e,_,g2,_⟩:=h2.get hi
  cases e
  rw [hbH] at g2
  cases g2
 have np0:(.ref p:V) ∉ ys0:=fun z=>ndp (by simp [z])
 refine⟨R.new,same_upd (same_upd (same_upd R.same R.new) hb0) ha0',?_,?_,?_⟩
 ·rw [upd_ne npa',upd_ne npb]
  exact upd_same
 ·rw [List.reverse_cons]
  refine All2.append (rows_upd k3 (rows_upd k2 (rows_upd k1 h2 np0) nb0) na') (All2.one ⟨a',xs'++[.ref b],rfl,ha0',upd_same,?_⟩)
  have kk:=k1.trans (k2.trans k3)
  refine TRs.append (hta'.mono kk) (TRs_cons.mpr ⟨_,[],rfl,TR_mk (xs:=xs) (SqT.of ?_) (hta.mono kk),TRs_nil.mpr rfl⟩)
  rw [upd_ne (Ne.symm nab)]
  exact upd_same
 ·exact List.nodup_cons.mpr ⟨fun z=>ndp (by rcases List.mem_append.mp z with z | z <;> simp [z] <;> simp_all),nd1⟩
theorem at_last {ys:List V}{v:V}:atI (ys++[v]) (-1)=some v:=by
 unfold atI ixN
 have hl:(ys++[v]).length=ys.length+1:=by simp
 rw [if_neg (by decide),if_pos (by rw [hl]; lia),hl,show ((-1:Int)+((ys.length+1:Nat):Int)).toNat=ys.length by lia,Option.bind_some]
 simp
end
end Sw
namespace Sw
open PySem PySem.Spec PyProof.Rows L2
section
variable {X:Cx}
def rCatTA (K:PySem.W.Frag):R2:=fun x y H Q=>∃ a b xs ys,x=.ref a∧y=.ref b∧SqT K H a xs∧SqT K H b ys∧xs.length+ys.length≤sizeLine∧∀ p H',Same H H'→SqT K H' p (xs++ys)→Q (.ref p) H'
theorem op_catTA:OpR X (binaryOp .Add) (rCatTA X.K):=by
 intro pins s σ H x y v u Q I rx ry h
 obtain⟨a,b,xs,ys,rfl,rfl,ha,hb,hz,q⟩:=h
 by_cases hx:xs=[]
 ·subst hx
  cases rx
  cases ry
  obtain⟨its,r1,p1,_⟩:=I.tuple ha
  obtain⟨its2,r2,p2,_⟩:=I.tuple hb
  have e1:its=[]:=r1.nil_iff.mpr rfl
  subst e1
  obtain⟨⟨cls,dd,data,sl⟩,ho,hc,n,hd⟩:=id p1
  obtain⟨⟨cls2,dd2,data2,sl2⟩,ho2,hc2,n2,hd2⟩:=id p2
  simp only at hc hd hc2 hd2
  subst hc hd hc2 hd2
  exact concat_meets ⟨_,ho,rfl⟩ ⟨_,ho2,rfl⟩ noFill_tuple_add seq_tuple_add PySem.F.slot_tuple_add PySem.F.entry_tuple_add (PySem.F.args_tuple_add_2 _ _)
   (tuple_addW0 a b ([]:List Value).toArray its2.toArray n n2 dd dd2 sl sl2 rfl) ⟨ho,ho2,⟨.ref b,H,I,rfl,q b H (Same.refl H) hb⟩⟩
 ·refine op_catT pins s σ H _ _ v u Q I rx ry ⟨a,b,xs,ys,rfl,rfl,ha,hb,hx,hz,fun e=>?_,fun _ p hp=>q p _ (same_new hp _) (SqT.of upd_same)⟩
  subst e
  exact q a H (Same.refl H) (by rw [List.append_nil]; exact ha)
theorem noFill_tuple_mul:fillsNumberSlot (.type "tuple") "mul"=pure false:=by
 first | kernel_rfl | (unfold fillsNumberSlot; kernel_rfl)
theorem repeat_tuple:seqRepeat? (.type "tuple")=pure (some (.builtin "tuple.__mul__")):=by
 unfold seqRepeat?
 first | kernel_rfl | (simp only [typeLookup_type,builtinLookup_eq_fast]; kernel_rfl) | rfl
theorem rmul_tuple (a:Int) (t:Tok) (l:Addr) (items:Array Value) (n:Nat) (dd:Option Addr) (sl:Array (Option Value)) :
  Meets (Builtin.«int.__rmul__» ⟨[.int a t,.ref l],[]⟩) (fun _ R s=>s.heap.get? l=some { cls:=.type "tuple",dict:=dd,data:=.seq items n,slots:=sl }∧R (.ok (.ret Value.notImplemented)) s) :=
 .of_wp fun prog w A R s h=>by
  obtain⟨hp,g,d,tk,os⟩:=s
  obtain⟨hl,h⟩:=h
  wp_walk
  exact⟨_,rfl,h⟩
theorem tmul_same (l:Addr) (items:Array Value) (n:Nat) (dd:Option Addr) (sl:Array (Option Value)) (k:Int) (t:Tok) (h0:(items.isEmpty || k == 1)=true) (h1:¬ (decide (k < -(2 ^ 63)) || decide (k ≥ 2 ^ 63))=true) :
  Meets (Builtin.«tuple.__mul__» ⟨[.ref l,.int k t],[]⟩) (fun _ R s=>s.heap.get? l=some { cls:=.type "tuple",dict:=dd,data:=.seq items n,slots:=sl }∧R (.ok (.ret (.ref l))) s) :=
 .of_wp fun prog w A R s h=>by
  obtain⟨hp,g,d,tk,os⟩:=s
  obtain⟨hl,h⟩:=h
  have f1:=AutoSeq1.idx_int
  have f2:=AutoSeq1.sub_tuple_tuple
  wp_walk using AutoSeq1.wpAny_loadPart' hl
  rw [if_neg h1]
  wp_walk using AutoSeq1.wpAny_loadPart' hl
  exact⟨_,rfl,h⟩
theorem tmul_zero (l:Addr) (items:Array Value) (n:Nat) (dd:Option Addr) (sl:Array (Option Value)) (k:Int) (t:Tok) (h0:¬ (items.isEmpty || k == 1)=true) (h1:¬ (decide (k < -(2 ^ 63)) || decide (k ≥ 2 ^ 63))=true) (h2:(decide (k≤0) || items.isEmpty)=true) :
  Meets (Builtin.«tuple.__mul__» ⟨[.ref l,.int k t],[]⟩) (fun _ R s=>s.heap.get? l=some { cls:=.type "tuple",dict:=dd,data:=.seq items n,slots:=sl }∧R (.ok (.ret (.ref s.heap.objs.size))) { s with heap:=s.heap.push { cls:=.type "tuple",data:=.seq #[] } }) :=
 .of_wp fun prog w A R s h=>by
  obtain⟨hp,g,d,tk,os⟩:=s
  obtain⟨hl,h⟩:=h
  have f1:=AutoSeq1.idx_int
  have f2:=AutoSeq1.sub_tuple_tuple
  wp_walk using AutoSeq1.wpAny_loadPart' hl
  rw [if_neg h1]
  wp_walk using AutoSeq1.wpAny_loadPart' hl
  exact⟨_,rfl,h⟩
theorem tmul_more (l:Addr) (items:Array Value) (n:Nat) (dd:Option Addr) (sl:Array (Option Value)) (k:Int) (t:Tok) (h0:¬ (items.isEmpty || k == 1)=true) (h1:¬ (decide (k < -(2 ^ 63)) || decide (k ≥ 2 ^ 63))=true) (h2:¬ (decide (k≤0) || items.isEmpty)=true)
  (h3:¬ (items.size:Int) * k > (2 ^ 63 - 1) / 8) (h4:¬ Builtin.Tuple.tupleTooMany ((items.size:Int) * k)=true) (h5:((List.replicate k.toNat items).foldl (·++·) #[]).size≤sizeLine) :
  Meets (Builtin.«tuple.__mul__» ⟨[.ref l,.int k t],[]⟩) (fun _ R s=>s.heap.get? l=some { cls:=.type "tuple",dict:=dd,data:=.seq items n,slots:=sl }∧R (.ok (.ret (.ref s.heap.objs.size))) { s with heap:=s.heap.push { cls:=.type "tuple",data:=.seq ((List.replicate k.toNat items).foldl (·++·) #[]) } }) :=
 .of_wp fun prog w A R s h=>by
  obtain⟨hp,g,d,tk,os⟩:=s
  obtain⟨hl,h⟩:=h
  have f1:=AutoSeq1.idx_int
  have f2:=AutoSeq1.sub_tuple_tuple
  wp_walk using AutoSeq1.wpAny_loadPart' hl
  rw [if_neg h1]
  wp_walk using AutoSeq1.wpAny_loadPart' hl
  rw [if_neg h3]
  wp_walk using AutoSeq1.wpAny_loadPart' hl
  exact⟨_,rfl,h⟩
def repV (xs:List V) (k:Int):List V:=(List.replicate k.toNat xs).flatten
def rRepTA (K:PySem.W.Frag):R2:=fun x y H Q=>∃ a k xs,x=.ref a∧y=.int k∧SqT K H a xs∧-(2 ^ 62)≤k∧k<2 ^ 62∧xs.length * k.toNat≤sizeLine∧∀ p H',Same H H'→SqT K H' p (repV xs k)→Q (.ref p) H'
theorem op_repTA:OpR X (binaryOp .Mult) (rRepTA X.K):=by
 intro pins s σ H x y v u Q I rx ry h
 obtain⟨a,k,xs,rfl,rfl,ha,h1,h2,hz,q⟩:=h
 cases rx
 obtain⟨t,rfl⟩:=ry
 obtain⟨its,r,p1,hzx⟩:=I.tuple ha
 have hlen:=r.length
 obtain⟨⟨cls,dd,data,sl⟩,ho,hc,n,hd⟩:=id p1
 simp only at hc hd
 subst hc hd
 have b1:¬ (decide (k < -(2 ^ 63)) || decide (k ≥ 2 ^ 63))=true:=by
  rw [decide_eq_false (by lia),decide_eq_false (by lia)]
  decide
 refine wpAny_binaryOp_repeat_ref (T:="tuple") (U:="int") (by decide) ⟨_,ho,rfl⟩ (fun s'=>typeIs_int s' k t) noFill_tuple_mul F.fills_int_mul F.slot_int_rmul repeat_tuple F.slot_int_index.lookup
  (call_meets F.slot_int_rmul (typeIs_int s k t) F.entry_int_rmul (F.args_int_rmul_2 _ _) (rmul_tuple k t a its.toArray n dd sl) ⟨ho,rfl,⟨_,ho,rfl⟩,?_⟩)
 by_cases c0:(its.toArray.isEmpty || k == 1)=true
 ·refine call_meets F.slot_tuple_mul ⟨_,ho,rfl⟩ F.entry_tuple_mul (F.args_tuple_mul_2 _ _) (tmul_same a its.toArray n dd sl k t c0 b1) ⟨ho,⟨.ref a,H,I,rfl,q a H (Same.refl H) ?_⟩⟩
  rcases Bool.or_eq_true_iff.mp c0 with z | z
  ·have:its=[]:=by simpa using z
   have hx:xs=[]:=r.nil_iff.mp this
   subst hx
   have:repV ([]:List V) k=[]:=by unfold repV; simp
   rw [this]
   exact ha
  ·have:k=1:=by simpa using z
   subst this
   have:repV xs 1=xs:=by unfold repV; simp
   rw [this]
   exact ha
 ·by_cases c2:(decide (k≤0) || its.toArray.isEmpty)=true
  ·refine call_meets F.slot_tuple_mul ⟨_,ho,rfl⟩ F.entry_tuple_mul (F.args_tuple_mul_2 _ _) (tmul_zero a its.toArray n dd sl k t c0 b1 c2) ⟨ho,?_⟩
   have hk:k≤0:=by
    rcases Bool.or_eq_true_iff.mp c2 with z | z
    ·exact of_decide_eq_true z
    ·rw [z] at c0
     exact absurd rfl c0
   have e0:repV xs k=[]:=by
    unfold repV
    rw [show k.toNat=0 by lia]
    rfl
   refine⟨.ref s.heap.objs.size,_,I.laid (t':=s.toks) (o:=.tup []) (fun b ob z=>Heap.get?_push_of_some _ z) (Nat.le_refl _) ?_,rfl,q _ _ (same_new (I.hok.fresh (Nat.le_refl _)) _) (by rw [e0]; exact SqT.of upd_same)⟩
   exact⟨Nat.zero_le _,[],.nil,IsTup.new _ _⟩
  ·have hk:0<k:=by
    by_cases hk:k≤0
    ·rw [decide_eq_true hk] at c2
     exact absurd rfl c2
    ·lia
   have hsz:its.toArray.size * k.toNat≤sizeLine:=by rw [List.size_toArray,← hlen]; exact hz
   have hsl:(sizeLine:Nat)=16777216:=sizeLine_eq
   have hpr:(its.toArray.size:Int) * k=((its.toArray.size * k.toNat:Nat):Int):=by
    rw [Int.natCast_mul,show ((k.toNat:Nat):Int)=k by lia]
   have hnew:(List.replicate k.toNat its.toArray).foldl (·++·) #[]=(List.replicate k.toNat its).flatten.toArray:=by
    have:=foldl_rep its k.toNat []
    rw [List.nil_append] at this
    exact this
   have hrl:(List.replicate k.toNat its).flatten.length≤sizeLine:=by
    rw [len_rep,Nat.mul_comm]
    simpa using hsz
   refine call_meets F.slot_tuple_mul ⟨_,ho,rfl⟩ F.entry_tuple_mul (F.args_tuple_mul_2 _ _) (tmul_more a its.toArray n dd sl k t c0 b1 c2 ?_ ?_ ?_) ⟨ho,?_⟩
   ·rw [hpr]
    have:((2:Int) ^ 63 - 1) / 8=1152921504606846975:=by decide
    rw [this]
    lia
   ·unfold Builtin.Tuple.tupleTooMany
    rw [hpr,decide_eq_false (by lia)]
    decide
   ·rw [hnew,List.size_toArray]
    exact hrl
   ·rw [hnew]
    have rr:=r.rep k.toNat
    refine⟨.ref s.heap.objs.size,_,I.laid (t':=s.toks) (o:=.tup (repV xs k)) (fun b ob z=>Heap.get?_push_of_some _ z) (Nat.le_refl _) ?_,rfl,q _ _ (same_new (I.hok.fresh (Nat.le_refl _)) _) (SqT.of upd_same)⟩
    exact⟨by unfold repV; rw [rr.length]; exact hrl,_,rr,IsTup.new _ _⟩
end
theorem lc_rangeI {H:Hp}{lo:Int}{n:Nat}{σ:Sg}{js:List Nat}{te:TE}{Q:VK} (J:Addr→Nat→List V→Hp→Prop) (hz:n≤sizeLine) (h0:∀ D,H D=none→J D 0 [] (upd H D (.lst [])))
  (hD:∀ D i ys H',J D i ys H'→H' D=some (.lst ys)∧ys.length=i)
  (hte:∀ D i ys H' (R:VK),i<n→J D i ys H'→(∀ y H3,H3 D=some (.lst ys)→J D (i+1) (ys++[y]) (upd H3 D (.lst (ys++[y])))→R y H3)→te (some (.int (lo+i))::frv σ js) H' R)
  (q:∀ D ys H',J D n ys H'→Q (.ref D) H'):LcRun (Itr lo n) js te σ Q H:=by
 intro D hDn
 refine⟨fun i m ys H'=>m=n - i∧i≤n∧J D i ys H',⟨n,by lia,Nat.zero_le _,h0 D hDn⟩,?_⟩
 rintro i m ys H' ⟨rfl,hi,hj⟩
 obtain⟨h1,h2⟩:=hD D i ys H' hj
 refine⟨h1,?_⟩
 by_cases hlt:i<n
 ·refine .inr ⟨hlt,fun x H2 y=>?_⟩
  obtain⟨e,y⟩:=y
  subst e
  subst y
  exact hte D i ys _ _ hlt hj fun y H3 g1 g2=>⟨g1,by lia,n - (i+1),by lia,rfl,hlt,g2⟩
 ·have e:i=n:=by lia
  subst e
  exact .inl ⟨Nat.le_refl _,q D ys H' hj⟩
theorem lc_tupI {K:PySem.W.Frag}{H:Hp}{a:Addr}{xs:List V}{σ:Sg}{js:List Nat}{te:TE}{Q:VK} (J:Addr→Nat→List V→Hp→Prop) (hz:xs.length≤sizeLine) (h0:∀ D,H D=none→J D 0 [] (upd H D (.lst [])))
  (hD:∀ D i ys H',J D i ys H'→H' D=some (.lst ys)∧ys.length=i∧SqT K H' a xs)
  (hte:∀ D i x ys H' (R:VK),xs[i]?=some x→J D i ys H'→(∀ y H3,H3 D=some (.lst ys)→J D (i+1) (ys++[y]) (upd H3 D (.lst (ys++[y])))→R y H3)→te (some x::frv σ js) H' R)
  (q:∀ D ys H',J D xs.length ys H'→Q (.ref D) H'):LcRun (Itt K a) js te σ Q H:=by
 intro D hDn
 refine⟨fun i m ys H'=>m=xs.length - i∧i≤xs.length∧J D i ys H',⟨xs.length,by lia,Nat.zero_le _,h0 D hDn⟩,?_⟩
 rintro i m ys H' ⟨rfl,hi,hj⟩
 obtain⟨h1,h2,h3⟩:=hD D i ys H' hj
 refine⟨h1,?_⟩
 by_cases hlt:i<xs.length
 ·refine .inr ⟨⟨xs,xs[i],h3,List.getElem?_eq_getElem hlt⟩,fun x H2 y=>?_⟩
  obtain⟨e,y⟩:=y
  subst e
  exact hte D i x ys _ _ (y xs h3) hj fun y H3 g1 g2=>⟨g1,by lia,xs.length - (i+1),by lia,rfl,hlt,g2⟩
 ·have e:i=xs.length:=by lia
  subst e
  exact .inl ⟨⟨xs,h3,Nat.le_refl _⟩,q D ys H' hj⟩
theorem lc_listI {K:PySem.W.Frag}{H:Hp}{a:Addr}{xs:List V}{σ:Sg}{js:List Nat}{te:TE}{Q:VK} (J:Addr→Nat→List V→Hp→Prop) (hz:xs.length≤sizeLine) (h0:∀ D,H D=none→J D 0 [] (upd H D (.lst [])))
  (hD:∀ D i ys H',J D i ys H'→H' D=some (.lst ys)∧ys.length=i∧SqL K H' a xs)
  (hte:∀ D i x ys H' (R:VK),xs[i]?=some x→J D i ys H'→(∀ y H3,H3 D=some (.lst ys)→J D (i+1) (ys++[y]) (upd H3 D (.lst (ys++[y])))→R y H3)→te (some x::frv σ js) H' R)
  (q:∀ D ys H',J D xs.length ys H'→Q (.ref D) H'):LcRun (Itl K a) js te σ Q H:=by
 intro D hDn
 refine⟨fun i m ys H'=>m=xs.length - i∧i≤xs.length∧J D i ys H',⟨xs.length,by lia,Nat.zero_le _,h0 D hDn⟩,?_⟩
 rintro i m ys H' ⟨rfl,hi,hj⟩
 obtain⟨h1,h2,h3⟩:=hD D i ys H' hj
 refine⟨h1,?_⟩
 by_cases hlt:i<xs.length
 ·refine .inr ⟨⟨xs,xs[i],h3,List.getElem?_eq_getElem hlt⟩,fun x H2 y=>?_⟩
  obtain⟨e,y⟩:=y
  subst e
  exact hte D i x ys _ _ (y xs h3) hj fun y H3 g1 g2=>⟨g1,by lia,xs.length - (i+1),by lia,rfl,hlt,g2⟩
 ·have e:i=xs.length:=by lia
  subst e
  exact .inl ⟨⟨xs,h3,Nat.le_refl _⟩,q D ys H' hj⟩
def DkAt (H:Hp) (p:Addr):Prop:=∃ ns:List Int,H p=some (.lst (ns.map V.int))
structure Dr (p:Addr) (H H':Hp):Prop where
 keep:∀ b o,b≠p→H b=some o→H' b=some o
 deck:DkAt H' p
theorem Dr.refl {p:Addr}{H:Hp} (d:DkAt H p):Dr p H H:=⟨fun _ _ _ e=>e,d⟩
theorem Dr.trans {p:Addr}{H H1 H2:Hp} (a:Dr p H H1) (b:Dr p H1 H2):Dr p H H2:=⟨fun c o n e=>b.keep c o n (a.keep c o n e),b.deck⟩
theorem Dr.same {p:Addr}{H H1 H2:Hp} (a:Dr p H H1) (S:Same H1 H2):Dr p H H2:=⟨fun c o n e=>S c o (a.keep c o n e),let ⟨ns,e⟩:=a.deck; ⟨ns,S _ _ e⟩⟩
theorem Dr.kt {p:Addr}{H H':Hp} (d:DkAt H p) (a:Dr p H H'):Kt H H':=by
 obtain⟨ns,e⟩:=d
 exact⟨fun b xs q=>a.keep b _ (ne_of q e (fun z=>by cases z)) q,fun b o u q=>a.keep b _ (ne_of q e (fun z=>by cases z)) q⟩
theorem Dr.upd {p b:Addr}{H H':Hp}{o:HO} (a:Dr p H H') (h:H b=none) (hp:b≠p):Dr p H (upd H' b o) :=
 ⟨fun c u n e=>by rw [upd_ne (ne_of_none e h)]; exact a.keep c u n e,let ⟨ns,e⟩:=a.deck; ⟨ns,by rw [upd_ne (Ne.symm hp)]; exact e⟩⟩
end Sw
namespace Sw
open PySem PySem.Spec PyProof.Rows L2
section
variable {X:Cx}{scope:Scope}{cl:List (Str×Addr)}{x:Str}{fr:List Str}{js:List Nat}{elt iter:Expr}{px pos:Pos}{wi:TI}{te:TE}{pins:List (Addr×Obj)}{s:Shared}{σ:Sg}{H:Hp}
theorem lc_core {Q:VK} (use:Option (Value→Sem Unit)) (QQ:Value→Shared→Prop) (hc:X.calm=true) (L:LcOk X scope x fr js cl) (hi:PI X (.Name x px) iter wi)
  (he:∀ C s H fp pins,PE (blk X scope cl C (x::fr) s H fp pins) elt te)
  (hs:∀ v,foldedSetIterable iter X.env v=pure v) (I:Inv X pins σ H s) (h:tLC wi js te σ H Q)
  (fin:∀ (D C:Addr) (s6:Shared) (H5:Hp) (m6:Str→Option Value),s6.heap.Ns C m6→H5 C=none→(∀ h',Heap.SameBut C s6.heap h'→Inv X pins σ H5 { s6 with heap:=h' })→X.env.locals≠C→X.s₀.heap.objs.size≤C →
   (∀ y c,X.env.cells.lookup y=some c→c≠C)→(∀ p∈X.pn++pins,p.1≠C)→Q (.ref D) H5→compPost (model X.prog X.w) X.A X.xe use QQ (.ref D) C (.ok .next) s6) :
  wpAny (model X.prog X.w) X.A (comprehension (.ListComp elt [⟨.Name x px,iter,[],0⟩] scope pos) scope X.env (firstIterPos [⟨.Name x px,iter,[],0⟩] pos) (newList []) false (eval iter X.env) use) QQ X.xe s:=by
 refine wpAny_comprehension_free rfl hs L.clos L.kind L.loc (thn (hi pins s σ H _ I h) fun v s1 h1=>thn h1 fun itv s2 h2=>?_)
 obtain⟨it,fp,tn,J,H2,e,I2,T,st2,f2,rd⟩:=h2
 subst e
 obtain⟨W,⟨m0,w0⟩,turn⟩:=rd _ I2.fresh
 have I3:=I2.lnew (ys:=[]) (its:=[]) (t':=s2.toks) .nil (Nat.zero_le _)
 refine wpAny_newObj_type ?_
 have fsz2:∀ b∈fp,b<s2.heap.objs.size:=fun b hb=>by
  obtain⟨o,ho,_⟩:=T.obj 0 _ st2 b hb
  exact Heap.lt_size ho
 generalize hs3:({ s2 with heap:=s2.heap.push { cls:=.type "list",dict:=none,data:=.seq ([]:List Value).toArray } }:Shared)=s3
 have I3':Inv X pins σ (upd H2 s2.heap.objs.size (.lst [])) s3:=by rw [← hs3]; exact I3
 have sz3:s3.heap.objs.size=s2.heap.objs.size+1:=by rw [← hs3]; exact Heap.size_push ..
 have k23:∀ b o,s2.heap.get? b=some o→s3.heap.get? b=some o:=fun b o e=>by rw [← hs3]; exact Heap.get?_push_of_some _ e
 have fsz:∀ b∈fp,b<s3.heap.objs.size:=fun b hb=>by rw [sz3]; exact Nat.lt_succ_of_lt (fsz2 b hb)
 have f3:∀ b∈fp,FpOk X pins (upd H2 s2.heap.objs.size (.lst [])) b:=fun b hb=>⟨by rw [upd_ne (Nat.ne_of_lt (fsz2 b hb))]; exact (f2 b hb).1,(f2 b hb).2⟩
 refine wpAny_newFunctionEnv L.cell (by intro y hy; simp at hy) (fun h4 hn4 hsb4=>?_) L.kind
 have k34:∀ b o,s3.heap.get? b=some o→h4.get? b=some o:=fun b o e=>(hsb4.2 b (Nat.ne_of_lt (Heap.lt_size e))).trans (Heap.get?_push_of_some _ e)
 generalize hX':blk X scope cl s3.heap.objs.size (x::fr) s3 (upd H2 s2.heap.objs.size (.lst [])) fp pins=X'
 have I4:Inv X' [] (none::frv σ js) (upd H2 s2.heap.objs.size (.lst [])) { s3 with heap:=h4,toks:=s3.toks+([]:List (Str×Value)).length }:=by
  rw [← hX']; exact blk_inv I3' L hc f3 fsz hn4 k34
 have st4:tn 0 h4:=T.keep _ _ _ st2 fun b _ o e=>k34 b o (k23 b o e)
 have he':PE X' elt te:=by rw [← hX']; exact he _ _ _ _ _
 have xp:X'.prog=X.prog:=by rw [← hX']; rfl
 have xw:X'.w=X.w:=by rw [← hX']; rfl
 have xK:X'.K=X.K:=by rw [← hX']; rfl
 have xA:X'.A=X.A:=by rw [← hX']; rfl
 have xc:X'.calm=true:=by rw [← hX']; rfl
 have xe:X'.xe=fun _ _=>False:=by rw [← hX']; rfl
 have xn:X'.N=x::fr:=by rw [← hX']; rfl
 have xv:X'.env=compEnvC scope cl s3.heap.objs.size X.env:=by rw [← hX']; rfl
 have xpn:X'.pn=X.pn++pins:=by rw [← hX']; rfl
 have xex:X'.ex=fp:=by rw [← hX']; rfl
 have xfs:X'.fs=frs X.stack:=by rw [← hX']; rfl
 have back:∀ {H':Hp}{s':Shared}{h':Heap}{σ':Sg},Inv X' [] σ' H' s'→Heap.SameBut s3.heap.objs.size s'.heap h'→Inv X pins σ H' { s' with heap:=h' }:=fun {H' s' h' σ'} J' hsb=>by
  rw [← hX'] at J'; exact blk_back I3' J' f3 hsb
 have frame:∀ b∈fp,b ∉ frs X.stack:=fun b hb z=>by
  rcases List.mem_cons.mp (I3'.stkSub b z) with e | e
  ·exact (f3 b hb).2.1 e
  ·exact (f3 b hb).2.2.1 e
 have stat:∀ {H':Hp},(∀ b∈fp,H' b=none)→∀ b∈fp,FpOk X' [] H' b:=fun {H'} hn b hb=>by
  refine⟨hn b hb,?_,?_,.inl (by rw [xex]; exact hb),?_,?_⟩
  ·rw [xv]; exact Nat.ne_of_lt (fsz b hb)
  ·rw [xfs]; exact frame b hb
  ·rw [xv]; exact fun y c e=>(f3 b hb).2.2.2.2.1 y c (L.sub y c e)
  ·rw [xpn,List.append_nil]; exact (f3 b hb).2.2.2.2.2
 have loop:codeAny (model X.prog X.w) X.A (.compLoop (.ListComp elt [⟨.Name x px,iter,[],0⟩] scope pos) 0 (.ref it) (.ref s2.heap.objs.size) (compEnvC scope cl s3.heap.objs.size X.env))
   (compPost (model X.prog X.w) X.A X.xe use QQ (.ref s2.heap.objs.size) s3.heap.objs.size) { s3 with heap:=h4,toks:=s3.toks+([]:List (Str×Value)).length }:=by
  refine lc_loop (fun n s'=>∃ i ys o H',Inv X' [] (o::frv σ js) H' s'∧tn i s'.heap∧(∀ b∈fp,H' b=none)∧W i n ys H') ?_ m0 ⟨0,[],none,_,I4,st4,fun b hb=>(f3 b hb).1,w0⟩
  rintro n s5 ⟨i,ys,o,H5,I5,st5,fr5,w5⟩
  obtain⟨hD,hstep⟩:=turn i n ys H5 w5
  rcases hstep with⟨stop,qn⟩ | ⟨go,step⟩
  ·have q:=T.done X' xp xw xK xc i [] s5 _ H5 (fun _ _=>False) I5 (stat fr5) st5 stop
   rw [xA] at q
   refine thn q fun r s6 ⟨hr,I6⟩=>?_
   subst hr
   obtain⟨m6,hn6,_⟩:=I6.loc
   rw [xv] at hn6
   have nC:H5 s3.heap.objs.size=none:=by
    have q:=I6.free
    rw [xv] at q
    exact q
   exact fin s2.heap.objs.size s3.heap.objs.size s6 H5 m6 hn6 nC (fun h' hsb=>back I6 hsb) (Nat.ne_of_lt I3'.lt) I3'.sz (fun y c e=>Nat.ne_of_lt (by
    obtain⟨v,hv⟩:=I3'.cell y c e
    obtain⟨o,ho,_⟩:=hv
    exact Heap.lt_size ho)) (fun p hp=>Nat.ne_of_lt (Heap.lt_size (I3'.pin p hp).1)) qn
  ·have q:=T.item X' xp xw xK xc i [] s5 _ H5 (fun _ _=>False) I5 (stat fr5) st5 go
   rw [xA] at q
   refine thn q fun r s6 ⟨u,hr,h6⟩=>?_
   subst hr
   refine thn h6 fun _ s7 ⟨xx,H7,I7,r7,y7,st7,fr7⟩=>?_
   have I7':=I7.pinned (stat fr7) (T.obj _ _ st7)
   have hg:PG X' (.Name x px) (gName 0):=by
    refine pg_name (i:=0) (x:=x) (by rw [xn]; exact L.nd) (by rw [xn]; rfl) ?_ ?_
    ·rw [xv]; exact .inl (lookup_relabel_local L.var)
    ·rw [xv]; exact .inr (lookup_relabel_local L.var)
   have q7:=hg _ s7 _ H7 xx u (fun σ8 H8=>σ8=some xx::frv σ js∧H8=H7) I7' r7 ⟨rfl,rfl⟩
   rw [xp,xw,xA,xe,xv] at q7
   refine thn q7 fun _ s8 ⟨σ8,H8,I8,e8,e8'⟩=>?_
   subst e8 e8'
   have q8:=he' _ s8 _ _ _ I8 (step xx _ y7)
   rw [xp,xw,xA,xe,xv] at q8
   refine thn q8 fun yv s9 ⟨y,H9,I9,r9,d9,z9,m9,hm9,w9⟩=>?_
   have q9:=mt_append (X:=X') _ s9 _ H9 (.ref s2.heap.objs.size) [y] (.ref s2.heap.objs.size) [yv] (fun z H'=>H'=upd H9 s2.heap.objs.size (.lst (ys++[y]))) I9 rfl (.cons r9 .nil) ⟨_,ys,y,rfl,rfl,d9,z9,rfl⟩
   rw [xp,xw,xA,xe] at q9
   refine thn q9 fun _ s10 ⟨_,H10,I10,_,e10⟩=>?_
   subst e10
   refine⟨m9,hm9,i+1,ys++[y],some xx,_,I10.unpinned,T.keep _ _ _ st7 fun b hb ob e=>(I10.pin (b,ob) (List.mem_append_right _ (List.mem_append_right _ (mem_pinsAt hb e)))).1,fun b hb=>?_,w9⟩
   obtain⟨ob,e,_⟩:=T.obj _ _ st7 b hb
   exact (I10.pin (b,ob) (List.mem_append_right _ (List.mem_append_right _ (mem_pinsAt hb e)))).2.1
 exact codeAny_compStart_list loop (T.self _ 0 _ _ _ st4 loop)
theorem ps_setLC {i:Nat}{y:Str}{py spos:Pos} (hN:X.N.Nodup) (hy:X.N[i]?=some y) (hx:Loc X.env.scope y) (hc:X.calm=true) (L:LcOk X scope x fr js cl) (hi:PI X (.Name x px) iter wi)
  (he:∀ C s H fp pins,PE (blk X scope cl C (x::fr) s H fp pins) elt te)
  (hs:∀ v,foldedSetIterable iter X.env v=pure v:=by intro _; rfl)
  (hsw:swapsWith (.ListComp elt [⟨.Name x px,iter,[],0⟩] scope pos) (some (.Name y py)) spos.line X.env=pure true:=by rfl)
  (hf:X.fn y=true∨X.env.scope.names.lookup y=some .local:=by first | exact .inl rfl | exact .inr rfl | assumption) :
  PS X (.Assign [.Name y py] (.ListComp elt [⟨.Name x px,iter,[],0⟩] scope pos) spos) (tAsg (tLC wi js te) (gName i)):=by
 intro pins s σ H D I h
 rw [exec_Assign_Name_used _ _ _ _ hsw]
 refine wpAny_bind (wpAny_standAt (wpAny_bind ?_))
 show wpAny _ X.A (do let _ ← comprehension (.ListComp elt [⟨.Name x px,iter,[],0⟩] scope pos) scope X.env (firstIterPos [⟨.Name x px,iter,[],0⟩] pos) (newList []) false (eval iter X.env) (some (assign (.Name y py) X.env))) _ _ s
 refine wpAny_bind (wpAny_mono (lc_core (some (assign (.Name y py) X.env)) (fun _ s'=>SP X pins D .next s') hc L hi he hs I h ?_) (fun _ s' hq=>wpAny_pure (wpAny_pure hq)) fun _ _ e=>e)
 intro Dd C s6 H5 m6 hn nC back hLC hsz hcell hpin q
 have J:Inv X pins σ H5 s6:=back s6.heap (Heap.SameBut.refl _ _)
 show wpAny _ X.A (assign (.Name y py) X.env (.ref Dd)) _ _ _
 refine wpAny_assign_Name (store_ok2 (v:=.ref Dd) J hN hy hx rfl (fun s7 I7 hsb=>?_) hf)
 obtain⟨a,hsb,ha⟩:=hsb
 have haC:C≠a:=by
  rcases ha with e | e
  ·rw [e]; exact Ne.symm hLC
  ·exact Ne.symm (hcell _ _ e)
 refine⟨m6,hn.sameBut hsb haC,fun h' hs'=>?_⟩
 have k:∀ b o,b≠C→s7.heap.get? b=some o→h'.get? b=some o:=fun b o n e=>hs'.extBut b o n e
 have J':=I7.turned (t':=s7.toks) k nC (Ne.symm hLC) (.inr hsz) hcell hpin
 exact⟨_,_,J',q⟩
end
theorem qs_setLC {X:Cx}{scope:Scope}{cl:List (Str×Addr)}{x:Str}{fr:List Str}{js:List Nat}{elt iter:Expr}{px pos:Pos}{wi:TI}{te:TE}{i:Nat}{y:Str}{py spos:Pos} (hN:X.N.Nodup) (hy:X.N[i]?=some y) (hx:Loc X.env.scope y) (hc:X.calm=true) (L:LcOk X scope x fr js cl) (hi:QI X (.Name x px) iter wi)
  (he:∀ C s H fp pins,QE (blk X scope cl C (x::fr) s H fp pins) elt te)
  (hs:∀ v,foldedSetIterable iter X.env v=pure v:=by intro _; rfl)
  (hsw:swapsWith (.ListComp elt [⟨.Name x px,iter,[],0⟩] scope pos) (some (.Name y py)) spos.line X.env=pure true:=by rfl)
  (hf:X.fn y=true∨X.env.scope.names.lookup y=some .local:=by first | exact .inl rfl | exact .inr rfl | assumption) :
  QS X (.Assign [.Name y py] (.ListComp elt [⟨.Name x px,iter,[],0⟩] scope pos) spos) (tAsg (tLC wi js te) (gName i)) :=
 ⟨ps_setLC hN hy hx hc L hi.run (fun C s H fp pins=>(he C s H fp pins).run) hs hsw hf⟩
end Sw
namespace Sw
open PySem PySem.Spec PyProof.Rows L2
section
variable {K:PySem.W.Frag}{H:Hp}{Q:VK}
theorem nCat {ts us:List T}{x y:V} (hx:TR K H (.node ts) x) (hy:TR K H (.node us) y) (hz:ts.length+us.length≤sizeLine) (q:∀ z H',Same H H'→TR K H' (.node (ts++us)) z→Q z H'):rCatTA K x y H Q:=by
 obtain⟨a,xs,rfl,ha,ra⟩:=TR_node.mp hx
 obtain⟨b,ys,rfl,hb,rb⟩:=TR_node.mp hy
 refine⟨a,b,xs,ys,rfl,rfl,ha,hb,by rw [ra.length,rb.length]; exact hz,fun p H' S h=>q _ _ S (TR_mk h ((ra.append rb).mono (.of S)))⟩
theorem TRs.at {ts:List T}{xs:List V} (h:TRs K H ts xs) {i:Nat}{t:T} (e:ts[i]?=some t):∃ x,xs[i]?=some x∧TR K H t x:=by
 have hl:=h.length
 have hi:i<ts.length:=(List.getElem?_eq_some_iff.mp e).1
 have e2:xs[i]?=some (xs[i]'(by lia)):=List.getElem?_eq_getElem _
 obtain⟨t',e3,h3⟩:=h.get e2
 rw [e] at e3
 cases e3
 exact⟨_,e2,h3⟩
theorem nIx {ts:List T}{x y:V}{t:T} (hx:TR K H (.node ts) x) (i:Nat) (e:ts[i]?=some t) (q:∀ z,TR K H t z→Q z H) (hy:y=.int ((i:Nat):Int):=by rfl):rIxT K x y H Q:=by
 obtain⟨a,xs,rfl,ha,ra⟩:=TR_node.mp hx
 obtain⟨v,e2,h2⟩:=ra.at e
 exact⟨a,xs,_,v,rfl,hy,ha,atI_nat e2,q v h2⟩
theorem nFrom {ts:List T}{x:V} (hx:TR K H (.node ts) x) (k:Nat) {j:Option Int} (q:∀ z H',Same H H'→TR K H' (.node (ts.drop k)) z→Q z H') (hj:j=some ((k:Nat):Int):=by rfl):rSlTA K x j none H Q:=by
 obtain⟨a,xs,rfl,ha,ra⟩:=TR_node.mp hx
 subst hj
 refine⟨a,xs,rfl,ha,fun p H' S h=>q _ _ S (TR_mk h ?_)⟩
 rw [cut_from]
 exact (ra.drop k).mono (.of S)
theorem trs1 {t:T}{x:V} (h:TR K H t x):TRs K H [t] [x]:=TRs_cons.mpr ⟨x,[],rfl,h,TRs_nil.mpr rfl⟩
theorem trs2 {t u:T}{x y:V} (h:TR K H t x) (g:TR K H u y):TRs K H [t,u] [x,y]:=TRs_cons.mpr ⟨x,[y],rfl,h,trs1 g⟩
end
section
variable {X:Cx}{K:PySem.W.Frag}
end
theorem bt_all:bootBuiltins "all"=some (.builtin "all"):=by decide +kernel
section
variable {X:Cx}
theorem bools_at:∀ {bs:List Bool}{its:List Value},Vals (bs.map V.bl) its→its=bs.map Value.bool
 | [],_,h=>by cases h; rfl
 | b::bs,_,h=>by
  cases h with
  | cons r q =>
   rw [bools_at q]
   exact congrArg (·::_) r
theorem range_all (bs:List Bool):(List.range bs.length).all (fun i=>bs.getD i true)=bs.all id:=by
 rw [Bool.eq_iff_iff,List.all_eq_true,List.all_eq_true]
 refine⟨fun h b hb=>?_,fun h i hi=>?_⟩
 ·obtain⟨i,hi,e⟩:=List.getElem_of_mem hb
  have:=h i (List.mem_range.mpr hi)
  rw [List.getD_eq_getElem?_getD,List.getElem?_eq_getElem hi,Option.getD_some,e] at this
  exact this
 ·have hi':=List.mem_range.mp hi
  rw [List.getD_eq_getElem?_getD,List.getElem?_eq_getElem hi',Option.getD_some]
  exact h _ (List.getElem_mem hi')
theorem call_all (hc:X.calm=true):CallR X (.builtin "all") (fun xs H Q=>∃ (p:Addr) (bs:List Bool),xs=[.ref p]∧SqL X.K H p (bs.map V.bl)∧Q (.bl (bs.all id)) H):=by
 intro pins s σ H xs us Q I r h
 obtain⟨p,bs,rfl,hq,q⟩:=h
 obtain⟨u,rfl,rx⟩:=vals1 r
 cases rx
 obtain⟨its,r',pl,hz⟩:=I.list hq
 have hit:=bools_at r'
 subst hit
 have hl:=pl.isList
 have hlt:p<s.heap.objs.size:=by obtain⟨_,e,_⟩:=hl; exact Heap.lt_size e
 refine call_all_walk (wpAny_pyIter_list hl ?_)
 refine⟨_,_,_,_,_,_,fun i=>bs.getD i true,rfl,Walks.list (A:=X.A.in1) (I.ok.hd hc) _ p (Nat.ne_of_lt hlt) (bs.map Value.bool).toArray,⟨⟨_,Heap.get?_push_size _ rfl,rfl,rfl⟩,hl.push _⟩,?_,fun h' tk hk=>?_⟩
 ·intro i v s Q E hv hQ
  rw [List.getElem?_toArray,List.getElem?_map] at hv
  cases hh:bs[i]? with
  | none=>rw [hh] at hv; cases hv
  | some b =>
   rw [hh] at hv
   cases hv
   have hQ':Q (bs.getD i true) s:=hQ
   rw [List.getD_eq_getElem?_getD,hh] at hQ'
   exact wpAny_truthy_bool hQ'
 ·have es:(List.range (bs.map Value.bool).toArray.size).all (fun i=>bs.getD i true)=bs.all id:=by
   rw [List.size_toArray,List.length_map]
   exact range_all bs
  rw [es]
  exact⟨.bl (bs.all id),H,I.kept (old_kept hk),rfl,q⟩
end
def B (a b:Nat) (t:T):Prop:=t.deep≤a∧t.parts≤b
theorem B.le {a b a' b':Nat}{t:T} (h:B a b t) (h1:a≤a') (h2:b≤b'):B a' b' t:=⟨Nat.le_trans h.1 h1,Nat.le_trans h.2 h2⟩
theorem B_nil:B 0 1 (.node []):=⟨by rw [T.deep_node,T.deepL_nil]; lia,by rw [T.parts_node,T.partsL_nil]; lia⟩
theorem B_cons {a b a' b':Nat}{t:T}{ts:List T} (h:B a b t) (g:B a' b' (.node ts)):B (max (a+1) a') (b+b') (.node (t::ts)):=by
 obtain⟨h1,h2⟩:=h
 obtain⟨g1,g2⟩:=g
 rw [T.deep_node] at g1
 rw [T.parts_node] at g2
 refine⟨?_,?_⟩
 ·rw [T.deep_node,T.deepL_cons]; lia
 ·rw [T.parts_node,T.partsL_cons]; lia
theorem B_cat {a b a' b':Nat}{us:List T} (g:B a' b' (.node us)):∀ {ts:List T},B a b (.node ts)→B (max a a') (b+b') (.node (ts++us))
 | [],_=>g.le (by lia) (by lia)
 | t::ts,h=>by
  obtain⟨h1,h2⟩:=h
  rw [T.deep_node,T.deepL_cons] at h1
  rw [T.parts_node,T.partsL_cons] at h2
  have q:=B_cat g (ts:=ts) (a:=a) (b:=b - t.parts) ⟨by rw [T.deep_node]; lia,by rw [T.parts_node]; lia⟩
  have q1:=q.1
  have q2:=q.2
  rw [T.deep_node] at q1
  rw [T.parts_node] at q2
  refine⟨?_,?_⟩
  ·rw [List.cons_append,T.deep_node,T.deepL_cons]; lia
  ·rw [List.cons_append,T.parts_node,T.partsL_cons]; lia
theorem B_tup1 {a b:Nat}{t:T} (h:B a b t):B (a+1) (b+1) (.node [t]):=(B_cons h B_nil).le (by lia) (by lia)
theorem B_row {a b n:Nat}:∀ {ts:List T},(∀ t∈ts,B a b t)→ts.length≤n→B (a+1) (1+n * b) (.node ts)
 | [],_,_=>B_nil.le (by lia) (by lia)
 | t::ts,h,hl=>by
  rw [List.length_cons] at hl
  obtain⟨m,rfl⟩:∃ m,n=m+1:=⟨n - 1,by lia⟩
  refine (B_cons (h t List.mem_cons_self) (B_row (n:=m) (fun u hu=>h u (List.mem_cons_of_mem _ hu)) (by lia))).le (by lia) ?_
  rw [Nat.succ_mul]; lia
theorem B.len {a b:Nat}{ts:List T} (h:B a b (.node ts)):ts.length<b:=by
 have h2:=h.2
 rw [T.parts_node] at h2
 have:∀ us:List T,us.length≤T.partsL us:=fun us=>by
  induction us with
  | nil=>exact Nat.zero_le _
  | cons u us ih =>
   rw [List.length_cons,T.partsL_cons]
   have:1≤u.parts:=by cases u; rw [T.parts_node]; lia
   lia
 have:=this ts
 lia
theorem tupN {K:PySem.W.Frag}{H:Hp}{p:Addr}{xs:List V}{ts:List T} (hp:H p=none) (h:TRs K H ts xs):Same H (upd H p (.tup xs))∧TR K (upd H p (.tup xs)) (.node ts) (.ref p) :=
 ⟨same_new hp _,TR_mk (SqT.of upd_same) (h.mono (.new hp))⟩
def pbT:Nat→Nat
 | 0=>1
 | d+1=>1+3 * pbT d
theorem partsL_le {ts:List T}{n b:Nat} (hl:ts.length≤n) (h:∀ t∈ts,t.parts≤b):T.partsL ts≤n * b :=
 Nat.le_trans (T.partsL_le_of h) (Nat.mul_le_mul_right b hl)
theorem leaf_tr {K:PySem.W.Frag}{H:Hp}{p:Addr} (h:H p=some (.tup [])):TR K H (.node []) (.ref p):=TR_mk (xs:=[]) (SqT.of h) (TRs_nil.mpr rfl)
theorem rep_one (x:V) (n:Nat):repV [x] (n:Int)=List.replicate n x:=by
 unfold repV
 rw [Int.toNat_natCast]
 induction n with
 | zero=>rfl
 | succ n ih=>rw [List.replicate_succ,List.flatten_cons,ih,List.replicate_succ]; rfl
theorem trs_rep {K:PySem.W.Frag}{H:Hp}{t:T}{x:V} (h:TR K H t x):∀ n:Nat,TRs K H (List.replicate n t) (List.replicate n x)
 | 0=>TRs_nil.mpr rfl
 | n+1=>by
  rw [List.replicate_succ,List.replicate_succ]
  exact TRs_cons.mpr ⟨x,_,rfl,h,trs_rep h n⟩
theorem ints_ex:∀ {ys:List V},(∀ (i:Nat) y,ys[i]?=some y→∃ n:Int,y=.int n∧0≤n∧n<2147483647)→∃ ns:List Int,ys=ns.map V.int∧∀ n∈ns,0≤n∧n<2147483647
 | [],_=>⟨[],rfl,fun _ h=>by simp at h⟩
 | y::ys,h=>by
  obtain⟨n,rfl,h1,h2⟩:=h 0 y rfl
  obtain⟨ns,e,g⟩:=ints_ex (ys:=ys) fun i z e=>h (i+1) z (by simpa using e)
  refine⟨n::ns,by rw [e]; rfl,fun m hm=>?_⟩
  rcases List.mem_cons.mp hm with rfl | hm
  ·exact⟨h1,h2⟩
  ·exact g m hm
def spDeck (K:PySem.W.Frag):Sp:=fun vs H Q _=>∃ (a:Addr) (ns:List Int),vs=[.ref a]∧SqL K H a (ns.map V.int)∧ns.length≤63∧∀ p H',Same H H'→H p=none→DkAt H' p→Q (.ref p) H'
def spNext:Sp:=fun vs H Q _=>∃ (p:Addr) (m:Int),vs=[.ref p,.int m]∧0<m∧DkAt H p∧∀ i H',0≤i→i<m→Dr p H H'→Q (.int i) H'
def ShT:Nat→T→Prop:=fun d t=>t.deep≤d∧t.parts≤pbT d
def spTree (K:PySem.W.Frag) (n:Nat):Sp:=fun vs H Q _=>∃ (p:Addr) (d:Nat),vs=[.ref p,.int (d:Int)]∧d≤n∧DkAt H p∧∀ y t H',Dr p H H'→TR K H' t y→ShT d t→Q y H'
def leavesT (n:Nat):T:=.node (List.replicate n (.node []))
def spLeaves (K:PySem.W.Frag):Sp:=fun vs H Q _=>∃ n:Nat,vs=[.int (n:Int)]∧n≤100000∧∀ y H',Same H H'→TR K H' (leavesT n) y→Q y H'
theorem B_leaves (n:Nat):B 1 (1+n) (leavesT n):=(B_row (n:=n) (fun t ht=>by rw [List.eq_of_mem_replicate ht]; exact B_nil) (by rw [List.length_replicate]; exact Nat.le_refl _)).le (by lia) (by lia)
theorem ShT.b {d:Nat}{t:T} (h:ShT d t):B d (pbT d) t:=h
def spLaw (K:PySem.W.Frag):Sp:=fun vs H Q _=>∃ (a:Addr) (ns:List Int),vs=[.ref a]∧SqL K H a (ns.map V.int)∧ns.length≤63∧∀ H',Q (.bl true) H'
def sortT (t:T):Nat:=match t.kids with
 | []=>0
 | f::_=>min 9 f.kids.length
def loadT (t:T):T:=.node (t.kids.drop 1)
theorem flat_rep {α:Type} (x:α) (n:Nat):(List.replicate n [x]).flatten=List.replicate n x:=by
 induction n with
 | zero=>rfl
 | succ n ih=>rw [List.replicate_succ,List.flatten_cons,ih,List.replicate_succ]; rfl
def wordT (n:Nat) (us:List T):T:=.node (leavesT n::us)
def spLay (K:PySem.W.Frag):Sp:=fun vs H Q _=>∃ x t,vs=[x]∧TR K H t x∧t.deep≤400∧t.parts≤1000000∧∀ y H',Same H H'→TR K H' (wordT 0 t.kids) y→Q y H'
def spLoop (K:PySem.W.Frag):Sp:=fun vs H Q _=>∃ x t,vs=[x]∧TR K H t x∧t.deep≤400∧t.parts≤1000000∧∀ y H',Same H H'→TR K H' (wordT 8 t.kids) y→Q y H'
def spPlain (K:PySem.W.Frag):Sp:=fun vs H Q _=>∃ n:Nat,vs=[.int (n:Int)]∧1≤n∧n≤6∧∀ y H',Same H H'→TR K H' (wordT n []) y→Q y H'
def spFork (K:PySem.W.Frag):Sp:=fun vs H Q _=>∃ x t y u,vs=[x,y]∧TR K H t x∧TR K H u y∧(t.deep≤400∧t.parts≤1000000)∧(u.deep≤400∧u.parts≤1000000)∧∀ z H',Same H H'→TR K H' (wordT 7 (t::u.kids)) z→Q z H'
end Sw
namespace Sw
open PySem PySem.Spec PyProof.Rows L2
theorem nFromP {K:PySem.W.Frag}{H:Hp}{Q:VK}{σ:L2.St}{ts:List T}{x:V} (hx:TR K H (.node ts) x) (k:Nat) {j:Option Int} (q:∀ z H',Same H H'→TR K H' (.node (ts.drop k)) z→Q z H') (hj:j=some ((k:Nat):Int):=by rfl):tNoPart σ H (fun u H3=>rSlTA K x j u H3 Q):=nFrom hx k q hj
theorem nIxP {K:PySem.W.Frag}{H:Hp}{Q:VK}{σ:L2.St}{ts:List T}{x y:V}{t:T} (hx:TR K H (.node ts) x) (i:Nat) (e:ts[i]?=some t) (q:∀ z,TR K H t z→Q z H) (hy:y=.int ((i:Nat):Int):=by rfl):tC y σ H (fun y H2=>rIxT K x y H2 Q):=nIx hx i e q hy
theorem B_loadT {a b:Nat}{t:T} (h:B a b t):B a b (loadT t):=by
 cases t with
 | node ts =>
  cases ts with
  | nil=>exact h
  | cons u us =>
   obtain⟨h1,h2⟩:=h
   rw [T.deep_node,T.deepL_cons] at h1
   rw [T.parts_node,T.partsL_cons] at h2
   exact⟨by show (T.node us).deep≤a; rw [T.deep_node]; lia,by show (T.node us).parts≤b; rw [T.parts_node]; lia⟩
def leaf:T:=.node []
def ats (s:List T) (k:Nat):T:=(s[k]?).getD leaf
def many (k:Nat):Nat:=([0,1,1,2,2,1,3,1,1,0]:List Nat).getD k 0
def pad (s:List T) (n:Nat):List T:=s++List.replicate (n - s.length) leaf
theorem pad_of {s:List T}{n:Nat} (h:n≤s.length):pad s n=s:=by
 unfold pad
 rw [show n - s.length=0 by lia,List.replicate_zero,List.append_nil]
theorem pad_len (s:List T) (n:Nat):n≤(pad s n).length:=by
 unfold pad
 rw [List.length_append,List.length_replicate]
 lia
def behind (w:T) (s:List T):List T :=
 if sortT w=0 then loadT w::s
 else if 6<sortT w then pad s (many (sortT w))
 else if sortT w=1 then (pad s 1).drop 1
 else if sortT w=2 then ats (pad s 1) 0::ats (pad s 1) 0::(pad s 1).drop 1
 else if sortT w=3 then ats (pad s 2) 1::ats (pad s 2) 0::(pad s 2).drop 2
 else if sortT w=4 then .node (ats (pad s 2) 0::(ats (pad s 2) 1).kids)::(pad s 2).drop 2
 else if sortT w=5 then ats (ats (pad s 1) 0).kids 0::.node ((ats (pad s 1) 0).kids.drop 1)::(pad s 1).drop 1
 else ats (pad s 3) 2::ats (pad s 3) 0::ats (pad s 3) 1::(pad s 3).drop 3
def onward (tx s:List T):List T×List T×Nat :=
 match (ats tx 0).kids with
 | []=>(tx.drop 1,s,12)
 | w::ws =>
  if sortT w=7 then
   if (ats s 0).kids≠[] then (ats (w.kids.drop 1) 0::.node ws::tx.drop 1,behind w s,7) else (.node (w.kids.drop 2)::.node ws::tx.drop 1,behind w s,8)
  else if sortT w=8 then
   if (ats s 0).kids≠[] then (loadT w::tx,behind w s,9) else (.node ws::tx.drop 1,behind w s,10)
  else if sortT w=9 then (.node ws::tx.drop 1,behind w s,11)
  else (.node ws::tx.drop 1,behind w s,sortT w)
theorem sort_le (w:T):sortT w≤9:=by
 unfold sortT
 split
 ·lia
 ·exact Nat.min_le_left _ _
def spSortL (K:PySem.W.Frag):Sp:=fun vs H Q _=>∃ x t,vs=[x]∧TR K H t x∧t.deep≤400∧∀ H',Same H H'→Q (.int (sortT t:Nat)) H'
theorem ats_mem {s:List T}{k:Nat} (h:k<s.length):s[k]?=some (ats s k):=by
 unfold ats
 rw [List.getElem?_eq_getElem h]
 rfl
theorem kids_node (t:T):T.node t.kids=t:=by cases t; rfl
section
variable {w:T}{s:List T}
theorem beh0 (h:sortT w=0):behind w s=loadT w::s:=by unfold behind; rw [if_pos h]
theorem beh7 (h:6<sortT w):behind w s=pad s (many (sortT w)):=by unfold behind; rw [if_neg (by lia),if_pos h]
theorem beh1 (h:sortT w=1):behind w s=(pad s 1).drop 1:=by unfold behind; rw [h]; rfl
theorem beh2 (h:sortT w=2):behind w s=ats (pad s 1) 0::ats (pad s 1) 0::(pad s 1).drop 1:=by unfold behind; rw [h]; rfl
theorem beh3 (h:sortT w=3):behind w s=ats (pad s 2) 1::ats (pad s 2) 0::(pad s 2).drop 2:=by unfold behind; rw [h]; rfl
theorem beh4 (h:sortT w=4):behind w s=.node (ats (pad s 2) 0::(ats (pad s 2) 1).kids)::(pad s 2).drop 2:=by unfold behind; rw [h]; rfl
theorem beh5 (h:sortT w=5):behind w s=ats (ats (pad s 1) 0).kids 0::.node ((ats (pad s 1) 0).kids.drop 1)::(pad s 1).drop 1:=by unfold behind; rw [h]; rfl
theorem beh6 (h:sortT w=6):behind w s=ats (pad s 3) 2::ats (pad s 3) 0::ats (pad s 3) 1::(pad s 3).drop 3:=by unfold behind; rw [h]; rfl
end
theorem ats_in {s:List T}{k:Nat} (h:k<s.length):ats s k∈s:=List.mem_of_getElem? (ats_mem h)
section
variable {X:Cx}
end
theorem B.pos {a b:Nat}{t:T} (h:B a b t):1≤b:=Nat.le_trans (T.parts_pos t) h.2
theorem B_drop {a b:Nat} (k:Nat) {ts:List T} (h:B a b (.node ts)):B a b (.node (ts.drop k)):=by
 obtain⟨h1,h2⟩:=h
 have e:=List.take_append_drop k ts
 rw [← e,T.deep_node,T.deepL_append] at h1
 rw [← e,T.parts_node,T.partsL_append] at h2
 exact⟨by rw [T.deep_node]; lia,by rw [T.parts_node]; lia⟩
theorem B_mem {a b:Nat}{ts:List T}{t:T} (h:B a b (.node ts)) (ht:t∈ts):B a b t:=by
 have h1:=h.1
 have h2:=h.2
 rw [T.deep_node] at h1
 rw [T.parts_node] at h2
 have:=T.mem_deep ht
 have:=T.mem_parts ht
 exact⟨by lia,by lia⟩
theorem B_ats {a b:Nat}{ts:List T} (h:B a b (.node ts)) (k:Nat):B a b (ats ts k):=by
 by_cases hk:k<ts.length
 ·exact B_mem h (ats_in hk)
 ·unfold ats
  rw [List.getElem?_eq_none (by lia)]
  exact B_nil.le (by lia) h.pos
theorem B_kids {a b:Nat}{t:T} (h:B a b t):B a b (.node t.kids):=by rw [kids_node]; exact h
theorem B_pad {a b:Nat}{s:List T} (n:Nat) (hn:n≤3) (ha:1≤a) (h:B a b (.node s)):B a (b+4) (.node (pad s n)) :=
 (B_cat (B_row (a:=0) (b:=1) (n:=3) (fun t ht=>by rw [List.eq_of_mem_replicate ht]; exact B_nil) (by rw [List.length_replicate]; lia)) h).le (by lia) (by lia)
theorem B_behind {a b:Nat}{w:T}{s:List T} (ha:1≤a) (hw:B a b w) (hs:B a b (.node s)):B (a+2) (4 * b+16) (.node (behind w s)):=by
 have hb:=hw.pos
 unfold behind
 split
 ·exact (B_cons (B_loadT hw) hs).le (by lia) (by lia)
 split
 ·refine (B_pad _ ?_ ha hs).le (by lia) (by lia)
  have:∀ k,k≤9→many k≤3:=by decide
  exact this _ (sort_le w)
 have p1:=B_pad 1 (by lia) ha hs
 have p2:=B_pad 2 (by lia) ha hs
 have p3:=B_pad 3 (by lia) ha hs
 split
 ·exact (B_drop 1 p1).le (by lia) (by lia)
 split
 ·exact (B_cons (B_ats p1 0) (B_cons (B_ats p1 0) (B_drop 1 p1))).le (by lia) (by lia)
 split
 ·exact (B_cons (B_ats p2 1) (B_cons (B_ats p2 0) (B_drop 2 p2))).le (by lia) (by lia)
 split
 ·exact (B_cons (B_cons (B_ats p2 0) (B_kids (B_ats p2 1))) (B_drop 2 p2)).le (by lia) (by lia)
 split
 ·exact (B_cons (B_ats (B_kids (B_ats p1 0)) 0) (B_cons (B_drop 1 (B_kids (B_ats p1 0))) (B_drop 1 p1))).le (by lia) (by lia)
 ·exact (B_cons (B_ats p3 2) (B_cons (B_ats p3 0) (B_cons (B_ats p3 1) (B_drop 3 p3)))).le (by lia) (by lia)
theorem B_onward {a b:Nat}{tx s:List T} (ha:1≤a) (ht:B a b (.node tx)) (hs:B a b (.node s)):B (a+2) (4 * b+16) (.node (onward tx s).1)∧B (a+2) (4 * b+16) (.node (onward tx s).2.1):=by
 have hb:=ht.pos
 have t0:=B_kids (B_ats ht 0)
 unfold onward
 split
 ·exact⟨(B_drop 1 ht).le (by lia) (by lia),hs.le (by lia) (by lia)⟩
 ·rename_i w ws e
  rw [e] at t0
  have hw:B a b w:=B_mem t0 List.mem_cons_self
  have hws:B a b (.node ws):=B_drop 1 t0
  have hbe:=B_behind ha hw hs
  have hd:=B_drop 1 ht
  have hl:=B_drop 1 (B_kids hw)
  split
  ·split
   ·exact⟨(B_cons (B_ats hl 0) (B_cons hws hd)).le (by lia) (by lia),hbe⟩
   ·exact⟨(B_cons (B_drop 2 (B_kids hw)) (B_cons hws hd)).le (by lia) (by lia),hbe⟩
  split
  ·split
   ·exact⟨(B_cons (B_loadT hw) ht).le (by lia) (by lia),hbe⟩
   ·exact⟨(B_cons hws hd).le (by lia) (by lia),hbe⟩
  split
  ·exact⟨(B_cons hws hd).le (by lia) (by lia),hbe⟩
  ·exact⟨(B_cons hws hd).le (by lia) (by lia),hbe⟩
theorem setP {te:TE}{i:Nat}{u:TS}{D:Ends}{σ:L2.St}{H:Hp} (P:V→Hp→Prop) (h:∀ R:VK,(∀ v H',P v H'→R v H')→te σ H R) (k:∀ v H',P v H'→u D (σ.set i (some v)) H'):tSeq (tAsg te (gName i)) u D σ H:=h _ k
theorem setQ {te:TE}{i:Nat}{u:TS}{D:Ends}{σ:L2.St}{H:Hp} (σ':V→L2.St) (hσ:∀ v,σ.set i (some v)=σ' v) (P:V→Hp→Prop) (h:∀ R:VK,(∀ v H',P v H'→R v H')→te σ H R) (k:∀ v H',P v H'→u D (σ' v) H'):tSeq (tAsg te (gName i)) u D σ H :=
 setP P h fun v H' p=>by rw [hσ]; exact k v H' p
end Sw
namespace Sw
open PySem PySem.Spec PyProof.Rows L2
def TupO (o:Obj) (xs:List V):Prop:=∃ (its:Array Value) (n:Nat),o.cls=.type "tuple"∧o.data=.seq its n∧its.size≤sizeLine∧Vals xs its.toList
theorem TupO.sq {K:PySem.W.Frag}{o:Obj}{xs:List V}{a:Addr}{H:Hp} (h:TupO o xs) (l:K.lookup a=some o):SqT K H a xs:=by
 obtain⟨its,n,h1,h2,h3,h4⟩:=h
 exact .inr ⟨o,its,n,l,h1,h2,h3,h4⟩
def spFirst (K:PySem.W.Frag):Sp:=fun vs H Q _=>∃ x t,vs=[x]∧TR K H t x∧t.deep≤400∧∀ y H',Same H H'→TR K H' (ats t.kids 0) y→Q y H'
def spRest (K:PySem.W.Frag):Sp:=fun vs H Q _=>∃ x t,vs=[x]∧TR K H t x∧∀ y H',Same H H'→TR K H' (loadT t) y→Q y H'
theorem sort_ats (t:T):sortT t=min 9 (ats t.kids 0).kids.length:=by
 cases t with
 | node ts=>cases ts <;> rfl
theorem TR_kids {K:PySem.W.Frag}{H:Hp}{t:T}{x:V} (h:TR K H t x):TR K H (.node t.kids) x:=by rw [kids_node]; exact h
theorem smallM {n:Nat} (h:n≤16000000):n≤sizeLine:=Nat.le_trans h (by decide)
theorem two62:(2:Int) ^ 62=4611686018427387904:=by decide
theorem nRep {K:PySem.W.Frag}{H:Hp}{Q:VK}{x y:V}{k:Int} (n:Nat) (hx:TR K H (.node [.node []]) x) (hy:y=.int k) (hk:k.toNat=n) (h0:-16000000≤k) (hn:n≤16000000) (q:∀ z H',Same H H'→TR K H' (leavesT n) z→Q z H'):rRepTA K x y H Q:=by
 obtain⟨a,xs,rfl,ha,ra⟩:=TR_node.mp hx
 obtain⟨v,r,rfl,hv,hr⟩:=TRs_cons.mp ra
 rw [TRs_nil] at hr
 subst hr
 subst hk
 have h2:=two62
 refine⟨a,k,[v],rfl,hy,ha,by lia,by lia,by show 1 * k.toNat≤sizeLine; exact smallM (by lia),fun p H' S h=>q _ _ S ?_⟩
 have e:repV [v] k=List.replicate k.toNat v:=by
  unfold repV
  exact flat_rep v _
 rw [e] at h
 exact TR_mk h (trs_rep (hv.mono (.of S)) _)
theorem nRepP {K:PySem.W.Frag}{H:Hp}{Q:VK}{σ:L2.St}{x y:V}{k:Int} (n:Nat) (hx:TR K H (.node [.node []]) x) (hy:y=.int k) (hk:k.toNat=n) (h0:-16000000≤k) (hn:n≤16000000) (q:∀ z H',Same H H'→TR K H' (leavesT n) z→Q z H'):tC y σ H (fun y H2=>rRepTA K x y H2 Q):=nRep n hx hy hk h0 hn q
def looks (k:Nat):Nat:=([0,1,1,2,2,1,3,1,1,1,1,0,0]:List Nat).getD k 0
def workT (k:Nat) (l:T) (s:List T):List T :=
 if k=0 then l::s
 else if k=1 then s.drop 1
 else if k=2 then ats s 0::s
 else if k=3 then ats s 1::ats s 0::s.drop 2
 else if k=4 then .node (ats s 0::(ats s 1).kids)::s.drop 2
 else if k=5 then ats (ats s 0).kids 0::loadT (ats s 0)::s.drop 1
 else if k=6 then ats s 2::ats s 0::ats s 1::s.drop 3
 else s
theorem cons_drop {s:List T} (h:1≤s.length):ats s 0::s.drop 1=s:=by
 cases s with
 | nil=>simp at h
 | cons t r=>rfl
theorem work_behind {w:T}{s:List T} (h:sortT w≤6):behind w s=workT (sortT w) (loadT w) (pad s (looks (sortT w))):=by
 have hl:sortT w=0∨sortT w=1∨sortT w=2∨sortT w=3∨sortT w=4∨sortT w=5∨sortT w=6:=by lia
 rcases hl with e | e | e | e | e | e | e
 ·rw [beh0 e,e]; show _=loadT w::pad s 0; rw [pad_of (Nat.zero_le _)]
 ·rw [beh1 e,e]; rfl
 ·rw [beh2 e,e]
  show _=ats (pad s 1) 0::pad s 1
  rw [cons_drop (pad_len s 1)]
 ·rw [beh3 e,e]; rfl
 ·rw [beh4 e,e]; rfl
 ·rw [beh5 e,e]; rfl
 ·rw [beh6 e,e]; rfl
def stepT (tx s:List T):Nat:=(onward tx s).2.2
theorem step_nil {tx s:List T} (h:(ats tx 0).kids=[]):stepT tx s=12:=by
 unfold stepT onward
 rw [h]
section
variable {tx s:List T}{w:T}{ws:List T}
theorem on_nil (h:(ats tx 0).kids=[]):onward tx s=(tx.drop 1,s,12):=by
 unfold onward
 rw [h]
theorem on_yes (h:(ats tx 0).kids=w::ws) (e:sortT w=7) (d:(ats s 0).kids≠[]):onward tx s=(ats (w.kids.drop 1) 0::.node ws::tx.drop 1,pad s 1,7):=by
 unfold onward
 rw [h]
 show (if sortT w=7 then _ else _)=_
 rw [if_pos e,if_pos d,beh7 (by lia),e]
 rfl
theorem on_no (h:(ats tx 0).kids=w::ws) (e:sortT w=7) (d:(ats s 0).kids=[]):onward tx s=(.node (w.kids.drop 2)::.node ws::tx.drop 1,pad s 1,8):=by
 unfold onward
 rw [h]
 show (if sortT w=7 then _ else _)=_
 rw [if_pos e,if_neg (by simp [d]),beh7 (by lia),e]
 rfl
theorem on_into (h:(ats tx 0).kids=w::ws) (e:sortT w=8) (d:(ats s 0).kids≠[]):onward tx s=(loadT w::tx,pad s 1,9):=by
 unfold onward
 rw [h]
 show (if sortT w=7 then _ else _)=_
 rw [if_neg (by lia),if_pos e,if_pos d,beh7 (by lia),e]
 rfl
theorem on_past (h:(ats tx 0).kids=w::ws) (e:sortT w=8) (d:(ats s 0).kids=[]):onward tx s=(.node ws::tx.drop 1,pad s 1,10):=by
 unfold onward
 rw [h]
 show (if sortT w=7 then _ else _)=_
 rw [if_neg (by lia),if_pos e,if_neg (by simp [d]),beh7 (by lia),e]
 rfl
theorem on_less (h:(ats tx 0).kids=w::ws) (e:sortT w=9):onward tx s=(.node ws::tx.drop 1,pad s 0,11):=by
 unfold onward
 rw [h]
 show (if sortT w=7 then _ else _)=_
 rw [if_neg (by lia),if_neg (by lia),if_pos e,beh7 (by lia),e]
 rfl
theorem on_word (h:(ats tx 0).kids=w::ws) (e:sortT w≤6):onward tx s=(.node ws::tx.drop 1,workT (sortT w) (loadT w) (pad s (looks (sortT w))),sortT w):=by
 unfold onward
 rw [h]
 show (if sortT w=7 then _ else _)=_
 rw [if_neg (by lia),if_neg (by lia),if_neg (by lia),work_behind e]
end
theorem work_ge {k:Nat}{l:T}{s:List T} (h:7≤k):workT k l s=s:=by
 unfold workT
 rw [if_neg (by lia),if_neg (by lia),if_neg (by lia),if_neg (by lia),if_neg (by lia),if_neg (by lia),if_neg (by lia)]
theorem looks_le (k:Nat):looks k≤3:=by
 by_cases h:k<13
 ·have:∀ k,k<13→looks k≤3:=by decide
  exact this k h
 ·unfold looks
  rw [List.getD_eq_getElem?_getD,List.getElem?_eq_none (by show 13≤k; lia)]
  decide
section
variable {tx s:List T}
theorem on_all:((ats tx 0).kids=[]∧onward tx s=(tx.drop 1,s,12))∨∃ w ws,(ats tx 0).kids=w::ws ∧
  (onward tx s=(ats (w.kids.drop 1) 0::.node ws::tx.drop 1,pad s 1,7)∨onward tx s=(.node (w.kids.drop 2)::.node ws::tx.drop 1,pad s 1,8)∨onward tx s=(loadT w::tx,pad s 1,9) ∨ ∃ k,(k≤6∨k=10∨k=11)∧onward tx s=(.node ws::tx.drop 1,workT k (loadT w) (pad s (looks k)),k)):=by
 cases hk:(ats tx 0).kids with
 | nil=>exact .inl ⟨rfl,on_nil hk⟩
 | cons w ws =>
  refine .inr ⟨w,ws,rfl,?_⟩
  have h9:=sort_le w
  by_cases e7:sortT w=7
  ·by_cases d:(ats s 0).kids=[]
   ·exact .inr (.inl (on_no hk e7 d))
   ·exact .inl (on_yes hk e7 d)
  by_cases e8:sortT w=8
  ·by_cases d:(ats s 0).kids=[]
   ·exact .inr (.inr (.inr ⟨10,by lia,on_past hk e8 d⟩))
   ·exact .inr (.inr (.inl (on_into hk e8 d)))
  by_cases e9:sortT w=9
  ·exact .inr (.inr (.inr ⟨11,by lia,on_less hk e9⟩))
  ·exact .inr (.inr (.inr ⟨sortT w,by lia,on_word hk (by lia)⟩))
theorem step_le:stepT tx s≤12:=by
 unfold stepT
 rcases on_all (tx:=tx) (s:=s) with⟨_,e⟩ | ⟨w,ws,_,e | e | e | ⟨k,h,e⟩⟩
 ·rw [e]; exact Nat.le_refl 12
 ·rw [e]; show 7≤12; lia
 ·rw [e]; show 8≤12; lia
 ·rw [e]; show 9≤12; lia
 ·rw [e]; show k≤12; lia
variable {w:T}{ws:List T}
end
def BX (tx:List T):Prop:=tx.length≤8000000∧∀ t∈tx,B 389 8000000 t
theorem BX.of {a b:Nat}{tx:List T} (h:B a b (.node tx)) (ha:a≤390) (hb:b≤8000000):BX tx:=by
 refine⟨by have:=h.len; lia,fun t ht=>?_⟩
 have h1:=h.1
 have h2:=h.2
 rw [T.deep_node] at h1
 rw [T.parts_node] at h2
 have:=T.mem_deep ht
 have:=T.mem_parts ht
 exact⟨by lia,by lia⟩
end Sw
namespace Sw
open PySem PySem.Spec PyProof.Rows L2
end Sw
namespace Sw
open PySem PySem.Spec PyProof.Rows L2
theorem qg_sub {X:Cx}{pos:Pos}{o i:Expr}{to ti:TE}{t:TSet} (ho:QE X o to) (hi:QE X i ti) (hs:PSet X t)
  (ha:∀ v,assign (.Subscript o i pos) X.env v=(do
   let ov ← holding [v] (eval o X.env)
   let iv ← holding [v,ov] (eval i X.env)
   standAt pos
   holding [v,ov,iv] (setItem ov iv v)
   release [v,ov,iv] []):=by intro _; rfl):QG X (.Subscript o i pos) (gSub to ti t):=⟨L2.pg_sub (ho:=ho.run) (hi:=hi.run) (hs:=hs) (ha:=ha)⟩
section
variable {X:Cx}
theorem call_sumT (hc:X.calm=true):CallR X (.builtin "sum") (fun xs H Q=>∃ (p:Addr) (ns:List Int),xs=[.ref p]∧SqT X.K H p (ns.map V.int)∧Q (.int ns.sum) H):=by
 intro pins s σ H xs us Q I r h
 obtain⟨p,ns,rfl,hq,q⟩:=h
 obtain⟨u,rfl,rx⟩:=vals1 r
 cases rx
 obtain⟨its,r',pl,hz⟩:=I.tuple hq
 have hi:IntsAre its ns:=intsAre_of r'
 obtain⟨ys,e⟩:=hi.allInts.items
 have hns:ns=ys.toList.map (·.1):=by
  rw [← hi.numsOf,← nums_intItems,← e]
 have ht:s.heap.IsTuple p its.toArray:=pl
 rw [e] at ht
 obtain⟨o,ho,hc',n,hd⟩:=id ht
 have hne:p≠s.heap.objs.size:=Nat.ne_of_lt (Heap.lt_size ho)
 have hsz:(intItems ys).size=ys.size:=by simp [intItems]
 have W:=Walks.tuple (prog:=X.prog) (w:=X.w) (A:=X.A.in1) (I.ok.hd hc) s.heap.objs.size p hne (intItems ys)
 rw [hsz] at W
 refine call_sum_walkG (wpAny_pyIter_tuple ht ?_)
 refine⟨s.heap.objs.size,_,_,_,_,_,numAt ys,rfl,W,⟨⟨_,Heap.get?_push_size _ rfl,rfl,rfl⟩,ht.push _⟩,fun b hb=>?_,fun i v hP=>intItems_at hP,fun h' tk t' hk=>?_⟩
 ·rcases List.mem_cons.mp hb with rfl | hb
  ·exact Heap.lt_size (Heap.get?_push_size _ rfl)
  ·obtain rfl:=List.mem_singleton.mp hb
   exact Heap.lt_size (Heap.get?_push_of_some _ ho)
 ·have es:preSum (numAt ys) ys.size=ns.sum:=by rw [preSum_eq,List.take_of_length_le (by simp),hns]
  exact⟨.int ns.sum,H,I.kept (fun b o e=>hk b o (fun z=>absurd (Heap.lt_size e) (by rw [List.mem_singleton.mp z]; exact Nat.lt_irrefl _)) (Heap.get?_push_of_some _ e)),⟨t',by rw [es]⟩,q⟩
end
theorem ixN_nat {n j:Nat} (h:j<n):ixN n (j:Int)=some j:=by
 unfold ixN
 rw [if_pos (by lia),if_pos (by lia),Int.toNat_natCast]
abbrev nv (n:Nat):V:=.int (n:Int)
def spPartsM (K:PySem.W.Frag):Sp:=fun vs H Q _=>∃ x t,vs=[x]∧TR K H t x∧t.parts≤8000000∧∀ H',Same H H'→Q (.int t.parts) H'
def WPartsM (K:PySem.W.Frag) (H:Hp) (x:V) (n:Nat) (p:Addr):Nat→Sg→Hp→Prop:=fun m σ H'=>∃ (ys:List V) (ts:List T) (c:Nat) (o:Option V),
 σ=[some x,some (.ref p),some (.int c),o]∧Same H H'∧H' p=some (.lst ys)∧TRs K H' ts ys∧c+T.partsL ts=n∧m=T.partsL ts
def ev0 (k:Nat):List Nat:=(List.replicate 15 0).set k 1
def eventT (tx s:List T):List Nat :=
 if stepT tx s=2 then (ev0 2).set 13 (ats s 0).parts
 else if stepT tx s=9 then (ev0 9).set 14 (loadT (ats (ats tx 0).kids 0)).parts
 else ev0 (stepT tx s)
def costZ (ns:List Nat):Int:=((ns.take 13).map fun n:Nat=>(n:Int)).sum - (ns.getD 2 0:Nat)+(ns.getD 13 0:Nat)
def costT (tx s:List T):Nat:=if stepT tx s=2 then (ats s 0).parts else 1
theorem ev_len (tx s:List T):(eventT tx s).length=15:=by
 unfold eventT ev0
 split
 ·simp
 split <;> simp
theorem ev_cost (tx s:List T):costZ (eventT tx s)=(costT tx s:Nat):=by
 have h:=step_le (tx:=tx) (s:=s)
 unfold eventT costT
 split
 ·rename_i e
  show (0+(0+(1+(0+(0+(0+(0+(0+(0+(0+(0+(0+(0+0))))))))))))) - (1:Int)+((ats s 0).parts:Int)=_
  lia
 split
 ·show (0+(0+(0+(0+(0+(0+(0+(0+(0+(1+(0+(0+(0+0))))))))))))) - (0:Int)+(0:Int)=_
  lia
 ·generalize stepT tx s=k at *
  have:∀ k,k≤12→k≠2→costZ (ev0 k)=((1:Nat):Int):=by decide
  exact this k h (by assumption)
theorem cost_pos (tx s:List T):1≤costT tx s:=by
 unfold costT
 split
 ·exact T.parts_pos _
 ·exact Nat.le_refl 1
def spCost (K:PySem.W.Frag):Sp:=fun vs H Q _=>∃ (a:Addr) (ns:List Nat),vs=[.ref a]∧SqT K H a (ns.map nv)∧ns.length=15∧∀ H',Same H H'→Q (.int (costZ ns)) H'
theorem nv_at {ns:List Nat}{k:Nat} (h:k<ns.length):atI (ns.map nv) (k:Int)=some (.int ((ns.getD k 0:Nat):Int)) :=
 atI_nat (by rw [List.getElem?_map,List.getElem?_eq_getElem h,List.getD_eq_getElem?_getD,List.getElem?_eq_getElem h]; rfl)
theorem nv_take (ns:List Nat) (k:Nat):(ns.map nv).take k=((ns.take k).map fun n:Nat=>(n:Int)).map V.int:=by
 rw [← List.map_take,List.map_map]
 rfl
theorem nv_set (ns:List Nat) (k v:Nat):(ns.map nv).set k (nv v)=(ns.set k v).map nv:=by rw [List.map_set]
end Sw
namespace Sw
open PySem PySem.Spec PyProof.Rows L2
theorem drop_parts (s:List T) (k:Nat):T.partsL (s.drop k)≤T.partsL s:=by
 have e:=congrArg T.partsL (List.take_append_drop k s)
 rw [T.partsL_append] at e
 lia
theorem parts_eq (t:T):t.parts=1+T.partsL t.kids:=by cases t; rw [T.parts_node]; rfl
theorem load_parts (t:T):(loadT t).parts≤t.parts:=by
 unfold loadT
 rw [T.parts_node,parts_eq t]
 have:=drop_parts t.kids 1
 lia
end Sw
namespace PySem
section
variable {prog:Program}{w:World}{A:Around}{E:Value→Shared→Prop}{s:Shared}
end
end PySem
namespace Sw
open PySem PySem.Spec PyProof.Rows L2
section
variable {X:Cx}{pins:List (Addr×Obj)}{σ:Sg}{H:Hp}{s:Shared}{scope:Scope}{cl:List (Str×Addr)}{x y:Str}{fr:List Str}{js:List Nat}{fp:List Addr}
end
section
variable {X:Cx}{scope:Scope}{cl:List (Str×Addr)}{x y:Str}{fr:List Str}{js:List Nat}{elt iter:Expr}{px py pt pos:Pos}{kt:Nat}{wi:TI}{te:TE}
end
end Sw
namespace Sw
open PySem PySem.Spec PyProof.Rows L2
theorem CallR.or {X:Cx}{f:Value}{r1 r2:List V→Hp→VK→Prop} (h1:CallR X f r1) (h2:CallR X f r2):CallR X f (fun xs H Q=>r1 xs H Q∨r2 xs H Q):=by
 intro pins s σ H xs us Q I r h
 rcases h with h | h
 ·exact h1 pins s σ H xs us Q I r h
 ·exact h2 pins s σ H xs us Q I r h
section
variable {X:Cx}{pins:List (Addr×Obj)}{σ:Sg}{H:Hp}{s:Shared}
end
section
variable {X:Cx}
theorem call_isinstA:CallR X (.builtin "isinstance") (fun xs H Q=>(∃ x T t b,xs=[x,.ty T]∧TyOf X.K H x t∧PySem.W.kitOne X.K t (.type T)=some b∧Q (.bl b) H)∨(∃ a ys T b,xs=[.ref a,.ty T]∧SqT X.K H a ys∧PySem.W.kitOne X.K (.type "tuple") (.type T)=some b∧Q (.bl b) H)):=CallR.or call_isinst call_isinstT
end
end Sw
namespace Sw
open PySem PySem.Spec PyProof.Rows L2
namespace Dt
end Dt
section
variable {K:PySem.W.Frag}{H H':Hp}
end
section
variable {X:Cx}{pins:List (Addr×Obj)}{σ:Sg}{H:Hp}{s:Shared}
end
section
variable {X:Cx}{pins:List (Addr×Obj)}{σ:Sg}{H:Hp}{s:Shared}
end
section
variable {X:Cx}
end
end Sw
namespace Sw
open PySem PySem.Spec PyProof.Rows L2
def zero15:List Nat:=List.replicate 15 0
def addT (a b:List Nat):List Nat:=a.zipWith (· + ·) b
theorem addT_len {a b:List Nat} (h:a.length=15) (g:b.length=15):(addT a b).length=15:=by unfold addT; rw [List.length_zipWith,h,g]; rfl
theorem addT_zero {b:List Nat} (g:b.length=15):addT zero15 b=b:=by
 unfold addT zero15
 refine List.ext_getElem? fun i=>?_
 rw [List.getElem?_zipWith,List.getElem?_replicate]
 by_cases h:i<15
 ·rw [if_pos h,List.getElem?_eq_getElem (by lia)]
  show some (0+_)=some _
  rw [Nat.zero_add]
 ·rw [if_neg h,List.getElem?_eq_none (by lia)]
theorem addT_zeroR {b:List Nat} (g:b.length=15):addT b zero15=b:=by
 unfold addT zero15
 refine List.ext_getElem? fun i=>?_
 rw [List.getElem?_zipWith,List.getElem?_replicate]
 by_cases h:i<15
 ·rw [if_pos h,List.getElem?_eq_getElem (by lia)]
  show some (_+0)=some _
  rw [Nat.add_zero]
 ·rw [if_neg h,List.getElem?_eq_none (by lia)]
theorem addT_assoc (a b c:List Nat):addT (addT a b) c=addT a (addT b c):=by
 unfold addT
 refine List.ext_getElem? fun i=>?_
 simp only [List.getElem?_zipWith]
 cases a[i]? <;> cases b[i]? <;> cases c[i]? <;> simp [Nat.add_assoc]
def goT (b:Nat) (tx s:List T):List T×List T×List Nat :=
 if h:tx=[]∨b<costT tx s then (tx,s,zero15)
 else ((goT (b - costT tx s) (onward tx s).1 (onward tx s).2.1).1,(goT (b - costT tx s) (onward tx s).1 (onward tx s).2.1).2.1,addT (eventT tx s) (goT (b - costT tx s) (onward tx s).1 (onward tx s).2.1).2.2)
termination_by b
decreasing_by
 all_goals
  have:=cost_pos tx s
  have:¬ b<costT tx s:=fun z=>h (.inr z)
  lia
def spT (b:Nat) (tx s:List T):Nat :=
 if h:tx=[]∨b<costT tx s then 0
 else costT tx s+spT (b - costT tx s) (onward tx s).1 (onward tx s).2.1
termination_by b
decreasing_by
 have:=cost_pos tx s
 have:¬ b<costT tx s:=fun z=>h (.inr z)
 lia
section
variable {b:Nat}{tx s:List T}
theorem go_stop (h:tx=[]∨b<costT tx s):goT b tx s=(tx,s,zero15):=by rw [goT,dif_pos h]
theorem sp_stop (h:tx=[]∨b<costT tx s):spT b tx s=0:=by rw [spT,dif_pos h]
theorem go_step (h1:tx≠[]) (h2:costT tx s≤b):goT b tx s=((goT (b - costT tx s) (onward tx s).1 (onward tx s).2.1).1,(goT (b - costT tx s) (onward tx s).1 (onward tx s).2.1).2.1,addT (eventT tx s) (goT (b - costT tx s) (onward tx s).1 (onward tx s).2.1).2.2):=by
 rw [goT,dif_neg (fun z=>z.elim h1 (by lia))]
theorem sp_step (h1:tx≠[]) (h2:costT tx s≤b):spT b tx s=costT tx s+spT (b - costT tx s) (onward tx s).1 (onward tx s).2.1:=by
 rw [spT,dif_neg (fun z=>z.elim h1 (by lia))]
end
theorem run_ind {P:Nat→List T→List T→Prop} (h0:∀ b tx s,(tx=[]∨b<costT tx s)→P b tx s) (h1:∀ b tx s,tx≠[]→costT tx s≤b→P (b - costT tx s) (onward tx s).1 (onward tx s).2.1→P b tx s):∀ b tx s,P b tx s:=by
 intro b
 induction b using Nat.strongRecOn with
 | ind b ih =>
  intro tx s
  by_cases h:tx=[]∨b<costT tx s
  ·exact h0 b tx s h
  ·have hc:=cost_pos tx s
   have h2:costT tx s≤b:=by
    have:¬ b<costT tx s:=fun z=>h (.inr z)
    lia
   exact h1 b tx s (fun z=>h (.inl z)) h2 (ih _ (by lia) _ _)
theorem go_len:∀ b tx s,(goT b tx s).2.2.length=15:=by
 refine run_ind (fun b tx s h=>?_) (fun b tx s h1 h2 ih=>?_)
 ·rw [go_stop h]; rfl
 ·rw [go_step h1 h2]; exact addT_len (ev_len _ _) ih
theorem costZ_zero:costZ zero15=0:=by decide
theorem costZ_add' {ns ms:List Nat} (h1:ns.length=15) (h2:ms.length=15):costZ (addT ns ms)=costZ ns+costZ ms:=by
 unfold addT
 match ns,h1,ms,h2 with
 | [a0,a1,a2,a3,a4,a5,a6,a7,a8,a9,a10,a11,a12,a13,a14],_,[c0,c1,c2,c3,c4,c5,c6,c7,c8,c9,c10,c11,c12,c13,c14],_ =>
  simp only [costZ,List.zipWith_cons_cons,List.zipWith_nil_left,List.take_succ_cons,List.take_zero,List.map_cons,List.map_nil,List.sum_cons,List.sum_nil,List.getD_cons_succ,List.getD_cons_zero,Int.natCast_add]
  lia
theorem go_cost:∀ b tx s,costZ (goT b tx s).2.2=(spT b tx s:Nat):=by
 refine run_ind (fun b tx s h=>?_) (fun b tx s h1 h2 ih=>?_)
 ·rw [go_stop h,sp_stop h]; exact costZ_zero
 ·rw [go_step h1 h2,sp_step h1 h2]
  show costZ (addT _ _)=_
  rw [costZ_add' (ev_len _ _) (go_len _ _ _),ev_cost,ih]
  lia
inductive Sane:Nat→List T→List T→Prop
 | mk {b:Nat}{tx s:List T} (h1:BX tx) (h2:B 390 8000000 (.node s)) (h3:tx≠[]→costT tx s≤b→Sane (b - costT tx s) (onward tx s).1 (onward tx s).2.1):Sane b tx s
theorem Sane.bx {b:Nat}{tx s:List T} (h:Sane b tx s):BX tx:=by cases h; assumption
theorem Sane.bs {b:Nat}{tx s:List T} (h:Sane b tx s):B 390 8000000 (.node s):=by cases h; assumption
theorem Sane.next {b:Nat}{tx s:List T} (h:Sane b tx s) (h1:tx≠[]) (h2:costT tx s≤b):Sane (b - costT tx s) (onward tx s).1 (onward tx s).2.1:=by
 cases h with
 | mk _ _ h3=>exact h3 h1 h2
theorem Sane.last:∀ b tx s,Sane b tx s→BX (goT b tx s).1∧B 390 8000000 (.node (goT b tx s).2.1):=by
 refine run_ind (fun b tx s h g=>?_) (fun b tx s h1 h2 ih g=>?_)
 ·rw [go_stop h]; exact⟨g.bx,g.bs⟩
 ·rw [go_step h1 h2]; exact ih (g.next h1 h2)
theorem drop_deep (s:List T) (k:Nat):T.deepL (s.drop k)≤T.deepL s:=by
 have e:=congrArg T.deepL (List.take_append_drop k s)
 rw [T.deepL_append] at e
 lia
theorem deep_eq (t:T):t.deep=T.deepL t.kids:=by cases t; rw [T.deep_node]; rfl
theorem load_deep (t:T):(loadT t).deep≤t.deep:=by
 unfold loadT
 rw [T.deep_node,deep_eq t]
 exact drop_deep _ _
theorem first_deep (t:T):(ats t.kids 0).deep≤t.deep:=by
 rw [deep_eq t]
 cases t.kids with
 | nil=>show T.deep (.node [])≤_; rw [T.deep_node,T.deepL_nil]; lia
 | cons u us=>show u.deep≤_; rw [T.deepL_cons]; lia
def toldS:Str:=PySem.Str.ofString "told"
def outS:Str:=PySem.Str.ofString "out"
def wordS (b:Nat) (tx s:List T):Str:=if (goT b tx s).1=[] then toldS else outS
def tellT (b:Nat) (tx s:List T):T:=if (goT b tx s).1=[] then ats (goT b tx s).2.1 0 else leaf
def pairT (tx s:List T):T:=.node [.node tx,.node s]
def spBegin (K:PySem.W.Frag):Sp:=fun vs H Q _=>∃ x t y u,vs=[x,y]∧TR K H t x∧TR K H u y∧∀ z H',Same H H'→TR K H' (pairT [t] [u]) z→Q z H'
def spRun (K:PySem.W.Frag):Sp:=fun vs H Q _=>∃ (x y:V) (t u:T) (b:Nat),vs=[x,y,.int (b:Int)]∧TR K H t x∧TR K H u y∧Sane b [t] [u] ∧
 ∀ p v H',Same H H'→SqT K H' p [.str (wordS b [t] [u]),v,nv (spT b [t] [u])]→TR K H' (tellT b [t] [u]) v→Q (.ref p) H'
end Sw
namespace Sw
open PySem PySem.Spec PyProof.Rows L2
section
variable (p:List T) (d x:T) (Y:List T)
end
end Sw
namespace PySem
open Builtin Builtin.Str
section
variable {prog:Program}{w:World}{A:Around}{E:Value→Shared→Prop}{s:Shared}{x:Str}{t:Tok}{Q:Value→Shared→Prop}
theorem split_laid {y:Str}{u:Tok} (hy:(y.length == 0)=false)
  (q:∀ (l:List (Str×Tok)) (k:Nat),l.map (·.1)=Txt.split x y→Q (.ref s.heap.objs.size) { s with toks:=k,heap:=s.heap.push { cls:=.type "list",data:=.seq (strValues l).toArray } })
  (z1:x.length≤sizeLine) (z2:(partsBetween x (occurrences x y 0 x.length (x.length+1)) y.length).length≤sizeLine):wpAny (model prog w) A (call (.builtin "str.split") [.str x t,.str y u]) Q E s:=by
 cases c1:(decide (x.length<y.length) || decide (Builtin.Str.strKind x<Builtin.Str.strKind y))
 ·cases c2:(occurrences x y 0 x.length (x.length+1)).isEmpty
  ·refine call_meets F.slot_str_split (typeIs_str _ _ _) F.entry_str_split (F.args_str_split_2 _ _) (meets_str_split_sep x y t u c1 hy c2 z1 z2) ?_
   show wants Q E _ { s with toks:=_,heap:=s.heap.push { cls:=.type "list",data:=.seq (strsFrom s.toks (partsBetween x (occurrences x y 0 x.length (x.length+1)) y.length)).toArray } }; rw [strsFrom_eq]
   exact q (numbered s.toks _) _ ((numbered_texts _ _).trans ((if_neg (ne_true_of_eq_false c1)).trans (if_neg (ne_true_of_eq_false c2))).symm)
  ·exact call_meets F.slot_str_split (typeIs_str _ _ _) F.entry_str_split (F.args_str_split_2 _ _) (meets_str_split_not_found x y t u c1 hy c2) (q [(x,t)] s.toks ((if_neg (ne_true_of_eq_false c1)).trans (if_pos c2)).symm)
 ·exact call_meets F.slot_str_split (typeIs_str _ _ _) F.entry_str_split (F.args_str_split_2 _ _) (meets_str_split_cannot_occur x y t u c1) (q [(x,t)] s.toks (if_pos c1).symm)
end
end PySem
namespace Sw
open PySem PySem.Spec PyProof.Rows L2
def joinL (sep:List Nat):List (List Nat)→List Nat
 | []=>[]
 | [l]=>l
 | l::r=>l++sep++joinL sep r
theorem joinL_cons (sep l:List Nat) {r:List (List Nat)} (h:r≠[]):joinL sep (l::r)=l++sep++joinL sep r:=by
 cases r with
 | nil=>exact absurd rfl h
 | cons _ _=>rfl
theorem sjoin_tx (sep:List Nat):∀ ls:List (List Nat),PySem.Str.join (tx sep) (ls.map tx)=tx (joinL sep ls)
 | []=>rfl
 | [l]=>rfl
 | l::m::r=>by
  have ih:=sjoin_tx sep (m::r)
  show tx l++tx sep++PySem.Str.join (tx sep) ((m::r).map tx)=_
  rw [ih,tx_append,tx_append]
  rfl
theorem tjoin_tx (sep:List Nat) (ls:List (List Nat)):Txt.join (tx sep) (ls.map tx)=tx (joinL sep ls):=by
 have key:∀ (ls:List (List Nat)) (acc:List Nat),(ls.map tx).foldl (fun acc p=>acc++(tx sep).cps++p.cps) acc.toArray=(joinL sep (acc::ls)).toArray:=by
  intro ls
  induction ls with
  | nil=>intro acc; rfl
  | cons l ls ih =>
   intro acc
   rw [List.map_cons,List.foldl_cons]
   have e:acc.toArray++(tx sep).cps++(tx l).cps=(acc++sep++l).toArray:=by simp [tx]
   rw [e,ih]
   cases ls with
   | nil=>rfl
   | cons m r =>
    show (acc++sep++l++sep++joinL sep (m::r)).toArray=(acc++sep++(l++sep++joinL sep (m::r))).toArray
    simp only [List.append_assoc]
 show Str.mk _=_
 cases ls with
 | nil=>rfl
 | cons l ls =>
  have:=key ls l
  show Str.mk (((l::ls).map tx).drop 1 |>.foldl (fun acc p=>acc++(tx sep).cps++p.cps) (((l::ls).map tx).headD Str.empty).cps)=tx (joinL sep (l::ls))
  rw [List.map_cons,List.drop_one,List.tail_cons,List.headD_cons]
  exact congrArg Str.mk this
theorem joinL_len (sep:List Nat):∀ ls:List (List Nat),(joinL sep ls).length≤ls.flatten.length+ls.length * sep.length
 | []=>by simp [joinL]
 | [l]=>by simp [joinL]
 | l::m::r=>by
  have ih:=joinL_len sep (m::r)
  show (l++sep++joinL sep (m::r)).length≤_
  rw [List.length_append,List.length_append,List.flatten_cons,List.length_append,List.length_cons (a:=l),Nat.add_mul]
  lia
section
variable {X:Cx}
theorem call_any (hc:X.calm=true):CallR X (.builtin "any") (fun xs H Q=>∃ (p:Addr) (bs:List Bool),xs=[.ref p]∧SqL X.K H p (bs.map V.bl)∧Q (.bl (bs.any id)) H):=by
 intro pins s σ H xs us Q I r h
 obtain⟨p,bs,rfl,hq,q⟩:=h
 obtain⟨u,rfl,rx⟩:=vals1 r
 cases rx
 obtain⟨its,r',pl,hz⟩:=I.list hq
 have hit:=bools_at r'
 subst hit
 have hl:=pl.isList
 have hlt:p<s.heap.objs.size:=by obtain⟨_,e,_⟩:=hl; exact Heap.lt_size e
 refine call_any_walk (wpAny_pyIter_list hl ?_)
 refine⟨_,_,_,_,_,_,fun i=>bs.getD i false,rfl,Walks.list (A:=X.A.in1) (I.ok.hd hc) _ p (Nat.ne_of_lt hlt) (bs.map Value.bool).toArray,⟨⟨_,Heap.get?_push_size _ rfl,rfl,rfl⟩,hl.push _⟩,?_,fun h' tk hk=>?_⟩
 ·intro i v s Q E hv hQ
  rw [List.getElem?_toArray,List.getElem?_map] at hv
  cases hh:bs[i]? with
  | none=>rw [hh] at hv; cases hv
  | some b =>
   rw [hh] at hv
   cases hv
   have hQ':Q (bs.getD i false) s:=hQ
   rw [List.getD_eq_getElem?_getD,hh] at hQ'
   exact wpAny_truthy_bool hQ'
 ·have es:(List.range (bs.map Value.bool).toArray.size).any (fun i=>bs.getD i false)=bs.any id:=by
   rw [List.size_toArray,List.length_map,Bool.eq_iff_iff,List.any_eq_true,List.any_eq_true]
   refine⟨fun ⟨i,hi,e⟩=>?_,fun ⟨b,hb,e⟩=>?_⟩
   ·have hi':=List.mem_range.mp hi
    rw [List.getD_eq_getElem?_getD,List.getElem?_eq_getElem hi',Option.getD_some] at e
    exact⟨_,List.getElem_mem hi',e⟩
   ·obtain⟨i,hi,e'⟩:=List.getElem_of_mem hb
    refine⟨i,List.mem_range.mpr hi,?_⟩
    rw [List.getD_eq_getElem?_getD,List.getElem?_eq_getElem hi,Option.getD_some,e']
    exact e
  rw [es]
  exact⟨.bl (bs.any id),H,I.kept (old_kept hk),rfl,q⟩
def rJoinS (K:PySem.W.Frag):V→List V→Hp→VK→Prop:=fun x vs H Q=>∃ (l:Addr) (sep:List Nat) (ls:List (List Nat)),x=.str (tx sep)∧vs=[.ref l]∧SqL K H l (ls.map fun c=>V.str (tx c))∧ls.flatten.length+ls.length * sep.length≤16777216∧Q (.str (tx (joinL sep ls))) H
theorem mt_joinS:MtM X "str.join" (rJoinS X.K):=by
 intro pins s σ H x vs v us Q I rx rv h
 obtain⟨l,sep,ls,rfl,rfl,hq,hz,q⟩:=h
 obtain⟨t,rfl⟩:=rx
 obtain⟨u,rfl,ru⟩:=rv.one
 cases ru
 obtain⟨its,r,pl,_⟩:=I.list hq
 have hs:StrsAre its (ls.map tx):=strsAre_of (by rw [List.map_map]; exact r)
 refine join_list (ys:=ls.map tx) pl.isList (by simpa using hs) ?_ fun t' k=>?_
 ·rw [sum_len,tx_len,List.length_map]
  exact hz
 ·rw [show Txt.join (tx sep) (ls.map tx)=tx (joinL sep ls) from tjoin_tx sep ls]
  exact⟨.str (tx (joinL sep ls)),H,I.tok _,⟨_,rfl⟩,q⟩
def rSplit:V→List V→Hp→VK→Prop:=fun x vs H Q=>∃ (l:List Nat) (c:Nat),x=.str (tx l)∧vs=[.str (tx [c])]∧l.length≤8000000 ∧
 ∀ D ls,H D=none→joinL [c] ls=l→ls≠[]→(∀ p∈ls,c ∉ p)→Q (.ref D) (upd H D (.lst (ls.map fun p=>V.str (tx p))))
theorem tx_of (z:Str):z=tx z.cps.toList:=rfl
theorem strs_tx:∀ ss:List Str,∃ ls:List (List Nat),ss=ls.map tx
 | []=>⟨[],rfl⟩
 | z::ss=>by
  obtain⟨ls,e⟩:=strs_tx ss
  exact⟨z.cps.toList::ls,by rw [List.map_cons,← e,← tx_of]⟩
theorem vals_strs:∀ {l:List (Str×Tok)}{ls:List (List Nat)},l.map (·.1)=ls.map tx→Vals (ls.map fun p=>V.str (tx p)) (strValues l)
 | [],ls,h=>by
  cases ls with
  | nil=>exact .nil
  | cons _ _=>cases h
 | (z,t)::l,ls,h=>by
  cases ls with
  | nil=>cases h
  | cons p ls =>
   have h':=List.cons.inj h
   have e:z=tx p:=h'.1
   subst e
   exact .cons ⟨t,rfl⟩ (vals_strs h'.2)
theorem mt_split:MtM X "str.split" rSplit:=by
 intro pins s σ H x vs v us Q I rx rv h
 obtain⟨l,c,rfl,rfl,hl,q⟩:=h
 obtain⟨t,rfl⟩:=rx
 obtain⟨u,rfl,ru⟩:=rv.one
 obtain⟨t',rfl⟩:=ru
 have z2:(Builtin.Str.partsBetween (tx l) (Builtin.Str.occurrences (tx l) (tx [c]) 0 (tx l).length ((tx l).length+1)) (tx [c]).length).length≤sizeLine:=by
  rw [PyProof.Rows.len_partsBetween]
  have:=StrLaws.occ_length_le (tx l) (tx [c]) 0 (tx l).length ((tx l).length+1)
  rw [tx_len] at this ⊢
  exact Nat.le_trans (Nat.succ_le_succ this) (Nat.le_trans (Nat.add_le_add_right hl 2) (by decide))
 refine split_laid rfl (fun ll k e=>?_) (by rw [tx_len]; exact Nat.le_trans hl (by decide)) z2
 obtain⟨ls,els⟩:=strs_tx (ll.map (·.1))
 have e2:Txt.split (tx l) (tx [c])=ls.map tx:=by rw [← e,els]
 have hj:joinL [c] ls=l:=by
  have:=StrLaws.join_split (tx l) (tx [c])
  rw [e2,sjoin_tx] at this
  exact tx_inj.mp this
 have hf:∀ p∈ls,c ∉ p:=fun p hp=>by
  have:=StrLaws.split_free (tx l) c (tx p) (by
   show tx p∈Txt.split (tx l) (tx [c])
   rw [e2]
   exact List.mem_map.mpr ⟨p,hp,rfl⟩)
  simpa [tx] using this
 have hne:ls≠[]:=fun z=>by
  have:=PyProof.Rows.split_pos (tx l) (tx [c])
  rw [e2,z] at this
  simp at this
 have hln:ls.length≤sizeLine:=by
  have:=PyProof.Rows.split_le (tx l) (tx [c])
  rw [e2,List.length_map,tx_len] at this
  exact Nat.le_trans this (Nat.le_trans (Nat.add_le_add_right hl 2) (by decide))
 have hn:H s.heap.objs.size=none:=I.hok.fresh (Nat.le_refl _)
 have I2:=I.lnew (ys:=ls.map fun p=>V.str (tx p)) (its:=strValues ll) (t':=k) (vals_strs els) (by rw [List.length_map]; exact hln)
 exact⟨.ref s.heap.objs.size,_,I2,rfl,q _ ls hn hj hne hf⟩
def rStarts:V→List V→Hp→VK→Prop:=fun x vs H Q=>∃ (l:List Nat) (c:Nat),x=.str (tx l)∧vs=[.str (tx [c])]∧Q (.bl (l.head? == some c)) H
theorem starts_tx (l:List Nat) (c:Nat):Txt.startswith (tx l) (tx [c])=(l.head? == some c):=by
 unfold Txt.startswith Builtin.Str.subAt
 cases l with
 | nil=>rfl
 | cons a r =>
  show (decide (0+1≤(a::r).length) && ((a::r).toArray.extract 0 (0+1) == #[c]))=(some a == some c)
  have e:(a::r).toArray.extract 0 (0+1)=#[a]:=by simp
  rw [e,decide_eq_true (by simp),Bool.true_and]
  simp
theorem mt_starts:MtM X "str.startswith" rStarts:=by
 intro pins s σ H x vs v us Q I rx rv h
 obtain⟨l,c,rfl,rfl,q⟩:=h
 obtain⟨t,rfl⟩:=rx
 obtain⟨u,rfl,ru⟩:=rv.one
 obtain⟨t',rfl⟩:=ru
 refine SC.startswith ?_
 rw [starts_tx]
 exact⟨.bl _,H,I,rfl,q⟩
end
open SeqAt in
theorem tup_indexAt (l:Addr) (items:Array Value) (n:Nat) (dd:Option Addr) (sl:Array (Option Value)) (x:Value) (e:Value→Bool) (j:Nat) (hj:j<items.size) (hit:e items[j]=true) (hno:∀ m (hm:m<items.size),m<j→e items[m]=false) :
  Meets (Builtin.«tuple.index» ⟨[.ref l,x],[]⟩) (fun A R u=>u.heap.get? l=some { cls:=.type "tuple",dict:=dd,data:=.seq items n,slots:=sl }∧(∀ y,y∈items→EqAt A.in1 u y x (e y))∧R (.ok (.ret (.int j u.toks))) { u with toks:=u.toks+1 }) :=
 .of_wp fun prog w A R u h=>by
  obtain⟨hp,g,d,tk,os⟩:=u; obtain⟨hl,he,h⟩:=h
  unfold Builtin.«tuple.index»
  simp only [Std.Legacy.Range.forIn_eq_forIn_range']
  wp_walk using wpAny_loadPart' hl,wpAny_forIn_list _ (fun rest b s'=>b.1=none∧s'=⟨hp,g,d,tk,os⟩∧∃ i,i≤j∧rest=(List.range' 0 items.size).drop i) _
  case turn =>
   rintro i rest b s' ⟨hb,rfl,m,hm,hr⟩
   have hlt:m<items.size:=by
    have:=congrArg List.length hr
    simp at this
    lia
   have hr2:(List.range' 0 items.size).drop m=m::(List.range' 0 items.size).drop (m+1):=by
    rw [List.drop_eq_getElem_cons (by simpa using hlt)]
    simp
   rw [hr2] at hr
   obtain⟨rfl,rfl⟩:=List.cons.inj hr
   have e1:items[i]?=some items[i]:=Array.getElem?_eq_getElem hlt
   rw [e1]
   refine wpAny_bind (he _ (Array.getElem_mem hlt) prog w _ _ ?_)
   by_cases hmj:i=j
   ·subst hmj
    rw [hit]
    wp_walk
    exact⟨_,rfl,h⟩
   ·rw [hno i hlt (by lia)]
    wp_walk
    exact⟨rfl,rfl,i+1,by lia,rfl⟩
  case fin =>
   rintro ⟨b1,b2⟩ s' ⟨hb,rfl,m,hm,hr⟩
   have:=congrArg List.length hr
   simp at this
   lia
  case h =>
   refine⟨rfl,rfl,0,Nat.zero_le _,?_⟩
   simp
end Sw
namespace Sw
abbrev Std:=List T×List T
def nx (st:Std):Std:=((onward st.1 st.2).1,(onward st.1 st.2).2.1)
def costS (st:Std):Nat:=match (ats st.1 0).kids with
 | []=>1
 | w::_=>if sortT w=2 then (ats st.2 0).parts else 1
abbrev W (n:Nat):T:=wordT n []
def noHead (st:Std):Prop:=sortT (ats (ats st.1 0).kids 0)≠8
inductive Wlk:Std→Nat→Nat→Std→Prop where
 | nil {st:Std}:Wlk st 0 0 st
 | cons {st e:Std}{n c:Nat}:st.1≠[]→noHead st→Wlk (nx st) n c e→Wlk st (n+1) (c+costS st) e
theorem Wlk.to {st e:Std}{n c n' c':Nat} (h:Wlk st n c e) (e1:n=n') (e2:c=c'):Wlk st n' c' e:=by subst e1; subst e2; exact h
theorem Wlk.one {st e u:Std}{n c k:Nat} (h1:st.1≠[]) (h2:noHead st) (h3:nx st=u) (h4:costS st=k) (g:Wlk u n c e):Wlk st (n+1) (c+k) e:=by
 subst h3; subst h4; exact .cons h1 h2 g
section
variable {t cs s:List T}{e:Std}{n c:Nat}
theorem nh_word {w:T}{k:Nat} (h:sortT w=k) (hk:k≠8):noHead (.node (w::t)::cs,s):=by
 show sortT w≠8
 rw [h]; exact hk
theorem nx_plain {w:T} (h:sortT w≤6):nx (.node (w::t)::cs,s)=(.node t::cs,behind w s):=by
 unfold nx onward
 show (_,_)=_
 simp only [ats,T.kids,List.getElem?_cons_zero,Option.getD_some,List.drop_succ_cons,List.drop_zero]
 rw [if_neg (by lia),if_neg (by lia),if_neg (by lia)]
theorem cost_plain {w:T} (h:sortT w≠2):costS (.node (w::t)::cs,s)=1:=by
 show (if sortT w=2 then _ else 1)=1
 rw [if_neg h]
theorem w_lay {us:List T} (g:Wlk (.node t::cs,.node us::s) n c e):Wlk (.node (wordT 0 us::t)::cs,s) (n+1) (c+1) e :=
 .one (by simp) (nh_word (k:=0) rfl (by decide)) (by rw [nx_plain (by show 0≤6; decide),beh0 rfl]; rfl) (cost_plain (by show 0≠2; decide)) g
theorem w_twin {a:T} (g:Wlk (.node t::cs,a::a::s) n c e):Wlk (.node (W 2::t)::cs,a::s) (n+1) (c+a.parts) e :=
 .one (by simp) (nh_word (k:=2) rfl (by decide)) (by rw [nx_plain (by decide),beh2 rfl,pad_of (by simp)]; rfl) rfl g
theorem w_front {a:T}{b:List T} (g:Wlk (.node t::cs,.node (a::b)::s) n c e):Wlk (.node (W 4::t)::cs,a::.node b::s) (n+1) (c+1) e :=
 .one (by simp) (nh_word (k:=4) rfl (by decide)) (by rw [nx_plain (by decide),beh4 rfl,pad_of (by simp)]; rfl) (cost_plain (by decide)) g
theorem w_shut (g:Wlk (cs,s) n c e):Wlk (.node []::cs,s) (n+1) (c+1) e :=
 .one (by simp) (by show 0≠8; decide) rfl rfl g
end
section
variable {t cs s us:List T}{e:Std}{n c:Nat}
def didW:Nat→List T→List T
 | 1,s=>s.drop 1
 | 2,s=>ats s 0::ats s 0::s.drop 1
 | 3,s=>ats (s.drop 1) 0::ats s 0::s.drop 2
 | 4,s=>.node (ats s 0::(ats (s.drop 1) 0).kids)::s.drop 2
 | 5,s=>ats (ats s 0).kids 0::.node ((ats s 0).kids.drop 1)::s.drop 1
 | 6,s=>ats (s.drop 2) 0::ats s 0::ats (s.drop 1) 0::s.drop 3
 | _,s=>s
theorem pad1 (s:List T):pad s 1=ats s 0::s.drop 1:=by
 cases s with
 | nil=>rfl
 | cons a s=>rw [pad_of (by simp)]; rfl
theorem did_is {w:T}{k:Nat} (h1:1≤k) (h6:k≤6) (h:sortT w=k):behind w s=didW k s:=by
 rcases (by lia:k=1∨k=2∨k=3∨k=4∨k=5∨k=6) with rfl | rfl | rfl | rfl | rfl | rfl
 ·rw [beh1 h,pad1]; rfl
 ·rw [beh2 h,pad1]; rfl
 ·rw [beh3 h]
  match s with
  | []=>rfl
  | [a]=>rfl
  | a::b::s=>rw [pad_of (by simp)]; rfl
 ·rw [beh4 h]
  match s with
  | []=>rfl
  | [a]=>rfl
  | a::b::s=>rw [pad_of (by simp)]; rfl
 ·rw [beh5 h,pad1]; rfl
 ·rw [beh6 h]
  match s with
  | []=>rfl
  | [a]=>rfl
  | [a,b]=>rfl
  | a::b::d::s=>rw [pad_of (by simp)]; rfl
theorem onward_word {w:T}{ws ts:List T}:onward (.node (w::ws)::ts) s =
  if sortT w=7 then
   if (ats s 0).kids≠[] then (ats (w.kids.drop 1) 0::.node ws::ts,behind w s,7) else (.node (w.kids.drop 2)::.node ws::ts,behind w s,8)
  else if sortT w=8 then
   if (ats s 0).kids≠[] then (loadT w::.node (w::ws)::ts,behind w s,9) else (.node ws::ts,behind w s,10)
  else if sortT w=9 then (.node ws::ts,behind w s,11)
  else (.node ws::ts,behind w s,sortT w):=rfl
end
end Sw
namespace Sw
def wt (st:Std):Nat:=T.partsL st.1+T.partsL st.2
theorem pL_drop (k:Nat) (s:List T):T.partsL (s.drop k)≤T.partsL s:=by
 have e:=T.partsL_append (s.take k) (s.drop k)
 rw [List.take_append_drop] at e
 lia
theorem p_ats (s:List T) (k:Nat):(ats s k).parts≤T.partsL s+1:=by
 induction s generalizing k with
 | nil=>unfold ats leaf; rw [List.getElem?_nil,Option.getD_none,T.parts_node,T.partsL_nil]; lia
 | cons a s ih =>
  rw [T.partsL_cons]
  cases k with
  | zero=>show a.parts≤_; lia
  | succ k=>have:=ih k; have:=T.parts_pos a; show (ats s k).parts≤_; lia
theorem p_load (w:T):(loadT w).parts≤w.parts:=by
 have:=pL_drop 1 w.kids
 unfold loadT
 rw [T.parts_node,T.parts_kids w]
 lia
theorem p_did {k:Nat} (h1:1≤k) (h6:k≤6) (s:List T):T.partsL (didW k s)≤T.partsL s+(if k=2 then (ats s 0).parts+1 else 3):=by
 have hl:leaf.parts=1:=by unfold leaf; rw [T.parts_node,T.partsL_nil]
 have hk:leaf.kids=[]:=rfl
 have hn:(T.node []).parts=1:=by rw [T.parts_node,T.partsL_nil]
 have e0:∀ s:List T,ats s 0=match s with | []=>leaf | a::_=>a:=fun s=>by cases s <;> rfl
 rcases (by lia:k=1∨k=2∨k=3∨k=4∨k=5∨k=6) with rfl | rfl | rfl | rfl | rfl | rfl
 ·have:=pL_drop 1 s; rw [if_neg (by decide)]; show T.partsL (s.drop 1)≤_; lia
 ·rw [if_pos rfl]
  match s with
  | []=>simp only [didW,e0,List.drop_nil,T.partsL_cons,T.partsL_nil,hl]; lia
  | a::s=>simp only [didW,e0,List.drop_succ_cons,List.drop_zero,T.partsL_cons]; lia
 ·rw [if_neg (by decide)]
  match s with
  | []=>simp only [didW,e0,List.drop_nil,T.partsL_cons,T.partsL_nil,hl]; lia
  | [a]=>simp only [didW,e0,List.drop_succ_cons,List.drop_zero,List.drop_nil,T.partsL_cons,T.partsL_nil,hl]; lia
  | a::b::s=>simp only [didW,e0,List.drop_succ_cons,List.drop_zero,T.partsL_cons]; lia
 ·rw [if_neg (by decide)]
  match s with
  | []=>simp only [didW,e0,List.drop_nil,T.partsL_cons,T.partsL_nil,hl,hk,T.parts_node]; lia
  | [a]=>simp only [didW,e0,List.drop_succ_cons,List.drop_zero,List.drop_nil,T.partsL_cons,T.partsL_nil,hk,T.parts_node]; lia
  | a::b::s=>simp only [didW,e0,List.drop_succ_cons,List.drop_zero,T.partsL_cons,T.parts_node]; have:=T.parts_kids b; lia
 ·rw [if_neg (by decide)]
  match s with
  | []=>simp only [didW,e0,List.drop_nil,T.partsL_cons,T.partsL_nil,hl,hk,T.parts_node]; lia
  | .node []::s=>simp only [didW,e0,T.kids,List.drop_succ_cons,List.drop_zero,List.drop_nil,T.partsL_cons,T.partsL_nil,hl,T.parts_node]; lia
  | .node (a::b)::s=>simp only [didW,e0,T.kids,List.drop_succ_cons,List.drop_zero,T.partsL_cons,T.parts_node]; lia
 ·rw [if_neg (by decide)]
  match s with
  | []=>simp only [didW,e0,List.drop_nil,T.partsL_cons,T.partsL_nil,hl]; lia
  | [a]=>simp only [didW,e0,List.drop_succ_cons,List.drop_zero,List.drop_nil,T.partsL_cons,T.partsL_nil,hl]; lia
  | [a,b]=>simp only [didW,e0,List.drop_succ_cons,List.drop_zero,List.drop_nil,T.partsL_cons,T.partsL_nil,hl]; lia
  | a::b::d::s=>simp only [didW,e0,List.drop_succ_cons,List.drop_zero,T.partsL_cons]; lia
theorem p_pad (s:List T) (n:Nat):T.partsL (pad s n)≤T.partsL s+n:=by
 have:∀ k,T.partsL (List.replicate k leaf)=k:=fun k=>by
  induction k with
  | zero=>rw [List.replicate_zero,T.partsL_nil]
  | succ k ih=>rw [List.replicate_succ,T.partsL_cons,ih,leaf,T.parts_node,T.partsL_nil]; lia
 unfold pad
 rw [T.partsL_append,this]
 lia
theorem p_behind (w:T) (s:List T):T.partsL (behind w s)≤T.partsL s+(if sortT w=2 then (ats s 0).parts+1 else 3)+(if sortT w=0 then (loadT w).parts else 0):=by
 by_cases h0:sortT w=0
 ·rw [beh0 h0,T.partsL_cons,if_pos h0,if_neg (by lia)]; lia
 by_cases h6:sortT w≤6
 ·rw [did_is (k:=sortT w) (by lia) h6 rfl]
  have:=p_did (k:=sortT w) (by lia) h6 s
  lia
 ·have h9:=sort_le w
  have h3:∀ k,k≤9→many k≤3:=by decide
  have:=h3 _ h9
  rw [beh7 (by lia),if_neg (by lia)]
  have:=p_pad s (many (sortT w))
  lia
theorem on_bounds (w:T) (ws ts s:List T) :
  T.partsL (onward (.node (w::ws)::ts) s).1≤T.partsL (.node (w::ws)::ts)+(if sortT w=8 then (loadT w).parts else 0) ∧
  (sortT w=0→T.partsL (onward (.node (w::ws)::ts) s).1+w.parts≤T.partsL (.node (w::ws)::ts))∧(onward (.node (w::ws)::ts) s).2.1=behind w s:=by
 have hw:=T.parts_pos w
 have hl:=p_load w
 rw [onward_word]
 by_cases h7:sortT w=7
 ·rw [if_pos h7,if_neg (show ¬ sortT w=8 by lia)]
  refine⟨?_,fun z=>absurd z (by lia),by split <;> rfl⟩
  split
  ·have:=p_ats (w.kids.drop 1) 0
   have:=pL_drop 1 w.kids
   have:=T.parts_kids w
   show T.partsL (_::_::_)≤_
   simp only [T.partsL_cons,T.parts_node]
   lia
  ·have:=pL_drop 2 w.kids
   have:=T.parts_kids w
   show T.partsL (_::_::_)≤_
   simp only [T.partsL_cons,T.parts_node]
   lia
 rw [if_neg h7]
 by_cases h8:sortT w=8
 ·rw [if_pos h8,if_pos h8]
  refine⟨?_,fun z=>absurd z (by lia),by split <;> rfl⟩
  split
  ·show T.partsL (_::_::_)≤_
   simp only [T.partsL_cons,T.parts_node]
   lia
  ·show T.partsL (_::_)≤_
   simp only [T.partsL_cons,T.parts_node]
   lia
 rw [if_neg h8,if_neg h8]
 have e:T.partsL (.node ws::ts)+w.parts=T.partsL (.node (w::ws)::ts):=by simp only [T.partsL_cons,T.parts_node]; lia
 split
 ·exact⟨by show T.partsL (.node ws::ts)≤_; lia,fun _=>by show T.partsL (.node ws::ts)+_≤_; lia,rfl⟩
 ·exact⟨by show T.partsL (.node ws::ts)≤_; lia,fun _=>by show T.partsL (.node ws::ts)+_≤_; lia,rfl⟩
theorem wt_nx {st:Std} (h:noHead st):wt (nx st)≤wt st+3 * costS st:=by
 obtain⟨tx,s⟩:=st
 match tx with
 | [] =>
  show T.partsL []+T.partsL s≤T.partsL []+T.partsL s+_
  lia
 | .node []::ts =>
  show T.partsL ts+T.partsL s≤T.partsL (.node []::ts)+T.partsL s+_
  rw [T.partsL_cons]
  lia
 | .node (w::ws)::ts =>
  have h8:sortT w≠8:=h
  obtain⟨b1,b2,b3⟩:=on_bounds w ws ts s
  have b4:=p_behind w s
  have hl:=p_load w
  rw [if_neg h8] at b1
  have hc:costS (.node (w::ws)::ts,s)=if sortT w=2 then (ats s 0).parts else 1:=rfl
  have hp:=T.parts_pos (ats s 0)
  show T.partsL (onward (.node (w::ws)::ts) s).1+T.partsL (onward (.node (w::ws)::ts) s).2.1≤T.partsL (.node (w::ws)::ts)+T.partsL s+3 * costS (.node (w::ws)::ts,s)
  rw [hc,b3]
  by_cases h2:sortT w=2
  ·rw [if_pos h2,if_neg (by lia)] at b4
   rw [if_pos h2]
   lia
  ·rw [if_neg h2] at b4
   rw [if_neg h2]
   by_cases h0:sortT w=0
   ·have:=b2 h0
    rw [if_pos h0] at b4
    lia
   ·rw [if_neg h0] at b4
    lia
end Sw
namespace Sw
def dpLe (a:Nat) (st:Std):Prop:=(T.node st.1).deep≤a∧(T.node st.2).deep≤a
theorem dp_nx {a:Nat}{st:Std} (ha:1≤a) (h:dpLe a st):dpLe (a+2) (nx st):=by
 obtain⟨h1,h2⟩:=h
 have hb1:(T.node st.1).parts≤(T.node st.1).parts+(T.node st.2).parts:=by lia
 have hb2:(T.node st.2).parts≤(T.node st.1).parts+(T.node st.2).parts:=by lia
 have:=B_onward (tx:=st.1) (s:=st.2) ha ⟨h1,hb1⟩ ⟨h2,hb2⟩
 exact⟨this.1.1,this.2.1⟩
end Sw
namespace Sw
end Sw
namespace PySem
open Builtin Builtin.Str
section
variable {prog:Program}{w:World}{A:Around}{E:Value→Shared→Prop}{s:Shared}{x:Str}{t:Tok}{Q:Value→Shared→Prop}
theorem split_ws (q:∀ (l:List (Str×Tok)) (k:Nat),l.map (·.1)=Txt.words x→Q (.ref s.heap.objs.size) { s with toks:=k,heap:=s.heap.push { cls:=.type "list",data:=.seq (strValues l).toArray } })
  (z1:x.length≤sizeLine) (z2:(spaceWords x (x.length+1)).length≤sizeLine):wpAny (model prog w) A (call (.builtin "str.split") [.str x t]) Q E s:=by
 refine call_meets F.slot_str_split (typeIs_str _ _ _) F.entry_str_split (F.args_str_split_1 _) (meets_str_split_space x t z1 z2) ?_
 cases hw:spaceWords x (x.length+1) == [(0,x.length)]
 ·simp only [Bool.false_eq_true,if_false]; rw [strsFrom_eq]
  exact q (numbered s.toks (wordsOf x)) _ ((numbered_texts _ _).trans (if_neg (ne_true_of_eq_false hw)).symm)
 ·simp only [if_true]; exact q [(x,t)] s.toks (if_pos hw).symm
end
section
variable {prog:Program}{w:World}{A:Around}{E:Value→Shared→Prop}{s:Shared}
end
end PySem
namespace Sw
open PySem PySem.Spec PyProof.Rows L2 SwR
section
variable {X:Cx}
theorem vals_wd:∀ {l:List (Str×Tok)}{zs:List Str},l.map (·.1)=zs→Vals (zs.map V.str) (strValues l)
 | [],_,h=>by cases h; exact .nil
 | (z,t)::l,_,h=>by cases h; exact .cons ⟨t,rfl⟩ (vals_wd rfl)
def rSplit0:V→List V→Hp→VK→Prop:=fun x vs H Q=>∃ z:Str,x=.str z∧vs=[]∧z.length≤1000∧(Builtin.Str.spaceWords z (z.length+1)).length≤1000∧(Txt.words z).length≤1000 ∧
 ∀ D,H D=none→Q (.ref D) (upd H D (.lst ((Txt.words z).map V.str)))
theorem mt_split0:MtM X "str.split" rSplit0:=by
 intro pins s σ H x vs v us Q I rx rv h
 obtain⟨z,rfl,rfl,hl,hw,hw2,q⟩:=h
 obtain⟨t,rfl⟩:=rx
 cases rv
 refine split_ws (fun ll k e=>?_) (Nat.le_trans hl (by decide)) (Nat.le_trans hw (by decide))
 have hn:H s.heap.objs.size=none:=I.hok.fresh (Nat.le_refl _)
 have I2:=I.lnew (ys:=(Txt.words z).map V.str) (its:=strValues ll) (t':=k) (vals_wd e) (by rw [List.length_map]; exact Nat.le_trans hw2 (by decide))
 exact⟨.ref s.heap.objs.size,_,I2,rfl,q _ hn⟩
def rIndexZ (K:PySem.W.Frag):V→List V→Hp→VK→Prop:=fun x vs H Q=>∃ (a:Addr) (cs:List Str) (p:Str) (j:Nat),x=.ref a∧vs=[.str p]∧SqT K H a (cs.map V.str)∧cs[j]?=some p∧(∀ m,m<j→cs[m]?≠some p)∧Q (.int (j:Nat)) H
theorem mt_indexZ:MtM X "tuple.index" (rIndexZ X.K):=by
 intro pins s σ H x vs v us Q I rx rv h
 obtain⟨a,cs,p,j,rfl,rfl,hq,hj,hn,q⟩:=h
 cases rx
 obtain⟨u,rfl,ru⟩:=rv.one
 obtain⟨its,r,ht,hz⟩:=I.tuple hq
 obtain⟨⟨cls,dd,data,sl⟩,ho,hc,n,hd⟩:=id ht
 simp only at hc hd
 subst hc hd
 have flat:∀ l:List Str,(l.map V.str).all flatV=true:=fun l=>by
  rw [List.all_eq_true]; intro y hy
  obtain⟨c,_,rfl⟩:=List.mem_map.mp hy
  rfl
 have hlen:=r.length
 rw [List.length_map] at hlen
 have hjl:j<cs.length:=(List.getElem?_eq_some_iff.mp hj).1
 have at_:∀ m (hm:m<its.toArray.size),eqU (.str p) its.toArray[m]=decide (cs[m]?=some p):=fun m hm=>by
  have hm':m<cs.length:=by rw [List.size_toArray] at hm; lia
  obtain⟨u',e1,ru'⟩:=r.get (i:=m) (x:=.str cs[m]) (by rw [List.getElem?_map,List.getElem?_eq_getElem hm']; rfl)
  have e2:its.toArray[m]=u':=by
   have:=List.getElem?_eq_some_iff.mp e1
   simpa using this.2
  rw [e2,eqU_of ru' rfl,List.getElem?_eq_getElem hm']
  show (cs[m] == p)=_
  by_cases z:cs[m]=p
  ·rw [decide_eq_true (congrArg some z),z]; exact beq_self_eq_true _
  ·rw [decide_eq_false (fun y=>z (Option.some.inj y))]; exact beq_eq_false_iff_ne.mpr z
 have hjs:j<its.toArray.size:=by rw [List.size_toArray]; lia
 refine call_meets F.slot_tuple_index ⟨_,ho,rfl⟩ F.entry_tuple_index (F.args_tuple_index_2 _ _)
  (tup_indexAt a its.toArray n dd sl u (eqU (.str p)) j hjs (by rw [at_ j hjs,hj]; exact decide_eq_true rfl) (fun m hm hlt=>by rw [at_ m hm]; exact decide_eq_false (hn m hlt))) ⟨ho,fun y hy=>?_,?_⟩
 ·exact mem_eqAt ru rfl r (flat cs) y (by simpa using hy)
 ·exact⟨.int (j:Nat),H,I.tok _,⟨_,rfl⟩,q⟩
theorem qe_bmK {K:PySem.W.Frag}{e:Expr}{T:String}{r:V→List V→Hp→VK→Prop}{to:TE}{t:TA} (hK:X.K=K) (h:QE X e (tBM X.K T r to t)):QE X e (tBM K T r to t):=by subst hK; exact h
theorem mt_indexZK {K:PySem.W.Frag} (hK:X.K=K):MtM X "tuple.index" (rIndexZ K):=by subst hK; exact mt_indexZ
end
end Sw
namespace Sw
theorem cost_eq {tx s:List T}:costS (tx,s)=costT tx s:=by
 unfold costT stepT
 match tx with
 | []=>rfl
 | .node []::ts=>rfl
 | .node (w::ws)::ts =>
  have hc:costS (.node (w::ws)::ts,s)=if sortT w=2 then (ats s 0).parts else 1:=rfl
  have hst:(onward (.node (w::ws)::ts) s).2.2=2↔sortT w=2:=by
   rw [onward_word]
   by_cases h7:sortT w=7
   ·rw [if_pos h7]; split <;> (constructor <;> intro z <;> (first | cases z | lia))
   rw [if_neg h7]
   by_cases h8:sortT w=8
   ·rw [if_pos h8]; split <;> (constructor <;> intro z <;> (first | cases z | lia))
   rw [if_neg h8]
   by_cases h9:sortT w=9
   ·rw [if_pos h9]; constructor <;> intro z <;> (first | cases z | lia)
   rw [if_neg h9]
  rw [hc]
  by_cases h2:sortT w=2
  ·rw [if_pos h2,if_pos (hst.mpr h2)]
  ·rw [if_neg h2,if_neg (fun z=>h2 (hst.mp z))]
theorem wk_run {st e:Std}{n c:Nat} (g:Wlk st n c e) (he:e.1=[]):∀ b,c≤b→(goT b st.1 st.2).1=[]∧(goT b st.1 st.2).2.1=e.2∧spT b st.1 st.2=c:=by
 induction g with
 | nil =>
  intro b _
  rw [go_stop (.inl he),sp_stop (.inl he)]
  exact⟨he,rfl,rfl⟩
 | @cons st e n c h1 h2 g ih =>
  intro b hb
  have hc:costT st.1 st.2=costS st:=(cost_eq (tx:=st.1) (s:=st.2)).symm
  rw [go_step h1 (by lia),sp_step h1 (by lia)]
  obtain⟨i1,i2,i3⟩:=ih he (b - costT st.1 st.2) (by lia)
  exact⟨i1,i2,by rw [show (onward st.1 st.2).1=(nx st).1 from rfl,show (onward st.1 st.2).2.1=(nx st).2 from rfl,i3]; lia⟩
theorem wk_told {t u:T}{s:List T}{n c b:Nat} (g:Wlk ([t],[u]) n c ([],s)) (hb:c≤b):wordS b [t] [u]=toldS∧tellT b [t] [u]=ats s 0∧spT b [t] [u]=c:=by
 obtain⟨h1,h2,h3⟩:=wk_run g rfl b hb
 refine⟨?_,?_,h3⟩
 ·unfold wordS; rw [if_pos h1]
 ·unfold tellT; rw [if_pos h1,h2]
end Sw
namespace Sw
theorem okSt_of {st:Std}{a:Nat} (hd:dpLe a st) (ha:a≤390) (hw:wt st≤7900000):BX st.1∧B 390 8000000 (.node st.2):=by
 obtain⟨h1,h2⟩:=hd
 have h3:T.partsL st.1+T.partsL st.2≤7900000:=hw
 exact⟨BX.of (a:=390) (b:=8000000) ⟨by lia,by rw [T.parts_node]; lia⟩ (by lia) (by lia),⟨by lia,by rw [T.parts_node]; lia⟩⟩
theorem wk_sane {st e:Std}{n c:Nat} (g:Wlk st n c e) (he:e.1=[]):∀ a,1≤a→dpLe a st→a+2 * n≤390→wt st+3 * c≤7900000→∀ b,Sane b st.1 st.2:=by
 induction g with
 | nil =>
  intro a ha hd hn hw b
  obtain⟨b1,b2⟩:=okSt_of hd (by lia) (by lia)
  exact .mk b1 b2 fun z=>absurd he z
 | @cons st e n c h1 h2 g ih =>
  intro a ha hd hn hw b
  obtain⟨b1,b2⟩:=okSt_of hd (by lia) (by lia)
  have w2:=wt_nx h2
  exact .mk b1 b2 fun _ _=>ih he (a+2) (by lia) (dp_nx ha hd) (by lia) (by lia) _
def tLayMade (t:List T):List T:=wordT 0 []::W 4::t
def tMaker (t:List T):List T:=W 2::tLayMade (W 4::t)
theorem w_layMade {t cs us x:List T}{n c:Nat}{e:Std} (g:Wlk (.node t::cs,wordT 0 x::us) n c e):Wlk (.node (tLayMade t)::cs,.node x::us) (n+2) (c+2) e:=w_lay (w_front g)
theorem w_maker {t cs us x:List T}{n c:Nat}{e:Std} (g:Wlk (.node t::cs,.node (wordT 0 x::x)::us) n c e):Wlk (.node (tMaker t)::cs,.node x::us) (n+4) (c+3+(T.node x).parts) e :=
 w_twin (w_layMade (w_front g))
end Sw
namespace Sw
open PySem PySem.Spec PyProof.Rows L2
def nmC (k:Nat):List Nat:=([[108,97,121],[100,114,111,112],[116,119,105,110],[115,119,97,112],[102,114,111,110,116],[112,97,114,116],[116,117,114,110],[102,111,114,107],[119,104,105,108,101]]:List (List Nat)).getD k []
def namesV:List V:=(List.range 9).map fun k=>V.str (tx (nmC k))
theorem names_tx:[V.str (Str.ofString "lay"),.str (Str.ofString "drop"),.str (Str.ofString "twin"),.str (Str.ofString "swap"),.str (Str.ofString "front"),.str (Str.ofString "part"),.str (Str.ofString "turn"),.str (Str.ofString "fork"),.str (Str.ofString "while")]=namesV:=by
 rw [show Str.ofString "lay"=tx [108,97,121] by decide +kernel,show Str.ofString "drop"=tx [100,114,111,112] by decide +kernel,show Str.ofString "twin"=tx [116,119,105,110] by decide +kernel,
  show Str.ofString "swap"=tx [115,119,97,112] by decide +kernel,show Str.ofString "front"=tx [102,114,111,110,116] by decide +kernel,show Str.ofString "part"=tx [112,97,114,116] by decide +kernel,
  show Str.ofString "turn"=tx [116,117,114,110] by decide +kernel,show Str.ofString "fork"=tx [102,111,114,107] by decide +kernel,show Str.ofString "while"=tx [119,104,105,108,101] by decide +kernel]
 rfl
theorem name_at {k:Nat} (h:k<9):atI namesV (k:Int)=some (.str (tx (nmC k))):=atI_nat (by unfold namesV; rw [List.getElem?_map,List.getElem?_range h]; rfl)
theorem tx_lb:Str.ofString "["=tx [91]:=by decide +kernel
theorem tx_rb:Str.ofString "]"=tx [93]:=by decide +kernel
theorem tx_bar:Str.ofString "|"=tx [124]:=by decide +kernel
theorem tx_bang:Str.ofString "!"=tx [33]:=by decide +kernel
theorem tx_tick:Str.ofString "'"=tx [39]:=by decide +kernel
theorem tx_blank:Str.ofString " "=tx [32]:=by decide +kernel
def headOdd (w:T):Bool:=T.beq w leaf || (ats w.kids 0).kids.any fun t=>!T.beq t leaf
def oddT (w:T):Bool:=if headOdd w=true then true else if sortT w=0∨sortT w=8 then false else if sortT w=7 then T.beq (loadT w) leaf else (decide (sortT w=9) || !T.beq (loadT w) leaf)
theorem odd_sort {w:T} (h:oddT w=false):sortT w≤8:=by
 have h9:sortT w≤9:=by unfold sortT; split <;> lia
 rcases Nat.lt_or_ge (sortT w) 9 with z | z
 ·lia
 ·have e:sortT w=9:=by lia
  unfold oddT at h
  rw [e] at h
  split at h
  ·cases h
  ·rw [if_neg (by lia),if_neg (by lia)] at h
   simp at h
mutual
inductive Wr:T→List (List Nat)→Prop
 | odd {w:T} (h:oddT w=true):Wr w [33::w.wr]
 | lay {w:T} (h:oddT w=false) (hs:sortT w=0):Wr w [39::(loadT w).wr]
 | plain {w:T} (h:oddT w=false) (h1:1≤sortT w) (h6:sortT w≤6):Wr w [nmC (sortT w)]
 | fork {w:T}{ps qs:List (List Nat)} (h:oddT w=false) (hs:sortT w=7) (hy:Ts (ats (loadT w).kids 0).kids ps) (hn:Ts (loadT (loadT w)).kids qs):Wr w ([nmC 7,[91]]++ps++[[124]]++qs++[[93]])
 | loop {w:T}{ps:List (List Nat)} (h:oddT w=false) (hs:sortT w=8) (hb:Ts (loadT w).kids ps):Wr w ([nmC 8,[91]]++ps++[[93]])
inductive Ts:List T→List (List Nat)→Prop
 | nil:Ts [] []
 | cons {w:T}{ws:List T}{ps qs:List (List Nat)} (h:Wr w ps) (g:Ts ws qs):Ts (w::ws) (ps++qs)
end
abbrev Itm:=T ⊕ List Nat
inductive Outs:List Itm→List (List Nat)→Prop
 | nil:Outs [] []
 | txt {l:List Nat}{r:List Itm}{ps:List (List Nat)} (h:Outs r ps):Outs (.inr l::r) (l::ps)
 | word {w:T}{r:List Itm}{ps qs:List (List Nat)} (h:Wr w ps) (g:Outs r qs):Outs (.inl w::r) (ps++qs)
theorem Outs.append {a b:List Itm}{ps qs:List (List Nat)} (h:Outs a ps) (g:Outs b qs):Outs (a++b) (ps++qs):=by
 induction h with
 | nil=>exact g
 | txt _ ih=>exact .txt ih
 | word h _ ih=>rw [List.append_assoc]; exact .word h ih
theorem outs_ts:∀ {ws:List T}{ps:List (List Nat)},Ts ws ps→Outs (ws.map .inl) ps
 | [],_,h=>by cases h; exact .nil
 | w::ws,_,h=>by cases h with | cons h g=>exact .word h (outs_ts g)
theorem outs_one (l:List Nat):Outs [.inr l] [l]:=.txt .nil
def spelledT (w:T):List Itm :=
 if oddT w=true then [.inr (33::w.wr)] else if sortT w=0 then [.inr (39::(loadT w).wr)]
 else if sortT w=7 then [.inr (nmC 7),.inr [91]]++(ats (loadT w).kids 0).kids.map .inl++[.inr [124]]++(loadT (loadT w)).kids.map .inl++[.inr [93]]
 else if sortT w=8 then [.inr (nmC 8),.inr [91]]++(loadT w).kids.map .inl++[.inr [93]] else [.inr (nmC (sortT w))]
theorem outs_spell {w:T}{ps:List (List Nat)} (h:Wr w ps):Outs (spelledT w) ps:=by
 cases h with
 | odd h=>unfold spelledT; rw [if_pos h]; exact outs_one _
 | lay h hs=>unfold spelledT; rw [if_neg (by rw [h]; decide),if_pos hs]; exact outs_one _
 | plain h h1 h6=>unfold spelledT; rw [if_neg (by rw [h]; decide),if_neg (by lia),if_neg (by lia),if_neg (by lia)]; exact outs_one _
 | fork h hs hy hn =>
  unfold spelledT
  rw [if_neg (by rw [h]; decide),if_neg (by lia),if_pos hs]
  exact ((((Outs.txt (outs_one _)).append (outs_ts hy)).append (outs_one _)).append (outs_ts hn)).append (outs_one _)
 | loop h hs hb =>
  unfold spelledT
  rw [if_neg (by rw [h]; decide),if_neg (by lia),if_neg (by lia),if_pos hs]
  exact ((Outs.txt (outs_one _)).append (outs_ts hb)).append (outs_one _)
def wtI:Itm→Nat
 | .inl t=>5 * t.parts
 | .inr _=>1
def wtL (l:List Itm):Nat:=(l.map wtI).sum
theorem wtL_cons (a:Itm) (l:List Itm):wtL (a::l)=wtI a+wtL l:=rfl
theorem wtL_append (a b:List Itm):wtL (a++b)=wtL a+wtL b:=by unfold wtL; rw [List.map_append,List.sum_append]
theorem wtL_words:∀ ws:List T,wtL (ws.map .inl)=5 * T.partsL ws
 | []=>rfl
 | w::ws=>by rw [List.map_cons,wtL_cons,wtL_words ws,T.partsL_cons]; show 5 * _+_=_; lia
theorem wtL_len:∀ l:List Itm,l.length≤wtL l
 | []=>Nat.le_refl _
 | a::l=>by
  rw [wtL_cons,List.length_cons]
  have:=wtL_len l
  have h1:1≤wtI a:=by
   cases a with
   | inl t=>show 1≤5 * t.parts; have:=T.parts_pos t; lia
   | inr _=>exact Nat.le_refl _
  lia
theorem load_lt (w:T):T.partsL (loadT w).kids+1≤w.parts:=by
 cases w with
 | node ts =>
  cases ts with
  | nil=>rw [T.parts_node]; show T.partsL []+1≤_; rw [T.partsL_nil]; lia
  | cons f r=>rw [T.parts_node,T.partsL_cons]; show T.partsL r+1≤_; lia
theorem two_lt (l:T):T.partsL (ats l.kids 0).kids+T.partsL (loadT l).kids≤T.partsL l.kids:=by
 cases l with
 | node ts =>
  cases ts with
  | nil=>show T.partsL []+T.partsL []≤T.partsL []; rw [T.partsL_nil]; lia
  | cons f r =>
   show T.partsL f.kids+T.partsL r≤T.partsL (f::r)
   rw [T.partsL_cons]
   have:=T.parts_kids f
   lia
theorem spell_wt (w:T):wtL (spelledT w)<5 * w.parts:=by
 have h0:=T.parts_pos w
 have h1:=load_lt w
 have h2:=two_lt (loadT w)
 have one:∀ l:List Nat,wtL [.inr l]=1:=fun _=>rfl
 unfold spelledT
 split
 ·rw [one]; lia
 split
 ·rw [one]; lia
 split
 ·rw [wtL_append,wtL_append,wtL_append,wtL_append,wtL_words,wtL_words,one,one]
  have:wtL [(.inr (nmC 7):Itm),.inr [91]]=2:=rfl
  lia
 split
 ·rw [wtL_append,wtL_append,wtL_words,one]
  have:wtL [(.inr (nmC 8):Itm),.inr [91]]=2:=rfl
  lia
 ·rw [one]; lia
def szP (ps:List (List Nat)):Nat:=ps.flatten.length+ps.length
theorem szP_append (a b:List (List Nat)):szP (a++b)=szP a+szP b:=by unfold szP; rw [List.flatten_append,List.length_append,List.length_append]; lia
theorem szP_one (l:List Nat):szP [l]=l.length+1:=by unfold szP; simp
theorem nm_len (k:Nat):(nmC k).length≤5:=by
 rcases Nat.lt_or_ge k 9 with h | h
 ·have:∀ k,k<9→(nmC k).length≤5:=by decide
  exact this k h
 ·unfold nmC
  rw [List.getD_eq_getElem?_getD,List.getElem?_eq_none (by show 9≤k; exact h)]
  exact Nat.zero_le _
mutual
theorem wr_sz:∀ {w:T}{ps:List (List Nat)},Wr w ps→szP ps≤12 * w.parts
 | w,_,.odd h=>by rw [szP_one,List.length_cons,T.wr_len]; have:=T.parts_pos w; lia
 | w,_,.lay h hs=>by rw [szP_one,List.length_cons,T.wr_len]; have:=load_lt w; have:=T.parts_kids (loadT w); lia
 | w,_,.plain h h1 h6=>by rw [szP_one]; have:=nm_len (sortT w); have:=T.parts_pos w; lia
 | w,_,.fork (ps:=ps) (qs:=qs) h hs hy hn=>by
  have a1:=ts_sz hy
  have a2:=ts_sz hn
  have h1:=load_lt w
  have h2:=two_lt (loadT w)
  rw [szP_append,szP_append,szP_append,szP_append,szP_one,szP_one]
  have:szP [nmC 7,[91]]=7:=rfl
  simp only [List.length_singleton]
  lia
 | w,_,.loop (ps:=ps) h hs hb=>by
  have a1:=ts_sz hb
  have h1:=load_lt w
  rw [szP_append,szP_append,szP_one]
  have:szP [nmC 8,[91]]=8:=rfl
  simp only [List.length_singleton]
  lia
theorem ts_sz:∀ {ws:List T}{ps:List (List Nat)},Ts ws ps→szP ps≤12 * T.partsL ws
 | _,_,.nil=>Nat.zero_le _
 | _,_,.cons h g=>by
  have a1:=wr_sz h
  have a2:=ts_sz g
  rw [szP_append,T.partsL_cons]
  lia
end
def IR (K:PySem.W.Frag) (H:Hp):Itm→V→Prop
 | .inl t,x=>TR K H t x
 | .inr l,x=>x=.str (tx l)
theorem IR.mono {K:PySem.W.Frag}{H H':Hp} (S:Kt H H'):∀ {o:Itm}{x:V},IR K H o x→IR K H' o x
 | .inl _,_,h=>TR.mono S h
 | .inr _,_,h=>h
theorem ir_words {K:PySem.W.Frag}{H:Hp}:∀ {ts:List T}{xs:List V},TRs K H ts xs→All2 (IR K H) (ts.map .inl) xs
 | [],xs,h=>by rw [TRs_nil] at h; rw [h]; exact .nil
 | t::ts,xs,h=>by
  obtain⟨x,r,rfl,h1,h2⟩:=TRs_cons.mp h
  exact .cons h1 (ir_words h2)
def IT (K:PySem.W.Frag) (H:Hp) (its:List Itm) (v:V):Prop:=∃ a xs,v=.ref a∧SqT K H a xs∧All2 (IR K H) its xs
theorem IT.mono {K:PySem.W.Frag}{H H':Hp}{its:List Itm}{v:V} (S:Kt H H') (h:IT K H its v):IT K H' its v:=by
 obtain⟨a,xs,rfl,h1,h2⟩:=h
 exact⟨a,xs,rfl,sqT_mono S h1,h2.imp fun _ _=>IR.mono S⟩
theorem TR.it {K:PySem.W.Frag}{H:Hp}{ts:List T}{x:V} (h:TR K H (.node ts) x):IT K H (ts.map .inl) x:=by
 obtain⟨a,xs,rfl,ha,ra⟩:=TR_node.mp h
 exact⟨a,xs,rfl,ha,ir_words ra⟩
theorem itN {K:PySem.W.Frag}{H:Hp}{p:Addr}{xs:List V}{its:List Itm} (hp:H p=none) (h:All2 (IR K H) its xs):Same H (upd H p (.tup xs))∧IT K (upd H p (.tup xs)) its (.ref p) :=
 ⟨same_new hp _,_,_,rfl,SqT.of upd_same,h.imp fun _ _=>IR.mono (.new hp)⟩
theorem nCatI {K:PySem.W.Frag}{H:Hp}{Q:VK}{is js:List Itm}{x y:V} (hx:IT K H is x) (hy:IT K H js y) (hz:is.length+js.length≤sizeLine) (q:∀ z H',Same H H'→IT K H' (is++js) z→Q z H'):rCatTA K x y H Q:=by
 obtain⟨a,xs,rfl,ha,ra⟩:=hx
 obtain⟨b,ys,rfl,hb,rb⟩:=hy
 exact⟨a,b,xs,ys,rfl,rfl,ha,hb,by rw [ra.length,rb.length]; exact hz,fun p H' S h=>q _ _ S ⟨p,_,rfl,h,(ra.append rb).imp fun _ _=>IR.mono (.of S)⟩⟩
theorem lc_mapT {K:PySem.W.Frag}{H:Hp}{a:Addr}{ts:List T}{xs:List V}{σ:Sg}{js:List Nat}{te:TE}{Q:VK} (f:T→V) (ha:SqT K H a xs) (hts:TRs K H ts xs) (hz:xs.length≤sizeLine)
  (hte:∀ t x H' (R:VK),t∈ts→Same H H'→TR K H' t x→(∀ H3,Same H' H3→R (f t) H3)→te (some x::frv σ js) H' R)
  (q:∀ D H',Same H H'→H' D=some (.lst (ts.map f))→Q (.ref D) H'):LcRun (Itt K a) js te σ Q H:=by
 refine lc_tupI (K:=K) (a:=a) (xs:=xs) (fun D i ys H'=>H D=none∧Same H H'∧H' D=some (.lst ys)∧ys.length=i∧ys=(ts.take i).map f) hz (fun D hD=>?_) (fun D i ys H' j=>⟨j.2.2.1,j.2.2.2.1,sqT_mono (.of j.2.1) ha⟩) (fun D i x ys H' R hx j hR=>?_) (fun D ys H' j=>?_)
 ·exact⟨hD,same_new hD _,upd_same,rfl,rfl⟩
 ·obtain⟨hD,S,h1,hl,e⟩:=j
  obtain⟨t,et,ht⟩:=hts.get hx
  refine hte t x H' R (List.mem_of_getElem? et) S (ht.mono (.of S)) fun H3 S3=>?_
  refine hR _ H3 (S3 _ _ h1) ⟨hD,same_upd (S.trans S3) hD,upd_same,by rw [List.length_append,hl]; rfl,?_⟩
  rw [List.take_add_one,et,List.map_append,e]
  rfl
 ·obtain⟨hD,S,h1,hl,e⟩:=j
  refine q D H' S ?_
  rw [h1,e,List.take_of_length_le (by rw [hts.length]; exact Nat.le_refl _)]
def spShowT (K:PySem.W.Frag):Sp:=fun vs H Q _=>∃ x t,vs=[x]∧TR K H t x∧t.parts≤100000∧∀ H',Same H H'→Q (.str (tx t.wr)) H'
def spOdd (K:PySem.W.Frag):Sp:=fun vs H Q _=>∃ x w,vs=[x]∧TR K H w x∧B 400 100000 w∧∀ H',Same H H'→Q (.bl (oddT w)) H'
def spSpelled (K:PySem.W.Frag):Sp:=fun vs H Q _=>∃ x w,vs=[x]∧TR K H w x∧B 400 100000 w∧∀ y H',Same H H'→IT K H' (spelledT w) y→Q y H'
def spShowX (K:PySem.W.Frag):Sp:=fun vs H Q _=>∃ x ts ps,vs=[x]∧TR K H (.node ts) x∧Ts ts ps∧B 400 80000 (.node ts)∧∀ H',Same H H'→Q (.str (tx (joinL [32] ps))) H'
theorem bt_any:bootBuiltins "any"=some (.builtin "any"):=by decide +kernel
theorem op_neTrK {X:Cx}{K:PySem.W.Frag}{A:Around}{n:Nat} (hK:X.K=K) (hA:X.A=A) (hu:A.units+n+1<cLine):OpR X (compareOp .NotEq) (rNeTr K n):=by subst hK; subst hA; exact op_neTr hu
end Sw
namespace Sw
open PySem PySem.Spec PyProof.Rows L2
section
variable {X:Cx}{o e value:Expr}{f:Str}{pos pos':Pos}{ta tv:TE}
theorem qe_fld (he:QE X e ta) (hb:attributeBase e f X.env (eval e X.env)=eval e X.env):QE X (.Attribute e f pos) (tFld X.K ta f):=⟨pe_fld he.run hb⟩
theorem qs_fld (ha:QE X o ta) (hv:QE X value tv) (hs:swapsWith value (some (.Attribute o f pos')) pos.line X.env=pure false):QS X (.Assign [.Attribute o f pos'] value pos) (sFld X.K ta tv f):=⟨ps_fld ha.run hv.run hs⟩
end
section
variable {X:Cx}{CX:CXT}{k:Nat}{f C:Addr}{fd:FuncData}{ps:List Str}{sp:Sp}{dvs:List V}{ds:List Value}{E:XK}{m x:Str}{p apos pos:Pos}{o e:Expr}{es:List Expr}{ta:TE}{t:TA}
theorem qe_meth {pl:Sem Bool} (he:QE X o ta) (c:Cls X.K C) (hm:Meth X.K C m f) (F:FnOk X.prog X.w X.K X.mg X.base CX k f fd ps sp) (hr:Room k X.A) (hb:Binds X.K fd ps ds) (hd:Vals dvs ds) (hx:Passes CX X E) (ha:QA X (e::es) t)
  (hst:starEach (e::es) X.env=(false,eval e X.env)::starEach es X.env:=by rfl) (hpl:(backTo pos (starEach es X.env)).any (·.1)=false:=by rfl)
  (ht:eval (.Call (.Attribute o m apos) (e::es) [] pos) X.env=(do
   let ov ← eval o X.env
   standAt apos.atName
   let (f,first) ← holding [ov] (getMethod ov m pl)
   callWith pos f first (backTo pos (starEach (e::es) X.env)) (backToKw pos (keywordEach [] X.env))):=by rfl):QE X (.Call (.Attribute o m apos) (e::es) [] pos) (tMeth C m sp dvs E ta t):=⟨pe_meth (pl:=pl) he.run c hm F hr hb hd hx ha.run hst hpl ht⟩
theorem qe_meth0 {pl:Sem Bool} (he:QE X o ta) (c:Cls X.K C) (hm:Meth X.K C m f) (F:FnOk X.prog X.w X.K X.mg X.base CX k f fd ps sp) (hr:Room k X.A) (hb:Binds X.K fd ps ds) (hd:Vals dvs ds) (hx:Passes CX X E)
  (ht:eval (.Call (.Attribute o m apos) [] [] pos) X.env=(do
   let ov ← eval o X.env
   standAt apos.atName
   let (f,first) ← holding [ov] (getMethod ov m pl)
   callWith pos f first (backTo pos (starEach [] X.env)) (backToKw pos (keywordEach [] X.env))):=by rfl):QE X (.Call (.Attribute o m apos) [] [] pos) (tMeth C m sp dvs E ta tNil):=⟨pe_meth0 (pl:=pl) he.run c hm F hr hb hd hx ht⟩
theorem qe_make0 (M:Mk X.K C f) (F:FnOk X.prog X.w X.K X.mg X.base CX k f fd ps sp) (hr:Room (k+1) X.A) (hg:Gl X x) (hm:X.mg x=some (.ref C)) (hb:Binds X.K fd ps ds) (hd:Vals dvs ds) (hx:Passes CX X E)
  (hdb:(x == ("__debug__":Str))=false:=by decide):QE X (.Call (.Name x p) [] [] pos) (tMake C sp dvs E tNil):=⟨pe_make0 M F hr hg hm hb hd hx hdb⟩
end
theorem putF_twice (f:Str) (u v:V):∀ fs:List (Str×V),putF f v (putF f u fs)=putF f v fs
 | []=>by
  show putF f v [(f,u)]=[(f,v)]
  unfold putF
  rw [if_pos rfl]
 | (g,x)::r=>by
  rw [putF]
  by_cases h:g=f
  ·rw [if_pos h,putF,if_pos h,putF,if_pos h]
  ·rw [if_neg h,putF,if_neg h,putF_twice f u v r,putF,if_neg h]
theorem putF_len (f:Str) (v:V):∀ fs:List (Str×V),(putF f v fs).length≤fs.length+1
 | []=>Nat.le_refl _
 | (g,x)::r=>by
  rw [putF]
  split
  ·show r.length+1≤r.length+1+1; lia
  ·have:=putF_len f v r
   show (putF f v r).length+1≤r.length+1+1
   lia
def fl (R P:Addr) (nm:List Nat):List (Str×V):=putF "named" (.str (tx nm)) (putF "places" (.ref P) (putF "rows" (.ref R) []))
section
variable {R P:Addr}{nm:List Nat}
theorem fl_rows:(fl R P nm).lookup ("rows":Str)=some (.ref R):=by unfold fl; rw [lookup_putF,if_neg (by decide +kernel),lookup_putF,if_neg (by decide +kernel),lookup_putF,if_pos rfl]
theorem fl_places:(fl R P nm).lookup ("places":Str)=some (.ref P):=by unfold fl; rw [lookup_putF,if_neg (by decide +kernel),lookup_putF,if_pos rfl]
theorem fl_named:(fl R P nm).lookup ("named":Str)=some (.str (tx nm)):=by unfold fl; rw [lookup_putF,if_pos rfl]
theorem fl_no {m:Str} (h1:¬ m="named") (h2:¬ m="places") (h3:¬ m="rows"):(fl R P nm).lookup m=none:=by unfold fl; rw [lookup_putF,if_neg h1,lookup_putF,if_neg h2,lookup_putF,if_neg h3]; rfl
theorem fl_put (nm':List Nat):putF "named" (.str (tx nm')) (fl R P nm)=fl R P nm':=by unfold fl; rw [putF_twice]
theorem fl_len:(fl R P nm).length<1000:=by
 unfold fl
 have h1:=putF_len "named" (.str (tx nm)) (putF "places" (.ref P) (putF "rows" (.ref R) []))
 have h2:=putF_len "places" (.ref P) (putF "rows" (.ref R) [])
 have h3:=putF_len "rows" (.ref R) []
 have:([]:List (Str×V)).length=0:=rfl
 lia
end
def plV (pl:List (List Nat)):List V:=pl.reverse.map fun c=>V.str (tx c)
structure RdX (K:PySem.W.Frag) (C:Addr) (H₀ H:Hp) (o dx R P:Addr) (ys:List V) (st:List (List T)) (pl:List (List Nat)) (nm:List Nat):Prop where
 ob:H o=some (.ins C dx (fl R P nm))
 on:H₀ o=none
 pn:H₀ P=none
 rows:RowsR K H₀ H R st ys
 at_:H P=some (.lst (plV pl))
 np:(.ref P:V) ∉ (.ref R:V)::ys
def RdAt (K:PySem.W.Frag) (C:Addr) (H₀ H:Hp) (o:Addr) (st:List (List T)) (pl:List (List Nat)) (nm:List Nat):Prop:=∃ dx R P ys,RdX K C H₀ H o dx R P ys st pl nm
section
variable {K:PySem.W.Frag}{C:Addr}{H₀ H:Hp}{o dx R P:Addr}{ys:List V}{st:List (List T)}{pl:List (List Nat)}{nm:List Nat}
theorem rows_same {H':Hp}{p:Addr} (h:RowsR K H₀ H p st ys) (S:Same H H'):RowsR K H₀ H' p st ys :=
 ⟨h.new,h.same.trans S,S _ _ h.at_,h.rows.imp fun _ _ ⟨a,xs,e,h1,h2,h3⟩=>⟨a,xs,e,h1,S _ _ h2,h3.mono (.of S)⟩,h.nd⟩
theorem rows_else {p q:Addr}{x:HO} (h:RowsR K H₀ H p st ys) (k:Kt H (upd H q x)) (h0:H₀ q=none) (hn:(.ref q:V) ∉ (.ref p:V)::ys):RowsR K H₀ (upd H q x) p st ys :=
 ⟨h.new,same_upd h.same h0,by rw [upd_ne (fun z=>hn (by rw [z]; exact List.mem_cons_self))]; exact h.at_,rows_upd k h.rows fun z=>hn (List.mem_cons_of_mem _ z),h.nd⟩
theorem rows_in (h:RowsR K H₀ H R st ys) {q:Addr} (hq:(.ref q:V)∈(.ref R:V)::ys):∃ zs,H q=some (.lst zs):=by
 rcases List.mem_cons.mp hq with z | z
 ·cases z; exact⟨_,h.at_⟩
 ·obtain⟨i,hi⟩:=List.mem_iff_getElem?.mp z
  obtain⟨ts,_,a,xs,e,_,h2,_⟩:=h.rows.get hi
  cases e
  exact⟨_,h2⟩
theorem RdX.grow {H':Hp} (h:RdX K C H₀ H o dx R P ys st pl nm) (S:Same H H'):RdX K C H₀ H' o dx R P ys st pl nm:=⟨S _ _ h.ob,h.on,h.pn,rows_same h.rows S,S _ _ h.at_,h.np⟩
theorem RdAt.grow {H':Hp} (h:RdAt K C H₀ H o st pl nm) (S:Same H H'):RdAt K C H₀ H' o st pl nm:=by obtain⟨dx,R,P,ys,h⟩:=h; exact⟨dx,R,P,ys,h.grow S⟩
theorem RdAt.same (h:RdAt K C H₀ H o st pl nm):Same H₀ H:=by obtain⟨dx,R,P,ys,h⟩:=h; exact h.rows.same
theorem Kt.ins {C' dx':Addr}{fs:List (Str×V)}{x:HO} (h:H o=some (.ins C' dx' fs)):Kt H (upd H o x) :=
 ⟨fun b xs e=>by rw [upd_ne (fun z=>by rw [z,h] at e; cases e)]; exact e,fun b _ _ e=>by rw [upd_ne (fun z=>by rw [z,h] at e; cases e)]; exact e⟩
theorem RdX.name (h:RdX K C H₀ H o dx R P ys st pl nm) (nm':List Nat):RdX K C H₀ (upd H o (.ins C dx (fl R P nm'))) o dx R P ys st pl nm':=by
 have hn:(.ref o:V) ∉ (.ref R:V)::ys:=fun z=>by
  obtain⟨zs,e⟩:=rows_in h.rows z
  rw [h.ob] at e
  cases e
 have hP:P≠o:=fun z=>by have:=h.at_; rw [z,h.ob] at this; cases this
 exact⟨upd_same,h.on,h.pn,rows_else h.rows (Kt.ins h.ob) h.on hn,by rw [upd_ne hP]; exact h.at_,h.np⟩
theorem RdX.oP (h:RdX K C H₀ H o dx R P ys st pl nm):o≠P:=fun z=>by have:=h.at_; rw [← z,h.ob] at this; cases this
theorem RdX.oR (h:RdX K C H₀ H o dx R P ys st pl nm):o≠R:=fun z=>by have:=h.rows.at_; rw [← z,h.ob] at this; cases this
theorem RdX.PR (h:RdX K C H₀ H o dx R P ys st pl nm):P≠R:=fun z=>h.np (by rw [z]; exact List.mem_cons_self)
theorem RdX.place (h:RdX K C H₀ H o dx R P ys st pl nm) {pl':List (List Nat)}{zs:List V} (e:zs=plV pl'):RdX K C H₀ (upd H P (.lst zs)) o dx R P ys st pl' nm:=by
 subst e
 exact⟨by rw [upd_ne h.oP]; exact h.ob,h.on,h.pn,rows_else h.rows (Kt.lst h.at_) h.pn h.np,upd_same,h.np⟩
theorem RdX.enter (h:RdX K C H₀ H o dx R P ys st pl nm) {q:Addr} (hq:H q=none):RdX K C H₀ (upd (upd H q (.lst [])) R (.lst (ys++[.ref q]))) o dx R P (ys++[.ref q]) ([]::st) pl nm:=by
 have nPq:P≠q:=ne_of_none h.at_ hq
 refine⟨?_,h.on,h.pn,rows_open h.rows hq,?_,fun z=>?_⟩
 ·rw [upd_ne h.oR,upd_ne (ne_of_none h.ob hq)]; exact h.ob
 ·rw [upd_ne h.PR,upd_ne nPq]; exact h.at_
 ·rcases List.mem_cons.mp z with z | z
  ·exact h.PR (V.ref.inj z)
  ·rcases List.mem_append.mp z with z | z
   ·exact h.np (List.mem_cons_of_mem _ z)
   ·exact nPq (V.ref.inj (List.mem_singleton.mp z))
theorem RdX.add {r:List T}{rs:List (List T)}{t:T}{x:V} (h:RdX K C H₀ H o dx R P ys (r::rs) pl nm) (ht:TR K H t x) :
  ∃ (ys0:List V) (a:Addr) (xs:List V),ys=ys0++[.ref a]∧H a=some (.lst xs)∧xs.length=r.length∧RdX K C H₀ (upd H a (.lst (xs++[x]))) o dx R P ys ((r++[t])::rs) pl nm:=by
 have hr:=h.rows.rows
 rw [List.reverse_cons] at hr
 obtain⟨ys0,y,rfl,h1,a,xs,rfl,ha0,ha,hta⟩:=All2.snoc hr
 have nd:=h.rows.nd
 have ndp:=(List.nodup_cons.mp nd).1
 have ndy:=(List.nodup_cons.mp nd).2
 have na:(.ref a:V) ∉ ys0:=fun z=>(List.nodup_append.mp ndy).2.2 _ z _ (by simp) rfl
 have nRa:R≠a:=fun z=>ndp (by rw [z]; simp)
 have nPa:P≠a:=fun z=>h.np (by rw [z]; simp)
 have noa:o≠a:=fun z=>by rw [← z,h.ob] at ha; cases ha
 have k:=Kt.lst (o:=.lst (xs++[x])) ha
 refine⟨ys0,a,xs,rfl,ha,hta.length,by rw [upd_ne noa]; exact h.ob,h.on,h.pn,⟨h.rows.new,same_upd h.rows.same ha0,by rw [upd_ne nRa]; exact h.rows.at_,?_,nd⟩,by rw [upd_ne nPa]; exact h.at_,h.np⟩
 rw [List.reverse_cons]
 exact All2.append (rows_upd k h1 na) (All2.one ⟨a,_,rfl,ha0,upd_same,TRs.append (hta.mono k) (trs1 (ht.mono k))⟩)
theorem RdX.shut {r:List T}{rs:List (List T)} (h:RdX K C H₀ H o dx R P ys (r::rs) pl nm) :
  ∃ (ys0:List V) (a:Addr) (xs:List V),ys=ys0++[.ref a]∧R≠a∧H a=some (.lst xs)∧TRs K H r xs∧RdX K C H₀ (upd H R (.lst ys0)) o dx R P ys0 rs pl nm:=by
 have hr:=h.rows.rows
 rw [List.reverse_cons] at hr
 obtain⟨ys0,y,rfl,h1,a,xs,rfl,ha0,ha,hta⟩:=All2.snoc hr
 have nd:=h.rows.nd
 have ndp:=(List.nodup_cons.mp nd).1
 have ndy:=(List.nodup_cons.mp nd).2
 have nRa:R≠a:=fun z=>ndp (by rw [z]; simp)
 have k:=Kt.lst (o:=.lst ys0) h.rows.at_
 refine⟨ys0,a,xs,rfl,nRa,ha,hta,by rw [upd_ne h.oR]; exact h.ob,h.on,h.pn,⟨h.rows.new,same_upd h.rows.same h.rows.new,upd_same,rows_upd k h1 fun z=>ndp (by simp [z]),List.nodup_cons.mpr ⟨fun z=>ndp (by simp [z]),(List.nodup_append.mp ndy).1⟩⟩,by rw [upd_ne h.PR]; exact h.at_,fun z=>h.np ?_⟩
 rcases List.mem_cons.mp z with z | z
 ·rw [z]; exact List.mem_cons_self
 ·exact List.mem_cons_of_mem _ (List.mem_append_left _ z)
end
end Sw
namespace SwR
open PySem PySem.Spec PyProof.Rows L2 Sw
def ItrT (K:PySem.W.Frag) (a:Addr) (n:Nat):It :=
 ⟨fun i H=>∃ xs x,SqT K H a xs∧xs.length=n∧xs.reverse[i]?=some x,fun i H v H'=>H'=H∧∀ xs,SqT K H a xs→xs.reverse[i]?=some v,fun i H=>∃ xs,SqT K H a xs∧xs.length=n∧n=i⟩
theorem rev_at {α:Type}{xs:List α}{i:Nat}{x:α} (h:xs.reverse[i]?=some x):i<xs.length∧xs[xs.length - 1 - i]?=some x:=by
 have hi:i<xs.length:=by have:=(List.getElem?_eq_some_iff.mp h).1; simpa using this
 exact⟨hi,by rw [List.getElem?_reverse hi] at h; exact h⟩
theorem turn_revT {P:Program}{w:World}{K:PySem.W.Frag}{tg:Expr} (a it:Addr) (n:Nat) (hne:a≠it):Turn P w K tg (ItrT K a n) [it] it (fun i h=>RvO h it a ((n:Int) - 1 - (i:Int))) where
 mem:=by simp
 obj:=fun i h st b hb=>by
  have e:b=it:=by simpa using hb
  subst e
  obtain⟨o,ho,hc,hd⟩:=st
  exact⟨o,ho,fun v z=>by rw [hd] at z; cases z⟩
 keep:=fun i h h' st k=>st.keep fun o e=>k it (by simp) o e
 item:=by
  intro X hP hw hK hc i pins s σ H E I hf st hg
  subst hP hw hK
  obtain⟨xs,x,hq,hn,hx⟩:=hg
  obtain⟨hi,hx'⟩:=rev_at hx
  obtain⟨its,rv,p,hz⟩:=I.tuple hq
  obtain⟨u,hu,ru⟩:=rv.get hx'
  obtain⟨f0,f1,f2,f3,f4,f5⟩:=hf it (by simp)
  have hl:=rv.length
  have e1:(n:Int) - 1 - (i:Int)=((xs.length - 1 - i:Nat):Int):=by lia
  rw [e1] at st
  refine next_item (items:=its.toArray) st p (x:=u) (by simpa using hu) (by rw [List.size_toArray]; lia) hne fun h' tk st' sb=>?_
  have e2:((xs.length - 1 - i:Nat):Int) - 1=(n:Int) - 1 - ((i+1:Nat):Int):=by lia
  rw [e2] at st'
  have I1:Inv X pins σ H { s with heap:=h',toks:=tk }:=I.turned (fun b o hb e=>(sb.2 b hb).trans e) f0 f1 f3 f4 f5
  obtain⟨o,e,c,d⟩:=id st'
  exact⟨u,rfl,go_of (s:={ s with heap:=h',toks:=tk }) e c d (by decide) ⟨x,H,I1,ru,⟨rfl,fun ys hy=>by rw [I.tuple_inj hy hq]; exact hx⟩,st',fun b hb=>(hf b hb).1⟩⟩
 done:=by
  intro X hP hw hK hc i pins s σ H E I hf st hg
  subst hP hw hK
  obtain⟨xs,hq,hn,hx⟩:=hg
  obtain⟨f0,f1,f2,f3,f4,f5⟩:=hf it (by simp)
  have e1:(n:Int) - 1 - (i:Int)=-1:=by lia
  rw [e1] at st
  exact next_end (I.ok.hd hc) st fun h' eb=>⟨rfl,I.turned (t':=s.toks) (fun b o hb e=>eb b o hb e) f0 f1 f3 f4 f5⟩
 self:=fun _ _ _ _ _ st h=>iter_self st h
def iRevT (K:PySem.W.Frag) (tl:TE):TI:=fun σ H R=>tl σ H fun x H1=>∃ a xs,x=.ref a∧SqT K H1 a xs∧R (ItrT K a xs.length) H1
theorem pi_revT {X:Cx}{tg l:Expr}{tl:TE}{p pos:Pos} (hg:Gl X "reversed") (hm:X.mg "reversed"=none) (hl:PE X l tl) (hs:starEach [l] X.env=[(false,eval l X.env)]:=by rfl):PI X tg (.Call (.Name "reversed" p) [l] [] pos) (iRevT X.K tl):=by
 intro pins s σ H R I h
 refine wpAny_Call_Name_kw (ld_blt I hg hm bt_reversed ?_)
 refine PyProof.Rows.callWith_type1 ?_ (by rw [hs]; rfl) (by rfl)
 rw [hs]
 refine Calls.spliced_cons (thn (hl pins s σ H _ I h) fun v s1 ⟨x,H1,I1,r1,q1⟩=>Calls.spliced_nil ?_)
 obtain⟨a,xs,rfl,hq,q⟩:=q1
 cases r1
 obtain⟨its,rv,ht,hz⟩:=I1.tuple hq
 have hlen:=rv.length
 have la:a<s1.heap.objs.size:=let ⟨_,ho,_⟩:=ht; Heap.lt_size ho
 refine call_rev ht (by rw [List.size_toArray]; lia) fun tk=>?_
 have hit:RvO (s1.heap.push { cls:=.type "reversed",data:=.fields #[.ref a,rawInt ((its.toArray.size:Int) - 1)] }) s1.heap.objs.size a ((its.toArray.size:Int) - 1):=⟨_,Heap.get?_push_size _ rfl,rfl,rfl⟩
 refine iter_self (s:={ s1 with heap:=s1.heap.push { cls:=.type "reversed",data:=.fields #[.ref a,rawInt ((its.toArray.size:Int) - 1)] },toks:=tk }) hit ?_
 refine⟨s1.heap.objs.size,[s1.heap.objs.size],_,ItrT X.K a xs.length,H1,rfl,I1.kept fun b o e=>Heap.get?_push_of_some _ e,turn_revT a _ xs.length (Nat.ne_of_lt la),?_,fun b hb=>?_,q⟩
 ·have e1:(xs.length:Int) - 1 - ((0:Nat):Int)=(its.toArray.size:Int) - 1:=by rw [List.size_toArray]; lia
  show RvO _ _ _ ((xs.length:Int) - 1 - ((0:Nat):Int))
  rw [e1]
  exact hit
 ·have e:b=s1.heap.objs.size:=by simpa using hb
  subst e
  exact I1.fpOk (Nat.le_refl _) (I1.hok.fresh (Nat.le_refl _))
section
variable {prog:Program}{w:World}{A:Around}{E:Value→Shared→Prop}{s:Shared}
end
end SwR
namespace Sw
open PySem PySem.Spec PyProof.Rows L2
section
variable {prog:Program}{w:World}{A:Around}{E:Value→Shared→Prop}{s:Shared}{K:PySem.W.Frag}{x y C:Addr}{ox:Obj}{od:Option Obj}{items:Array Value}
theorem call_objEq {Q:Value→Shared→Prop} (kin:K.In s.heap) (J:PySem.W.InstAt s.heap x ox C od) (hm:PySem.W.mroIn K C (.type "object")=some true) (hxy:x≠y) {oy:Obj} (hy:s.heap.get? y=some oy) (h:Q .notImplemented s) :
  wpAny (model prog w) A (call (.builtin "object.__eq__") [.ref x,.ref y]) Q E s:=by
 refine wpAny_call (codeAny_call_builtin (by decide +kernel) F.cmpEntry_eq ?_)
 unfold checkBuiltinCall
 rw [F.cmpKind_eq,F.cmpSplit_eq]
 dsimp only
 refine wpAny_bind ?_
 unfold isInstance
 refine wpAny_bind (J.type _ _ _ s (fun _ _ e=>e) ?_)
 refine PySem.W.looks_mroIn kin hm _ _ _ s (fun _ _ e=>e) ?_
 rw [if_neg (by decide)]
 refine wpAny_of_eq (F.cmpArgs_eq (.ref x) (.ref y)) ?_
 unfold Builtin.«object.__eq__»
 refine wpAny_bind (wpAny_of_eq (a:=(Value.ref x,[Value.ref y])) rfl ?_)
 dsimp only
 refine wpAny_bind (wpAny_isSame_ref_other hxy J.at_ hy (by rw [J.cls]; exact fun z=>nomatch z) ?_)
 rw [if_neg (by decide)]
 exact wpAny_pure h
theorem call_tupEq {Q:Value→Shared→Prop} (kin:K.In s.heap) (J:PySem.W.InstAt s.heap x ox C od) (hm:PySem.W.mroIn K C (.type "tuple")=some false) (ht:s.TypeIs (.ref y) "tuple") (h:Q .notImplemented s) :
  wpAny (model prog w) A (call (.builtin "tuple.__eq__") [.ref y,.ref x]) Q E s:=by
 refine wpAny_call_entry F.slot_tuple_eq ht F.entry_tuple_eq ?_ (F.args_tuple_eq_2 _ _)
 unfold Builtin.«tuple.__eq__»
 wp_delta
 refine wpAny_bind (wpAny_of_eq (a:=(Value.ref y,[Value.ref x])) rfl ?_)
 dsimp only
 refine wpAny_bind ?_
 unfold isInstance
 refine wpAny_bind (J.type _ _ _ s (fun _ _ e=>e) ?_)
 refine PySem.W.looks_mroIn kin hm _ _ _ s (fun _ _ e=>e) ?_
 rw [if_pos (by decide)]
 exact wpAny_pure ⟨_,rfl,h⟩
theorem eq_ins_tup {Q:Value→Shared→Prop} (hu:A.units<cLine) (kin:K.In s.heap) (J:PySem.W.InstAt s.heap x ox C od) (he:PySem.W.findIn K (.ref C) "__eq__"=some (some (.builtin "object.__eq__"))) (hm:PySem.W.mroIn K C (.type "object")=some true)
  (hmt:PySem.W.mroIn K C (.type "tuple")=some false) (hsub:PySem.W.subIn K (.type "tuple") (.ref C)=some false) (hxy:x≠y) {oy:Obj} (hy:s.heap.get? y=some oy) (hc:oy.cls=.type "tuple") (h:Q (.bool false) s) :
  wpAny (model prog w) A (compareOp .Eq (.ref x) (.ref y)) Q E s:=by
 have ht:s.TypeIs (.ref y) "tuple":=⟨oy,hy,hc⟩
 show wpAny _ _ (richCompare .Eq (.ref x) (.ref y)) _ _ _
 unfold richCompare
 refine wpAny_holding (wpAny_bind (wpAny_cRoomFor hu ?_))
 rw [show oneThing? CmpOp.Eq (Value.ref x) (Value.ref y)=none from rfl]
 show wpAny _ _ (typeOf (.ref x) >>= _) _ _ _
 refine wpAny_bind (J.type _ _ _ s (fun _ _ e=>e) ?_)
 refine wpAny_bind (wpAny_typeOf ht ?_)
 rw [if_pos (by rfl)]
 refine wpAny_bind (PySem.W.looks_subIn kin hsub _ _ _ s (fun _ _ e=>e) ?_)
 show wpAny _ _ (tryCompare (.ref x) (Str.ofString "__eq__") (.ref y) >>= _) _ _ _
 have try1:∀ {Q':Option Value→Shared→Prop},Q' none s→wpAny (model prog w) A (tryCompare (.ref x) (Str.ofString "__eq__") (.ref y)) Q' E s:=fun {Q'} q=>by
  unfold tryCompare
  refine wpAny_bind ?_
  unfold callSpecialIfBound?
  refine wpAny_holding (wpAny_bind ?_)
  unfold bindSpecialIfBound?
  refine wpAny_bind ?_
  unfold specialOf
  refine wpAny_bind (J.type _ _ _ s (fun _ _ e=>e) ?_)
  refine PySem.W.looks_findIn kin he _ _ _ s (fun _ _ e=>e) ?_
  dsimp only
  have hb:bindSpecial (.builtin "object.__eq__") (.ref x)=pure (.builtin "object.__eq__",[.ref x]):=F.slot_object_eq.bind _
  rw [hb]
  have fin:wpAny (model prog w) A (call (.builtin "object.__eq__") ([.ref x]++[.ref y])) (fun v s1=>wpAny (model prog w) A (pure (some v)) (fun a s'=>wpAny (model prog w) A (match a with | some .notImplemented=>pure none | none=>pure none | some v=>pure (some v)) Q' E s') E s1) E s :=
   call_objEq kin J hm hxy hy (wpAny_pure (wpAny_pure q))
  refine wpAny_bind (wpAny_askSetting ?_)
  split
  ·exact wpAny_bind (wpAny_pure (wpAny_pure (wpAny_bind fin)))
  ·exact wpAny_tryCatch (wpAny_bind (wpAny_pure (wpAny_pure (wpAny_bind fin))))
 refine wpAny_bind (try1 ?_)
 show wpAny _ _ (tryCompare (.ref y) (Str.ofString "__eq__") (.ref x) >>= _) _ _ _
 refine wpAny_bind (wpAny_tryCompare_declines ht F.slot_tuple_eq (call_tupEq kin J hmt ht ⟨rfl,?_⟩))
 refine wpAny_bind (wpAny_rule ?_)
 exact wpAny_bind (wpAny_isSame_ref_other hxy J.at_ hy (by rw [J.cls]; exact fun z=>nomatch z) (wpAny_pure h))
end
end Sw
namespace SwR
open PySem PySem.Spec PyProof.Rows L2 Sw
end SwR
namespace Sw
open PySem PySem.Spec PyProof.Rows L2
structure Row1 (K:PySem.W.Frag) (C:Addr):Prop where
 cl:Cls K C
 eq:PySem.W.findIn K (.ref C) "__eq__"=some (some (.builtin "object.__eq__"))
 ob:PySem.W.mroIn K C (.type "object")=some true
 tu:PySem.W.mroIn K C (.type "tuple")=some false
 sb:PySem.W.subIn K (.type "tuple") (.ref C)=some false
 ca:PySem.W.findIn K (.ref C) "__class__"=some (some (.builtin "object.__class__"))
 cn:PySem.W.specialIn K (.builtin "object.__class__") "__get__"=some (some (.builtin "getset_descriptor.__get__"))
 ct:PySem.W.takesIn K (.builtin "object.__class__")=some true
theorem Row1.ty {K:PySem.W.Frag}{C a dx:Addr}{fs:List (Str×V)}{H:Hp} (r:Row1 K C) (h:H a=some (.ins C dx fs)):TyOf K H (.ref a) (.ref C):=.ins h r.cl r.ca r.cn r.ct r.ob
section
variable {X:Cx}
def rEqRow (K:PySem.W.Frag) (n:Nat):R2:=fun x y H Q=>(∃ t u,TR K H t x∧TR K H u y∧t.deep≤n∧Q (.bl (T.beq t u)) H)∨∃ a C dx fs b ys,x=.ref a∧H a=some (.ins C dx fs)∧Row1 K C∧y=.ref b∧H b=some (.tup ys)∧Q (.bl false) H
theorem op_eqRow {n:Nat} (hu:X.A.units+n<cLine):OpR X (compareOp .Eq) (rEqRow X.K n):=by
 intro pins s σ H x y v u Q I rx ry h
 rcases h with h | ⟨a,C,dx,fs,b,ys,rfl,ha,r,rfl,hb,q⟩
 ·exact op_eqTr hu pins s σ H x y v u Q I rx ry h
 ·cases (show v=Value.ref a from rx)
  cases (show u=Value.ref b from ry)
  obtain⟨mA,O,_⟩:=ins_get I.hok ha
  obtain⟨od,J,_⟩:=O.look
  obtain⟨_,_,_,p⟩:=(show ObjOk X.prog X.w H s.heap b (.tup ys) from I.hok b _ hb)
  obtain⟨o,h1,h2,_⟩:=p
  exact eq_ins_tup (by lia) I.kIn J r.eq r.ob r.tu r.sb (fun z=>by rw [z,hb] at ha; cases ha) h1 h2 ⟨.bl false,H,I,rfl,q⟩
theorem call_isinstO:CallR X (.builtin "isinstance") (fun xs H Q=>∃ x D b,xs=[x,.ref D]∧((∃ t,TyOf X.K H x t∧PySem.W.kitOne X.K t (.ref D)=some b)∨(∃ a ys,x=.ref a∧SqT X.K H a ys∧PySem.W.kitOne X.K (.type "tuple") (.ref D)=some b))∧Q (.bl b) H):=by
 intro pins s σ H xs us Q I r h
 obtain⟨x,D,b,rfl,h,q⟩:=h
 obtain⟨u,w',rfl,r1,r2⟩:=vals2 r
 cases (show w'=Value.ref D from r2)
 rcases h with⟨t,ty,e⟩ | ⟨a,ys,rfl,hq,e⟩
 ·exact isinst_ok I r1 ty e fun tk=>⟨.bl b,H,I.tok tk,rfl,q⟩
 ·cases r1
  obtain⟨its,_,⟨o,h1,h2,_⟩,_⟩:=I.tuple hq
  exact PySem.W.kia_one PySem.W.kitx_tuple I.kIn ⟨o,h1,h2⟩ e (fun z=>nomatch z) fun tk=>⟨.bl b,H,I.tok tk,rfl,q⟩
def rInsert0:V→List V→Hp→VK→Prop:=fun x vs H Q=>∃ l xs y,x=.ref l∧vs=[.int 0,y]∧H l=some (.lst xs)∧xs.length<sizeLine∧Q .non (upd H l (.lst (y::xs)))
theorem mt_insert0:MtM X "list.insert" rInsert0:=by
 intro pins s σ H x vs v us Q I rx rv h
 obtain⟨l,xs,y,rfl,rfl,hH,hz,q⟩:=h
 cases rx
 obtain⟨u0,u,rfl,r0,ru⟩:=vals2 rv
 obtain⟨t,rfl⟩:=r0
 obtain⟨z,its,n,r,hl,e⟩:=I.lstM hH
 refine call_meets F.slot_list_insert ⟨_,e,rfl⟩ F.entry_list_insert (F.args_list_insert_3 _ _ _) (AutoSeq1.list_insert_list_int_val_1 l its.toArray n 0 t u (by decide) (by rw [List.size_toArray]; lia)) ⟨e,?_⟩
 refine⟨.non,_,I.lset (its':=u::its) hH e (by simp) (.cons ru r) ?_,rfl,q⟩
 rw [List.length_cons]
 lia
theorem get_list:PGet X (rIxL X.K):=by
 intro pins s σ H x y v u Q I rx ry h
 obtain⟨p,xs,i,z,rfl,rfl,hq,he,q⟩:=h
 cases rx
 obtain⟨t,rfl⟩:=ry
 obtain⟨its,r,pl,hz⟩:=I.list hq
 obtain⟨j,h1,h2,h3,h4,h5⟩:=atI_get he
 obtain⟨w,ew,rw'⟩:=r.get h2
 have hl:=r.length
 have hn:=line63
 have fin:EP X pins σ Q w s:=⟨z,H,I,rw',q⟩
 by_cases h0:0≤i
 ·have hj:i.toNat=j:=by
   rw [seqIndex_of h0 h5] at h1
   exact Option.some.inj h1
  exact getItem_listL pl.isList h0 (by lia) (by rw [hj]; exact ew) fin
 ·have hj:(i+(its.toArray.size:Int)).toNat=j:=by
   rw [seqIndex_neg (by lia) h4] at h1
   rw [List.size_toArray,← hl]
   exact Option.some.inj h1
  exact wpAny_getItem_list_neg pl.isList (by lia) (by rw [List.size_toArray] <;> lia) (by lia) (by rw [hj]; simpa using ew) fin
theorem qs_augS {pos:Pos}{o i e:Expr}{to ti te:TE}{tget:V→V→Hp→VK→Prop}{tip:TIp}{tset:TSet}{op:Operator}{tpos:Pos} (ho:QE X o to) (hi:QE X i ti) (hg:PGet X tget) (he:QE X e te) (hp:PIp X op tip) (hs:PSet X tset)
  (ha:∀ ov iv new,augStore i ov iv new=(do holding [new,ov,iv] (setItem ov iv new); release [new,ov,iv] []; pure .next):=by intros; rfl):QS X (.AugAssign (.Subscript o i tpos) op e pos) (tAugS to ti te tget tip tset):=⟨ps_augS ho.run hi.run hg he.run hp hs ha⟩
theorem qs_fldaug {o value:Expr}{f:Str}{pos tpos:Pos}{ta tv:TE}{op:Operator}{rd:V→V→Hp→VK→Prop} (ha:QE X o ta) (hv:QE X value tv) (hop:InOp X op rd):QS X (.AugAssign (.Attribute o f tpos) op value pos) (sFldAug X.K ta tv rd f):=⟨ps_fldaug ha.run hv.run hop⟩
theorem qe_make {CX:CXT}{k:Nat}{f C:Addr}{fd:FuncData}{ps:List Str}{sp:Sp}{dvs:List V}{ds:List Value}{E:XK}{x:Str}{p pos:Pos}{e:Expr}{es:List Expr}{t:TA} (M:Mk X.K C f) (F:FnOk X.prog X.w X.K X.mg X.base CX k f fd ps sp) (hr:Room (k+1) X.A) (hg:Gl X x) (hm:X.mg x=some (.ref C)) (hb:Binds X.K fd ps ds) (hd:Vals dvs ds) (hx:Passes CX X E)
  (ha:QA X (e::es) t) (hdb:(x == ("__debug__":Str))=false:=by decide) (he:starEach (e::es) X.env=(false,eval e X.env)::starEach es X.env:=by rfl) (hpl:(backTo pos (starEach es X.env)).any (·.1)=false:=by rfl) :
  QE X (.Call (.Name x p) (e::es) [] pos) (tMake C sp dvs E t):=⟨pe_make M F hr hg hm hb hd hx ha.run hdb he hpl⟩
theorem qi_revT {tg l:Expr}{tl:TE}{p pos:Pos} (hg:Gl X "reversed") (hm:X.mg "reversed"=none) (hl:QE X l tl) (hs:starEach [l] X.env=[(false,eval l X.env)]:=by rfl):QI X tg (.Call (.Name "reversed" p) [l] [] pos) (SwR.iRevT X.K tl):=⟨SwR.pi_revT hg hm hl.run hs⟩
theorem pe_notT {a:Expr}{ta:TE}{pos:Pos} (ha:PE X a ta):PE X (.UnaryOp .Not a pos) (fun σ H Q=>ta σ H fun x H'=>∃ k,TruV X.K x H' k∧Q (.bl (!k)) H'):=by
 intro pins s σ H Q I h
 refine UnaryOp_ (thn (ha pins s σ H _ I h) fun v s1 ⟨x,H1,I1,r1,q1⟩=>?_)
 refine not_of (thn (tru_ok pins s1 σ H1 x v (fun k H2=>Q (.bl (!k)) H2) I1 r1 q1) fun k s2 ⟨H2,I2,q2⟩=>?_)
 exact⟨.bl (!k),H2,I2,rfl,q2⟩
theorem qe_notT {a:Expr}{ta:TE}{pos:Pos} (ha:QE X a ta):QE X (.UnaryOp .Not a pos) (fun σ H Q=>ta σ H fun x H'=>∃ k,TruV X.K x H' k∧Q (.bl (!k)) H'):=⟨pe_notT ha.run⟩
end
end Sw
namespace Sw
open PySem PySem.Spec PyProof.Rows L2
structure Own (K:PySem.W.Frag) (CFronted CLater CWord CText CGoing CWalk:Addr):Prop where
 rF:Row1 K CFronted
 rL:Row1 K CLater
 cWord:Cls K CWord
 cText:Cls K CText
 cGoing:Cls K CGoing
 cWalk:Cls K CWalk
 fi:NoAttr K CFronted "item"
 fb:NoAttr K CFronted "behind"
 lt:NoAttr K CLater "tree"
 lp:NoAttr K CLater "place"
 wk:NoAttr K CWord "kind"
 wl:NoAttr K CWord "load"
 wy:NoAttr K CWord "yes"
 wn:NoAttr K CWord "no"
 wb:NoAttr K CWord "body"
 ws:NoAttr K CWord "size"
 tt:NoAttr K CText "tree"
 tw:NoAttr K CText "words"
 gt:NoAttr K CGoing "text"
 gp:NoAttr K CGoing "place"
 kg:NoAttr K CWalk "goings"
 ks:NoAttr K CWalk "stack"
 kn:NoAttr K CWalk "numbers"
 kl:NoAttr K CWalk "left"
 iTF:PySem.W.kitOne K (.type "tuple") (.ref CFronted)=some false
 iTL:PySem.W.kitOne K (.type "tuple") (.ref CLater)=some false
 iFF:PySem.W.kitOne K (.ref CFronted) (.ref CFronted)=some true
 iLF:PySem.W.kitOne K (.ref CLater) (.ref CFronted)=some false
 iLL:PySem.W.kitOne K (.ref CLater) (.ref CLater)=some true
theorem putF_nil (f:Str) (v:V):putF f v []=[(f,v)]:=rfl
theorem putF_eq (f:Str) (u v:V) (r:List (Str×V)):putF f v ((f,u)::r)=(f,v)::r:=by rw [putF,if_pos rfl]
theorem putF_ne {f g:Str} (h:¬ g=f) (u v:V) (r:List (Str×V)):putF f v ((g,u)::r)=(g,u)::putF f v r:=by rw [putF,if_neg h]
theorem lk_eq (f:Str) (u:V) (r:List (Str×V)):List.lookup f ((f,u)::r)=some u:=by rw [List.lookup_cons,beq_self_eq_true]
theorem lk_ne {f g:Str} (h:(f == g)=false) (u:V) (r:List (Str×V)):List.lookup f ((g,u)::r)=List.lookup f r:=by rw [List.lookup_cons,h]
def fF (y z:V):List (Str×V):=[("item",y),("behind",z)]
def fL (v:V) (p:Nat):List (Str×V):=[("tree",v),("place",.int (p:Int))]
def fT (v:V) (W:Addr):List (Str×V):=[("tree",v),("words",.ref W)]
def fG (a:Addr) (p:Nat):List (Str×V):=[("text",.ref a),("place",.int (p:Int))]
def fD (k:Nat) (v y n b z:V):List (Str×V):=[("kind",.int (k:Int)),("load",v),("yes",y),("no",n),("body",b),("size",z)]
def fW (G S N:Addr) (b:Nat):List (Str×V):=[("goings",.ref G),("stack",.ref S),("numbers",.ref N),("left",.int (b:Int))]
theorem putTwo {f g:Str} (h:¬ f=g) (u v:V):putF g v (putF f u [])=[(f,u),(g,v)]:=by rw [putF_nil,putF_ne h,putF_nil]
inductive Role where
 | mine
 | text (t:T) (W:Addr)
 | words (t:T)
 | word (w:T)
 | row (t:T)
abbrev Mp:=Addr→Option Role
def setM (M:Mp) (p:Addr) (r:Role):Mp:=fun a=>if a=p then some r else M a
theorem setM_same {M:Mp}{p:Addr}{r:Role}:setM M p r p=some r:=by unfold setM; rw [if_pos rfl]
theorem setM_ne {M:Mp}{a p:Addr}{r:Role} (h:a≠p):setM M p r a=M a:=by unfold setM; rw [if_neg h]
section
variable (K:PySem.W.Frag) (CF CL CD CT CG CW:Addr)
def RV (M:Mp) (H:Hp) (t:T) (x:V):Prop:=TR K H t x∨∃ a,x=.ref a∧M a=some (.row t)
def IsTx (M:Mp) (a:Addr) (t:T):Prop:=∃ W,M a=some (.text t W)
def Ok1 (M:Mp) (H:Hp) (a:Addr):Role→Prop
 | .mine=>True
 | .text t W=>∃ dx v,H a=some (.ins CT dx (fT v W))∧TR K H t v∧M W=some (.words t)
 | .words t=>∃ xs,H a=some (.lst xs)∧xs.length≤t.kids.length∧∀ (j:Nat) x,xs[j]?=some x→∃ b w,x=.ref b∧t.kids[j]?=some w∧M b=some (.word w)
 | .word w=>∃ dx v y n bd sz,H a=some (.ins CD dx (fD (sortT w) v y n bd sz))∧TR K H (loadT w) v∧(sortT w=7→∃ ay an,y=.ref ay∧n=.ref an∧IsTx M ay (ats (loadT w).kids 0)∧IsTx M an (loadT (loadT w))) ∧
   (sortT w=8→∃ ab,bd=.ref ab∧IsTx M ab (loadT w))∧(sz=.non∨sz=.int ((loadT w).parts:Nat))
 | .row t=>(∃ dx y z u ts,H a=some (.ins CF dx (fF y z))∧t=.node (u::ts)∧RV K M H u y∧RV K M H (.node ts) z)∨∃ dx v ts p,H a=some (.ins CL dx (fL v p))∧TR K H (.node ts) v∧p<ts.length∧ts.length≤8000000∧t=.node (ts.drop p)
structure Gh (M:Mp) (H₀ H:Hp):Prop where
 same:Same H₀ H
 new:∀ a r,M a=some r→H₀ a=none
 has:∀ a r,M a=some r→∃ o,H a=some o
 ok:∀ a r,M a=some r→Ok1 K CF CL CD CT M H a r
structure Go (X:Addr→Prop) (M M':Mp) (H₀ H H':Hp):Prop where
 ext:∀ a r,M a=some r→M' a=some r
 mine:∀ a,M a=some .mine→¬ X a→H' a=H a
 kt:Kt H H'
 gh:Gh K CF CL CD CT M' H₀ H'
 wds:∀ W t ws,M W=some (.words t)→H W=some (.lst ws)→∃ ws',H' W=some (.lst ws')∧ws.length≤ws'.length
end
section
variable {K:PySem.W.Frag}{CF CL CD CT CG CW:Addr}{M M' M'':Mp}{H₀ H H' H'':Hp}{X Y:Addr→Prop}
theorem RV.mono {t:T}{x:V} (k:Kt H H') (e:∀ a t,M a=some (.row t)→M' a=some (.row t)) (h:RV K M H t x):RV K M' H' t x:=by
 rcases h with h | ⟨a,rfl,h⟩
 ·exact .inl (h.mono k)
 ·exact .inr ⟨a,rfl,e _ _ h⟩
theorem Ok1.mono {a:Addr}{r:Role} (h:Ok1 K CF CL CD CT M H a r) (ha:H' a=H a) (k:Kt H H') (e:∀ a r,r≠.mine→M a=some r→M' a=some r):Ok1 K CF CL CD CT M' H' a r:=by
 cases r with
 | mine=>trivial
 | text t W =>
  obtain⟨dx,v,h1,h2,h3⟩:=h
  exact⟨dx,v,ha.trans h1,h2.mono k,e _ _ (by simp) h3⟩
 | words t =>
  obtain⟨xs,h1,h2,h3⟩:=h
  refine⟨xs,ha.trans h1,h2,fun j x hx=>?_⟩
  obtain⟨b,w,e1,e2,e3⟩:=h3 j x hx
  exact⟨b,w,e1,e2,e _ _ (by simp) e3⟩
 | word w =>
  obtain⟨dx,v,y,n,bd,sz,h1,h2,h3,h4,h5⟩:=h
  refine⟨dx,v,y,n,bd,sz,ha.trans h1,h2.mono k,fun s7=>?_,fun s8=>?_,h5⟩
  ·obtain⟨ay,an,e1,e2,⟨W1,e3⟩,W2,e4⟩:=h3 s7
   exact⟨ay,an,e1,e2,⟨W1,e _ _ (by simp) e3⟩,W2,e _ _ (by simp) e4⟩
  ·obtain⟨ab,e1,W,e2⟩:=h4 s8
   exact⟨ab,e1,W,e _ _ (by simp) e2⟩
 | row t =>
  have er:∀ a t,M a=some (.row t)→M' a=some (.row t):=fun a t=>e a _ (by simp)
  rcases h with⟨dx,y,z,u,ts,h1,h2,h3,h4⟩ | ⟨dx,v,ts,p,h1,h2,h3,h4,h5⟩
  ·exact .inl ⟨dx,y,z,u,ts,ha.trans h1,h2,h3.mono k er,h4.mono k er⟩
  ·exact .inr ⟨dx,v,ts,p,ha.trans h1,h2.mono k,h3,h4,h5⟩
theorem Gh.nil (H:Hp):Gh K CF CL CD CT (fun _=>none) H H:=⟨Same.refl _,fun _ _ z=>(by cases z),fun _ _ z=>(by cases z),fun _ _ z=>(by cases z)⟩
theorem Gh.grow (g:Gh K CF CL CD CT M H₀ H) (S:Same H H'):Gh K CF CL CD CT M H₀ H' :=
 ⟨g.same.trans S,g.new,fun a r h=>by obtain⟨o,e⟩:=g.has a r h; exact⟨o,S _ _ e⟩,fun a r h=>by
  obtain⟨o,e⟩:=g.has a r h
  exact (g.ok a r h).mono ((S _ _ e).trans e.symm) (.of S) fun _ _ _ z=>z⟩
theorem Gh.mut {p:Addr}{o:HO} (g:Gh K CF CL CD CT M H₀ H) (hp:M p=some .mine) (k:Kt H (upd H p o)):Gh K CF CL CD CT M H₀ (upd H p o):=by
 refine⟨same_upd g.same (g.new _ _ hp),g.new,fun a r h=>?_,fun a r h=>?_⟩
 ·by_cases z:a=p
  ·exact⟨o,by rw [z,upd_same]⟩
  ·obtain⟨u,e⟩:=g.has a r h
   exact⟨u,by rw [upd_ne z]; exact e⟩
 ·by_cases z:a=p
  ·rw [z,hp] at h
   cases h
   trivial
  ·exact (g.ok a r h).mono (upd_ne z) k fun _ _ _ z=>z
theorem Gh.put {p:Addr}{o:HO}{r:Role} (g:Gh K CF CL CD CT M H₀ H) (hp:M p=some r) (k:Kt H (upd H p o)) (h:Ok1 K CF CL CD CT M (upd H p o) p r):Gh K CF CL CD CT M H₀ (upd H p o):=by
 refine⟨same_upd g.same (g.new _ _ hp),g.new,fun a r h=>?_,fun a r' h'=>?_⟩
 ·by_cases z:a=p
  ·exact⟨o,by rw [z,upd_same]⟩
  ·obtain⟨u,e⟩:=g.has a r h
   exact⟨u,by rw [upd_ne z]; exact e⟩
 ·by_cases z:a=p
  ·rw [z,hp] at h'
   cases h'
   rw [z]
   exact h
  ·exact (g.ok a r' h').mono (upd_ne z) k fun _ _ _ z=>z
theorem Gh.role {p:Addr}{r:Role} (g:Gh K CF CL CD CT M H₀ H) (hp:M p=none∨M p=some .mine) (hn:H₀ p=none) (hh:∃ o,H p=some o) (h:Ok1 K CF CL CD CT (setM M p r) H p r):Gh K CF CL CD CT (setM M p r) H₀ H:=by
 refine⟨g.same,fun a r' h'=>?_,fun a r' h'=>?_,fun a r' h'=>?_⟩
 ·by_cases z:a=p
  ·rw [z]; exact hn
  ·rw [setM_ne z] at h'; exact g.new a r' h'
 ·by_cases z:a=p
  ·rw [z]; exact hh
  ·rw [setM_ne z] at h'; exact g.has a r' h'
 ·by_cases z:a=p
  ·rw [z,setM_same] at h'
   cases h'
   rw [z]
   exact h
  ·rw [setM_ne z] at h'
   refine (g.ok a r' h').mono rfl (Kt.refl _) fun b r2 hr hb=>?_
   by_cases y:b=p
   ·rw [y] at hb
    rcases hp with hp | hp
    ·rw [hp] at hb; cases hb
    ·rw [hp] at hb; cases hb; exact absurd rfl hr
   ·rw [setM_ne y]; exact hb
theorem Go.refl (g:Gh K CF CL CD CT M H₀ H):Go K CF CL CD CT X M M H₀ H H:=⟨fun _ _ z=>z,fun _ _ _=>rfl,Kt.refl _,g,fun _ _ ws _ h=>⟨ws,h,Nat.le_refl _⟩⟩
theorem Go.trans (a:Go K CF CL CD CT X M M' H₀ H H') (b:Go K CF CL CD CT X M' M'' H₀ H' H''):Go K CF CL CD CT X M M'' H₀ H H'' :=
 ⟨fun p r h=>b.ext _ _ (a.ext _ _ h),fun p h x=>(b.mine p (a.ext _ _ h) x).trans (a.mine p h x),a.kt.trans b.kt,b.gh,fun W t ws h1 h2=>by
  obtain⟨w1,e1,l1⟩:=a.wds W t ws h1 h2
  obtain⟨w2,e2,l2⟩:=b.wds W t w1 (a.ext _ _ h1) e1
  exact⟨w2,e2,by lia⟩⟩
theorem Go.weak (a:Go K CF CL CD CT X M M' H₀ H H') (h:∀ p,X p→Y p):Go K CF CL CD CT Y M M' H₀ H H':=⟨a.ext,fun p m y=>a.mine p m fun z=>y (h p z),a.kt,a.gh,a.wds⟩
theorem Go.grow (g:Gh K CF CL CD CT M H₀ H) (S:Same H H'):Go K CF CL CD CT X M M H₀ H H' :=
 ⟨fun _ _ z=>z,fun a h _=>by obtain⟨o,e⟩:=g.has a _ h; exact (S _ _ e).trans e.symm,.of S,g.grow S,fun _ _ ws _ h=>⟨ws,S _ _ h,Nat.le_refl _⟩⟩
theorem Go.rv {t:T}{x:V} (a:Go K CF CL CD CT X M M' H₀ H H') (h:RV K M H t x):RV K M' H' t x:=h.mono a.kt fun p t e=>a.ext p _ e
abbrev mkO (H:Hp) (x dx C:Addr) (fs:List (Str×V)):Hp:=upd (upd H dx (.own x)) x (.ins C dx fs)
theorem updU {H:Hp}{p:Addr}{a b:HO}:upd (upd H p a) p b=upd H p b:=by
 funext q
 by_cases h:q=p
 ·rw [h,upd_same,upd_same]
 ·rw [upd_ne h,upd_ne h,upd_ne h]
theorem updC {H:Hp}{p q:Addr}{a b:HO} (h:p≠q):upd (upd H p a) q b=upd (upd H q b) p a:=by
 funext r
 by_cases h1:r=p
 ·rw [h1,upd_ne h,upd_same,upd_same]
 ·by_cases h2:r=q
  ·rw [h2,upd_same,upd_ne (Ne.symm h),upd_same]
  ·rw [upd_ne h2,upd_ne h1,upd_ne h1,upd_ne h2]
variable {x dx C p:Addr}{fs fs':List (Str×V)}{o:HO}
theorem mk_at:mkO H x dx C fs x=some (.ins C dx fs):=upd_same
theorem mk_put:upd (mkO H x dx C fs) x (.ins C dx fs')=mkO H x dx C fs':=updU
theorem mk_same (hx:H x=none) (hd:H dx=none) (ne:dx≠x):Same H (mkO H x dx C fs):=by
 refine (same_new hd _).trans (same_new ?_ _)
 rw [upd_ne (Ne.symm ne)]
 exact hx
theorem Go.made (g:Gh K CF CL CD CT M H₀ H) (hx:H x=none) (hd:H dx=none) (ne:dx≠x):Go K CF CL CD CT X M (setM M x .mine) H₀ H (mkO H x dx C fs):=by
 have S:=mk_same (C:=C) (fs:=fs) hx hd ne
 have nM:M x=none:=by
  cases h:M x with
  | none=>rfl
  | some r=>obtain⟨o,e⟩:=g.has x r h; rw [hx] at e; cases e
 have g1:=(g.grow S).role (p:=x) (r:=.mine) (.inl nM) (g.same.free hx) ⟨_,mk_at⟩ trivial
 refine⟨fun a r h=>?_,fun a h _=>?_,.of S,g1,fun _ _ ws _ h=>⟨ws,S _ _ h,Nat.le_refl _⟩⟩
 ·rw [setM_ne (fun z=>by rw [z,nM] at h; cases h)]; exact h
 ·obtain⟨o,e⟩:=g.has a _ h; exact (S _ _ e).trans e.symm
theorem Go.mineNew (g:Gh K CF CL CD CT M H₀ H) (hx:H p=none):Go K CF CL CD CT X M (setM M p .mine) H₀ H (upd H p o):=by
 have S:=same_new hx o
 have nM:M p=none:=by
  cases h:M p with
  | none=>rfl
  | some r=>obtain⟨o,e⟩:=g.has p r h; rw [hx] at e; cases e
 have g1:=(g.grow S).role (p:=p) (r:=.mine) (.inl nM) (g.same.free hx) ⟨_,upd_same⟩ trivial
 refine⟨fun a r h=>?_,fun a h _=>?_,.of S,g1,fun _ _ ws _ h=>⟨ws,S _ _ h,Nat.le_refl _⟩⟩
 ·rw [setM_ne (fun z=>by rw [z,nM] at h; cases h)]; exact h
 ·obtain⟨o,e⟩:=g.has a _ h; exact (S _ _ e).trans e.symm
theorem Go.role {r:Role} (g:Gh K CF CL CD CT M H₀ H) (S:Same H H') (hx:H p=none) (hh:∃ o,H' p=some o) (h:Ok1 K CF CL CD CT (setM M p r) H' p r):Go K CF CL CD CT X M (setM M p r) H₀ H H':=by
 have nM:M p=none:=by
  cases h:M p with
  | none=>rfl
  | some r=>obtain⟨o,e⟩:=g.has p r h; rw [hx] at e; cases e
 have g1:=(g.grow S).role (p:=p) (r:=r) (.inl nM) (g.same.free hx) hh h
 refine⟨fun a r h=>?_,fun a h _=>?_,.of S,g1,fun _ _ ws _ h=>⟨ws,S _ _ h,Nat.le_refl _⟩⟩
 ·rw [setM_ne (fun z=>by rw [z,nM] at h; cases h)]; exact h
 ·obtain⟨o,e⟩:=g.has a _ h; exact (S _ _ e).trans e.symm
theorem Gh.fresh (g:Gh K CF CL CD CT M H₀ H) (hx:H p=none):M p=none:=by
 cases h:M p with
 | none=>rfl
 | some r=>obtain⟨o,e⟩:=g.has p r h; rw [hx] at e; cases e
end
end Sw
namespace Sw
open PySem PySem.Spec PyProof.Rows L2
section
variable (K:PySem.W.Frag) (CF CL CD CT CG CW:Addr)
def UV (H:Hp) (t:T) (x:V):Prop:=TR K H t x∨∃ a dx v ts p,x=.ref a∧H a=some (.ins CL dx (fL v p))∧TR K H (.node ts) v∧p<ts.length∧ts.length≤8000000∧t=.node (ts.drop p)
def FV (M:Mp) (H:Hp) (t:T) (x:V):Prop:=∃ a dx y z u ts,x=.ref a∧H a=some (.ins CF dx (fF y z))∧t=.node (u::ts)∧RV K M H u y∧RV K M H (.node ts) z
def spFrInit:Sp:=fun vs H Q _=>∃ o dx y z,vs=[.ref o,y,z]∧H o=some (.ins CF dx [])∧Q .non (upd H o (.ins CF dx (fF y z)))
def spLaInit:Sp:=fun vs H Q _=>∃ (o dx:Addr) (v:V) (p:Nat),vs=[.ref o,v,.int (p:Int)]∧H o=some (.ins CL dx [])∧Q .non (upd H o (.ins CL dx (fL v p)))
def spGoInit:Sp:=fun vs H Q _=>∃ o dx a,vs=[.ref o,.ref a]∧H o=some (.ins CG dx [])∧Q .non (upd H o (.ins CG dx (fG a 0)))
def spTxInit:Sp:=fun vs H Q _=>∃ o dx v,vs=[.ref o,v]∧H o=some (.ins CT dx [])∧∀ W,H W=none→Q .non (upd (upd H W (.lst [])) o (.ins CT dx (fT v W)))
def spFirstOf:Sp:=fun vs H Q _=>∃ x t M H₀,vs=[x]∧Gh K CF CL CD CT M H₀ H∧RV K M H t x∧t.deep≤400∧∀ y H',Same H H'→RV K M H' (ats t.kids 0) y→Q y H'
def spLater:Sp:=fun vs H Q _=>∃ (x:V) (ts:List T) (p:Nat) (M:Mp) (H₀:Hp),vs=[x,.int (p:Int)]∧Gh K CF CL CD CT M H₀ H∧TR K H (.node ts) x∧ts.length≤8000000∧∀ y M' H',Same H H'→Go K CF CL CD CT (fun _=>False) M M' H₀ H H'→RV K M' H' (.node (ts.drop p)) y→Q y H'
def spRestOf:Sp:=fun vs H Q _=>∃ x t M H₀,vs=[x]∧Gh K CF CL CD CT M H₀ H∧RV K M H t x∧t.deep≤400∧t.kids.length≤8000000∧∀ y M' H',Same H H'→Go K CF CL CD CT (fun _=>False) M M' H₀ H H'→RV K M' H' (loadT t) y→Q y H'
def spUnfr:Sp:=fun vs H Q _=>∃ x t,vs=[x]∧UV K CL H t x∧∀ y H',Same H H'→TR K H' t y→Q y H'
def spPartsW:Sp:=fun vs H Q _=>∃ (x:V) (t:T) (M:Mp) (H₀:Hp) (m:Nat),vs=[x,.int (m:Int)]∧Gh K CF CL CD CT M H₀ H∧RV K M H t x∧t.parts≤8000000∧∀ (c:Nat) H',Same H H'→(t.parts≤m→c=t.parts)→(m<t.parts→m<c)→Q (.int (c:Int)) H'
def spAsTree:Sp:=fun vs H Q _=>∃ x t M H₀,vs=[x]∧Gh K CF CL CD CT M H₀ H∧RV K M H t x∧t.parts≤8000000∧∀ y H',Same H H'→TR K H' t y→Q y H'
end
section
variable {K:PySem.W.Frag}{CF CL CD CT CG CW:Addr}{M M':Mp}{H₀ H H':Hp}
theorem TR_kids' {t:T}{x:V} (h:TR K H t x):∃ b ys,x=.ref b∧SqT K H b ys∧TRs K H t.kids ys:=by
 cases t with
 | node ts=>exact TR_node.mp h
theorem RV.cases {t:T}{x:V} (g:Gh K CF CL CD CT M H₀ H) (h:RV K M H t x):UV K CL H t x∨FV K CF M H t x:=by
 rcases h with h | ⟨a,rfl,h⟩
 ·exact .inl (.inl h)
 ·rcases g.ok a _ h with⟨dx,y,z,u,ts,h1,h2,h3,h4⟩ | ⟨dx,v,ts,p,h1,h2,h3,h4,h5⟩
  ·exact .inr ⟨a,dx,y,z,u,ts,rfl,h1,h2,h3,h4⟩
  ·exact .inl (.inr ⟨a,dx,v,ts,p,rfl,h1,h2,h3,h4,h5⟩)
def WPW (K:PySem.W.Frag) (M:Mp) (H:Hp) (x:V) (m n:Nat) (p:Addr):Nat→Sg→Hp→Prop:=fun μ σ H'=>∃ (ys:List V) (ts:List T) (c:Nat) (o:Option V),
 σ=[some x,some (.int (m:Int)),some (.ref p),some (.int (c:Int)),o]∧Same H H'∧H' p=some (.lst ys)∧All2 (RV K M H') ts.reverse ys∧c+T.partsL ts=n∧μ=2 * T.partsL ts - ts.length
theorem all_row {ts:List T}{ys:List V} (k:Kt H H') (h:All2 (RV K M H) ts ys):All2 (RV K M H') ts ys:=h.imp fun _ _ z=>z.mono k fun _ _ y=>y
theorem trs_all:∀ {ts:List T}{ys:List V},TRs K H ts ys→All2 (RV K M H) ts ys
 | [],_,h=>by rw [TRs_nil.mp h]; exact .nil
 | t::ts,_,h=>by
  obtain⟨x,r,rfl,h1,h2⟩:=TRs_cons.mp h
  exact .cons (.inl h1) (trs_all h2)
theorem all_nil {α β:Type}{R:α→β→Prop}{ts:List α} (h:All2 R ts.reverse []):ts=[]:=by
 have:=h.length
 rw [List.length_reverse] at this
 exact List.length_eq_zero_iff.mp (by simpa using this.symm)
theorem all_last {α β:Type}{R:α→β→Prop}{ts:List α}{ys:List β} (h:All2 R ts.reverse ys) (hne:ys≠[]):∃ u ts0 ys0 y,ts=u::ts0∧ys=ys0++[y]∧All2 R ts0.reverse ys0∧R u y:=by
 cases ts with
 | nil=>exact absurd (by cases h; rfl) hne
 | cons u ts0 =>
  rw [List.reverse_cons] at h
  obtain⟨ys0,y,rfl,h1,h2⟩:=All2.snoc h
  exact⟨u,ts0,ys0,y,rfl,rfl,h1,h2⟩
theorem last_snoc {α:Type} (xs:List α) (y:α):(xs++[y])[(xs++[y]).length - 1]?=some y:=by simp
theorem drop_snoc {α:Type} (xs:List α) (y:α):(xs++[y]).dropLast=xs:=by simp
theorem all_lastD {α β:Type}{R:α→β→Prop}{ts:List α}{ys:List β} (h:All2 R ts.reverse ys) (hne:ys≠[]):∃ u ts0 y,ts=u::ts0∧ys[ys.length - 1]?=some y∧All2 R ts0.reverse ys.dropLast∧R u y:=by
 obtain⟨u,ts0,ys0,y,rfl,rfl,h1,h2⟩:=all_last h hne
 exact⟨u,ts0,y,rfl,last_snoc _ _,by rw [drop_snoc]; exact h1,h2⟩
theorem partsL_rev:∀ ts:List T,T.partsL ts.reverse=T.partsL ts
 | []=>rfl
 | t::ts=>by rw [List.reverse_cons,T.partsL_append,partsL_rev ts,T.partsL_cons,T.partsL_cons,T.partsL_nil]; lia
structure Ki (H H':Hp):Prop where
 kt:Kt H H'
 ins:∀ a C dx fs,H a=some (.ins C dx fs)→H' a=some (.ins C dx fs)
theorem Ki.of (S:Same H H'):Ki H H':=⟨.of S,fun a _ _ _ h=>S _ _ h⟩
theorem Ki.lst {p:Addr}{ys:List V}{o:HO} (h:H p=some (.lst ys)):Ki H (upd H p o):=⟨Kt.lst h,fun a _ _ _ e=>by rw [upd_ne (fun z=>by rw [z,h] at e; cases e)]; exact e⟩
theorem UV.mono {t:T}{x:V} (k:Ki H H') (h:UV K CL H t x):UV K CL H' t x:=by
 rcases h with h | ⟨a,dx,v,ts,p,h1,h2,h3,h4,h5,h6⟩
 ·exact .inl (h.mono k.kt)
 ·exact .inr ⟨a,dx,v,ts,p,h1,k.ins _ _ _ _ h2,h3.mono k.kt,h4,h5,h6⟩
theorem UV.notF {t:T}{x:V} (O:Own K CF CL CD CT CG CW) (h:UV K CL H t x):(∃ ty,TyOf K H x ty∧PySem.W.kitOne K ty (.ref CF)=some false)∨(∃ a ys,x=.ref a∧SqT K H a ys∧PySem.W.kitOne K (.type "tuple") (.ref CF)=some false):=by
 rcases h with h | ⟨a,dx,v,ts,p,rfl,h2,_⟩
 ·obtain⟨b,ys,rfl,hb,_⟩:=TR_kids' h
  exact .inr ⟨b,ys,rfl,hb,O.iTF⟩
 ·exact .inl ⟨_,O.rL.ty h2,O.iLF⟩
theorem smallM' {n:Nat} (h:n<16000000):n<sizeLine:=Nat.lt_of_lt_of_le h (by decide)
end
end Sw
namespace Sw
open PySem PySem.Spec PyProof.Rows L2
def valT:List (List T)→List T→T
 | [l],r::_=>.node (l++r.kids)
 | l::l'::ls,r::rs=>valT ((l'++[.node (l++r.kids)])::ls) rs
 | _,_=>leaf
theorem val_open (l:List T) (ls:List (List T)) (u:T) (ts:List T) (rs:List T):valT ([]::l::ls) (u::.node ts::rs)=valT (l::ls) (.node (u::ts)::rs):=by
 rw [valT]
 have e:T.node ([]++u.kids)=u:=by cases u; rfl
 rw [e]
 cases ls with
 | nil =>
  show T.node ((l++[u])++ts)=T.node (l++(u::ts))
  rw [List.append_assoc]; rfl
 | cons l' ls =>
  rw [valT,valT]
  have:(l++[u])++(T.node ts).kids=l++(T.node (u::ts)).kids:=by
   show (l++[u])++ts=l++(u::ts)
   rw [List.append_assoc]; rfl
  rw [this]
structure AsT (K:PySem.W.Frag) (H₀ H:Hp) (R P:Addr) (ys:List V) (st:List (List T)) (zs:List V):Prop where
 rows:RowsR K H₀ H R st ys
 pn:H₀ P=none
 at_:H P=some (.lst zs)
 np:(.ref P:V) ∉ (.ref R:V)::ys
section
variable {K:PySem.W.Frag}{H₀ H H':Hp}{R P:Addr}{ys zs zs':List V}{st:List (List T)}
theorem AsT.grow (h:AsT K H₀ H R P ys st zs) (S:Same H H'):AsT K H₀ H' R P ys st zs:=⟨rows_same h.rows S,h.pn,S _ _ h.at_,h.np⟩
theorem AsT.PR (h:AsT K H₀ H R P ys st zs):P≠R:=fun z=>h.np (by rw [z]; exact List.mem_cons_self)
theorem AsT.place (h:AsT K H₀ H R P ys st zs):AsT K H₀ (upd H P (.lst zs')) R P ys st zs':=⟨rows_else h.rows (Kt.lst h.at_) h.pn h.np,h.pn,upd_same,h.np⟩
theorem AsT.enter (h:AsT K H₀ H R P ys st zs) {q:Addr} (hq:H q=none):AsT K H₀ (upd (upd H q (.lst [])) R (.lst (ys++[.ref q]))) R P (ys++[.ref q]) ([]::st) zs:=by
 have nPq:P≠q:=ne_of_none h.at_ hq
 refine⟨rows_open h.rows hq,h.pn,?_,fun z=>?_⟩
 ·rw [upd_ne h.PR,upd_ne nPq]; exact h.at_
 ·rcases List.mem_cons.mp z with z | z
  ·exact h.PR (V.ref.inj z)
  ·rcases List.mem_append.mp z with z | z
   ·exact h.np (List.mem_cons_of_mem _ z)
   ·exact nPq (V.ref.inj (List.mem_singleton.mp z))
theorem AsT.add {r:List T}{rs:List (List T)}{t:T}{x:V} (h:AsT K H₀ H R P ys (r::rs) zs) (ht:TR K H t x) :
  ∃ (ys0:List V) (a:Addr) (xs:List V),ys=ys0++[.ref a]∧H a=some (.lst xs)∧xs.length=r.length∧AsT K H₀ (upd H a (.lst (xs++[x]))) R P ys ((r++[t])::rs) zs:=by
 have hr:=h.rows.rows
 rw [List.reverse_cons] at hr
 obtain⟨ys0,y,rfl,h1,a,xs,rfl,ha0,ha,hta⟩:=All2.snoc hr
 have nd:=h.rows.nd
 have ndp:=(List.nodup_cons.mp nd).1
 have ndy:=(List.nodup_cons.mp nd).2
 have na:(.ref a:V) ∉ ys0:=fun z=>(List.nodup_append.mp ndy).2.2 _ z _ (by simp) rfl
 have nRa:R≠a:=fun z=>ndp (by rw [z]; simp)
 have nPa:P≠a:=fun z=>h.np (by rw [z]; simp)
 have k:=Kt.lst (o:=.lst (xs++[x])) ha
 refine⟨ys0,a,xs,rfl,ha,hta.length,⟨h.rows.new,same_upd h.rows.same ha0,by rw [upd_ne nRa]; exact h.rows.at_,?_,nd⟩,h.pn,by rw [upd_ne nPa]; exact h.at_,h.np⟩
 rw [List.reverse_cons]
 exact All2.append (rows_upd k h1 na) (All2.one ⟨a,_,rfl,ha0,upd_same,TRs.append (hta.mono k) (trs1 (ht.mono k))⟩)
theorem AsT.shut {r:List T}{rs:List (List T)} (h:AsT K H₀ H R P ys (r::rs) zs) :
  ∃ (ys0:List V) (a:Addr) (xs:List V),ys=ys0++[.ref a]∧R≠a∧H a=some (.lst xs)∧TRs K H r xs∧AsT K H₀ (upd H R (.lst ys0)) R P ys0 rs zs:=by
 have hr:=h.rows.rows
 rw [List.reverse_cons] at hr
 obtain⟨ys0,y,rfl,h1,a,xs,rfl,ha0,ha,hta⟩:=All2.snoc hr
 have nd:=h.rows.nd
 have ndp:=(List.nodup_cons.mp nd).1
 have ndy:=(List.nodup_cons.mp nd).2
 have nRa:R≠a:=fun z=>ndp (by rw [z]; simp)
 have k:=Kt.lst (o:=.lst ys0) h.rows.at_
 refine⟨ys0,a,xs,rfl,nRa,ha,hta,⟨h.rows.new,same_upd h.rows.same h.rows.new,upd_same,rows_upd k h1 fun z=>ndp (by simp [z]),List.nodup_cons.mpr ⟨fun z=>ndp (by simp [z]),(List.nodup_append.mp ndy).1⟩⟩,h.pn,by rw [upd_ne h.PR]; exact h.at_,fun z=>h.np ?_⟩
 rcases List.mem_cons.mp z with z | z
 ·rw [z]; exact List.mem_cons_self
 ·exact List.mem_cons_of_mem _ (List.mem_append_left _ z)
theorem ix_last {α:Type} (xs:List α) (y:α):ixN (xs++[y]).length (-1)=some xs.length:=by
 unfold ixN
 have hl:(xs++[y]).length=xs.length+1:=by simp
 rw [if_neg (by decide),if_pos (by rw [hl]; lia),hl,show ((-1:Int)+((xs.length+1:Nat):Int)).toNat=xs.length by lia]
theorem set_last {α:Type} (xs:List α) (y z:α):(xs++[y]).set xs.length z=xs++[z]:=by simp
end
end Sw
namespace Sw
open PySem PySem.Spec PyProof.Rows L2
def placeT (k:Nat) (t:T):Nat:=if k=7 then (if t.kids=[] then 8 else 7) else if k=8 then (if t.kids=[] then 10 else 9) else if k=9 then 11 else k
section
variable (K:PySem.W.Frag) (CF CL CD CT CG CW:Addr)
def spPlace:Sp:=fun vs H Q _=>∃ (k:Nat) (x:V) (t:T) (M:Mp) (H₀:Hp),vs=[.int (k:Int),x]∧Gh K CF CL CD CT M H₀ H∧RV K M H t x∧t.deep≤400∧∀ H',Same H H'→Q (.int (placeT k t:Nat)) H'
def W7 (M:Mp) (w:T) (y n:V):Prop:=sortT w=7→∃ ay an,y=.ref ay∧n=.ref an∧IsTx M ay (ats (loadT w).kids 0)∧IsTx M an (loadT (loadT w))
def W8 (M:Mp) (w:T) (b:V):Prop:=sortT w=8→∃ ab,b=.ref ab∧IsTx M ab (loadT w)
def spWdInit:Sp:=fun vs H Q _=>∃ (o dx:Addr) (x:V) (w:T) (M:Mp) (H₀:Hp),vs=[.ref o,x]∧Gh K CF CL CD CT M H₀ H∧M o=some .mine∧H o=some (.ins CD dx [])∧TR K H w x∧w.deep≤400 ∧
 ∀ M' H' v y n b,Go K CF CL CD CT (fun a=>a=o) M M' H₀ H H'→(∀ c u,H c=some u→c≠o→H' c=some u)→H' o=some (.ins CD dx (fD (sortT w) v y n b .non))→TR K H' (loadT w) v→W7 M' w y n→W8 M' w b→Q .non H'
def spBodyP:Sp:=fun vs H Q _=>∃ (b:Addr) (w:T) (M:Mp) (H₀:Hp),vs=[.ref b]∧Gh K CF CL CD CT M H₀ H∧M b=some (.word w)∧(loadT w).parts≤8000000∧∀ H',Go K CF CL CD CT (fun _=>False) M M H₀ H H'→Q (.int ((loadT w).parts:Nat)) H'
def spWordAt:Sp:=fun vs H Q _=>∃ (a:Addr) (t:T) (W:Addr) (p:Nat) (M:Mp) (H₀:Hp) (ws:List V),vs=[.ref a,.int (p:Int)]∧Gh K CF CL CD CT M H₀ H∧M a=some (.text t W)∧H W=some (.lst ws)∧p≤ws.length∧p≤t.kids.length∧t.deep≤400∧t.kids.length≤8000000 ∧
 (p=t.kids.length→Q .non H)∧∀ w,t.kids[p]?=some w→∀ b M' H',Go K CF CL CD CT (fun _=>False) M M' H₀ H H'→M' b=some (.word w)→(∀ ws',H' W=some (.lst ws')→p+1≤ws'.length)→Q (.ref b) H'
end
section
variable {K:PySem.W.Frag}{CF CL CD CT CG CW:Addr}{M M' M'':Mp}{H₀ H H' H1:Hp}{X:Addr→Prop}
theorem Go.mutX {p:Addr}{u:HO} (a:Go K CF CL CD CT X M M' H₀ H H1) (hm:M' p=some .mine) (hX:X p) (k:Kt H1 (upd H1 p u)):Go K CF CL CD CT X M M' H₀ H (upd H1 p u) :=
 ⟨a.ext,fun q h x=>by rw [upd_ne (fun z:q=p=>x (by rw [z]; exact hX))]; exact a.mine q h x,a.kt.trans k,a.gh.mut hm k,fun W t ws h1 h2=>by
  obtain⟨ws',e,l⟩:=a.wds W t ws h1 h2
  have nW:W≠p:=fun z=>by have:=a.ext _ _ h1; rw [z,hm] at this; cases this
  exact⟨ws',by rw [upd_ne nW]; exact e,l⟩⟩
theorem Go.newText {a da W:Addr}{t:T}{v:V} (g:Gh K CF CL CD CT M H₀ H) (tv:TR K H t v) (ha:H a=none) (hd:H da=none) (ne:da≠a) (hW:mkO H a da CT [] W=none) :
  Go K CF CL CD CT X M (setM (setM M W (.words t)) a (.text t W)) H₀ H (upd (upd (mkO H a da CT []) W (.lst [])) a (.ins CT da (fT v W)))∧Same H (upd (upd (mkO H a da CT []) W (.lst [])) a (.ins CT da (fT v W)))∧IsTx (setM (setM M W (.words t)) a (.text t W)) a t:=by
 have S1:=mk_same (C:=CT) (fs:=[]) ha hd ne
 have hW0:H W=none:=S1.free hW
 have naW:a≠W:=fun z=>by rw [← z,mk_at] at hW; cases hW
 have S2:=S1.trans (same_new hW (.lst []))
 have S3:Same H (upd (upd (mkO H a da CT []) W (.lst [])) a (.ins CT da (fT v W))):=same_upd S2 ha
 have hWl:upd (upd (mkO H a da CT []) W (.lst [])) a (.ins CT da (fT v W)) W=some (.lst []):=by rw [upd_ne (Ne.symm naW),upd_same]
 have nMa:=g.fresh ha
 have nMW:=g.fresh hW0
 have g1:Gh K CF CL CD CT (setM M W (.words t)) H₀ (upd (upd (mkO H a da CT []) W (.lst [])) a (.ins CT da (fT v W))) :=
  (g.grow S3).role (p:=W) (.inl nMW) (g.same.free hW0) ⟨_,hWl⟩ ⟨[],hWl,Nat.zero_le _,fun j x h=>by simp at h⟩
 have g2:Gh K CF CL CD CT (setM (setM M W (.words t)) a (.text t W)) H₀ (upd (upd (mkO H a da CT []) W (.lst [])) a (.ins CT da (fT v W))) :=
  g1.role (p:=a) (.inl (by rw [setM_ne naW]; exact nMa)) (g.same.free ha) ⟨_,upd_same⟩ ⟨da,v,upd_same,tv.mono (.of S3),by rw [setM_ne (Ne.symm naW),setM_same]⟩
 refine⟨⟨fun p r h=>?_,fun p h _=>?_,.of S3,g2,fun _ _ ws _ h=>⟨ws,S3 _ _ h,Nat.le_refl _⟩⟩,S3,W,setM_same⟩
 ·rw [setM_ne (fun z=>by rw [z,nMa] at h; cases h),setM_ne (fun z=>by rw [z,nMW] at h; cases h)]; exact h
 ·obtain⟨o,e⟩:=g.has p _ h; exact (S3 _ _ e).trans e.symm
theorem IsTx.ext {a:Addr}{t:T} (h:IsTx M a t) (G:Go K CF CL CD CT X M M' H₀ H H'):IsTx M' a t:=by obtain⟨W,e⟩:=h; exact⟨W,G.ext _ _ e⟩
def d1 (k:V):List (Str×V):=[("kind",k)]
def d2 (k v:V):List (Str×V):=[("kind",k),("load",v)]
def d3 (k v y:V):List (Str×V):=[("kind",k),("load",v),("yes",y)]
def d4 (k v y n:V):List (Str×V):=[("kind",k),("load",v),("yes",y),("no",n)]
def d5 (k v y n b:V):List (Str×V):=[("kind",k),("load",v),("yes",y),("no",n),("body",b)]
theorem pd1 (k:V):putF "kind" k []=d1 k:=rfl
theorem pd2 (k v:V):putF "load" v (d1 k)=d2 k v:=by unfold d1 d2; rw [putF_ne (by decide +kernel)]; rfl
theorem pd3 (k v y:V):putF "yes" y (d2 k v)=d3 k v y:=by unfold d2 d3; rw [putF_ne (by decide +kernel),putF_ne (by decide +kernel)]; rfl
theorem pd4 (k v y n:V):putF "no" n (d3 k v y)=d4 k v y n:=by unfold d3 d4; rw [putF_ne (by decide +kernel),putF_ne (by decide +kernel),putF_ne (by decide +kernel)]; rfl
theorem pd5 (k v y n b:V):putF "body" b (d4 k v y n)=d5 k v y n b:=by unfold d4 d5; rw [putF_ne (by decide +kernel),putF_ne (by decide +kernel),putF_ne (by decide +kernel),putF_ne (by decide +kernel)]; rfl
theorem pd6 (k:Nat) (v y n b z:V):putF "size" z (d5 (.int (k:Int)) v y n b)=fD k v y n b z:=by unfold d5 fD; rw [putF_ne (by decide +kernel),putF_ne (by decide +kernel),putF_ne (by decide +kernel),putF_ne (by decide +kernel),putF_ne (by decide +kernel)]; rfl
variable {k:Nat}{v y n b z u:V}
theorem pdY:putF "yes" u (fD k v y n b z)=fD k v u n b z:=by unfold fD; rw [putF_ne (by decide +kernel),putF_ne (by decide +kernel),putF_eq]
theorem pdN:putF "no" u (fD k v y n b z)=fD k v y u b z:=by unfold fD; rw [putF_ne (by decide +kernel),putF_ne (by decide +kernel),putF_ne (by decide +kernel),putF_eq]
theorem pdB:putF "body" u (fD k v y n b z)=fD k v y n u z:=by unfold fD; rw [putF_ne (by decide +kernel),putF_ne (by decide +kernel),putF_ne (by decide +kernel),putF_ne (by decide +kernel),putF_eq]
theorem pdS:putF "size" u (fD k v y n b z)=fD k v y n b u:=by unfold fD; rw [putF_ne (by decide +kernel),putF_ne (by decide +kernel),putF_ne (by decide +kernel),putF_ne (by decide +kernel),putF_ne (by decide +kernel),putF_eq]
theorem ldK:(fD k v y n b z).lookup ("kind":Str)=some (.int (k:Int)):=lk_eq _ _ _
theorem ldL:(fD k v y n b z).lookup ("load":Str)=some v:=(lk_ne (by decide +kernel) _ _).trans (lk_eq _ _ _)
theorem ldY:(fD k v y n b z).lookup ("yes":Str)=some y:=(lk_ne (by decide +kernel) _ _).trans ((lk_ne (by decide +kernel) _ _).trans (lk_eq _ _ _))
theorem ldN:(fD k v y n b z).lookup ("no":Str)=some n:=(lk_ne (by decide +kernel) _ _).trans ((lk_ne (by decide +kernel) _ _).trans ((lk_ne (by decide +kernel) _ _).trans (lk_eq _ _ _)))
theorem ldB:(fD k v y n b z).lookup ("body":Str)=some b:=(lk_ne (by decide +kernel) _ _).trans ((lk_ne (by decide +kernel) _ _).trans ((lk_ne (by decide +kernel) _ _).trans ((lk_ne (by decide +kernel) _ _).trans (lk_eq _ _ _))))
theorem ldS:(fD k v y n b z).lookup ("size":Str)=some z:=(lk_ne (by decide +kernel) _ _).trans ((lk_ne (by decide +kernel) _ _).trans ((lk_ne (by decide +kernel) _ _).trans ((lk_ne (by decide +kernel) _ _).trans ((lk_ne (by decide +kernel) _ _).trans (lk_eq _ _ _)))))
theorem ldNo {m:Str} (h1:(m == "kind")=false) (h2:(m == "load")=false) (h3:(m == "yes")=false) (h4:(m == "no")=false) (h5:(m == "body")=false) (h6:(m == "size")=false):(fD k v y n b z).lookup m=none :=
 (lk_ne h1 _ _).trans ((lk_ne h2 _ _).trans ((lk_ne h3 _ _).trans ((lk_ne h4 _ _).trans ((lk_ne h5 _ _).trans ((lk_ne h6 _ _).trans rfl)))))
theorem eq_leaf {CG CW:Addr}{m:Nat} (O:Own K CF CL CD CT CG CW) (g:Gh K CF CL CD CT M H₀ H) {t:T}{x:V}{p:Addr} (hx:RV K M H t x) (hd:t.deep≤m) (hp:H p=none) {Q:VK} (q:Q (.bl (decide (t.kids=[]))) (upd H p (.tup []))):rEqRow K m x (.ref p) (upd H p (.tup [])) Q:=by
 have S:=same_new hp (.tup [])
 rcases hx.cases g with h | ⟨a,dx,y,z,u,ts,rfl,ha,rfl,_,_⟩
 ·rcases h with h | ⟨a,dx,v,ts,j,rfl,ha,_,hj,_,rfl⟩
  ·refine .inl ⟨t,.node [],h.mono (.of S),(tupN (K:=K) (ts:=[]) hp (TRs_nil.mpr rfl)).2,hd,?_⟩
   have e:T.beq t (.node [])=decide (t.kids=[]):=by
    by_cases z:t.kids=[]
    ·rw [decide_eq_true z]
     exact (T.beq_iff _ _).mpr (by cases t; exact congrArg T.node z)
    ·rw [decide_eq_false z]
     exact Bool.eq_false_iff.mpr fun y=>z (by rw [(T.beq_iff _ _).mp y]; rfl)
   rw [e]
   exact q
  ·refine .inr ⟨a,CL,dx,_,p,[],rfl,S _ _ ha,O.rL,rfl,upd_same,?_⟩
   have z:¬ (T.node (ts.drop j)).kids=[]:=fun z=>by
    have:(ts.drop j).length=0:=by rw [show ts.drop j=[] from z]; rfl
    rw [List.length_drop] at this
    lia
   rw [← decide_eq_false z]
   exact q
 ·refine .inr ⟨a,CF,dx,_,p,[],rfl,S _ _ ha,O.rF,rfl,upd_same,?_⟩
  have z:¬ (T.node (u::ts)).kids=[]:=fun z=>by cases z
  rw [← decide_eq_false z]
  exact q
theorem ifAll {tc:TT}{tb u:TS}{D:Ends}{σ:L2.St}{H:Hp} (P:L2.St→Hp→Prop) (k:∀ σ' H',P σ' H'→u D σ' H')
  (h:∀ A B:Hp→Prop,(∀ H1,(∀ N:L2.St→Hp→Prop,(∀ σ' H',P σ' H'→N σ' H')→tb { D with nx:=N } σ H1)→A H1)→(∀ H1,P σ H1→B H1)→tc σ H (fun b H1=>if b=true then A H1 else B H1)) :
  tSeq (tIfS tc tb tNext) u D σ H :=
 h (fun H1=>tb { D with nx:=u D } σ H1) (fun H1=>tNext { D with nx:=u D } σ H1) (fun H1 r=>r _ k) (fun H1 p=>k _ _ p)
theorem deepL_mem {t:T}:∀ {ts:List T},t∈ts→t.deep+1≤T.deepL ts
 | u::us,h=>by
  rw [T.deepL_cons]
  rcases List.mem_cons.mp h with rfl | h
  ·lia
  ·have:=deepL_mem h; lia
theorem deep_kid {t w:T}{p:Nat} (h:t.kids[p]?=some w):w.deep+1≤t.deep:=by
 cases t with
 | node ts =>
  rw [T.deep_node]
  exact deepL_mem (List.mem_of_getElem? h)
theorem deepL_drop (ts:List T) (k:Nat):T.deepL (ts.drop k)≤T.deepL ts:=by
 have:T.deepL ts=max (T.deepL (ts.take k)) (T.deepL (ts.drop k)):=by rw [← T.deepL_append,List.take_append_drop]
 lia
theorem deep_load (w:T):(loadT w).deep≤w.deep:=by
 cases w with
 | node ts =>
  show (T.node (ts.drop 1)).deep≤_
  rw [T.deep_node,T.deep_node]
  exact deepL_drop ts 1
end
end Sw
namespace Sw
open PySem PySem.Spec PyProof.Rows L2
section
variable (K:PySem.W.Frag) (CF CL CD CT CG CW:Addr)
def spWork:Sp:=fun vs H Q _=>∃ (k:Nat) (y:V) (S:Addr) (l:T) (s:List T) (rows:List V) (M:Mp) (H₀:Hp),vs=[.int (k:Int),y,.ref S]∧Gh K CF CL CD CT M H₀ H∧M S=some .mine∧H S=some (.lst rows)∧All2 (RV K M H) s.reverse rows∧TR K H l y∧looks k≤s.length∧B 395 8000010 (.node s)∧(∀ t∈s,t.kids.length≤8000000) ∧
 ∀ M' H' rows',Go K CF CL CD CT (fun a=>a=S) M M' H₀ H H'→H' S=some (.lst rows')→All2 (RV K M' H') (workT k l s).reverse rows'→Q .non H'
def GoAt (M:Mp) (H:Hp) (t:T) (x:V):Prop:=∃ g dx a W p tt,x=.ref g∧M g=some .mine∧H g=some (.ins CG dx (fG a p))∧M a=some (.text tt W)∧p≤tt.kids.length∧(∃ ws,H W=some (.lst ws)∧p≤ws.length)∧t=.node (tt.kids.drop p)∧B 389 8000000 tt
structure WkX (M:Mp) (H₀ H:Hp) (o dx G S N:Addr) (gs rows:List V) (tx s:List T) (num:List Nat) (b:Nat):Prop where
 gh:Gh K CF CL CD CT M H₀ H
 ob:H o=some (.ins CW dx (fW G S N b))
 mo:M o=some .mine
 mG:M G=some .mine
 mS:M S=some .mine
 mN:M N=some .mine
 hG:H G=some (.lst gs)
 hS:H S=some (.lst rows)
 hN:H N=some (.lst (num.map nv))
 gos:All2 (GoAt CG M H) tx.reverse gs
 sts:All2 (RV K M H) s.reverse rows
 n15:num.length=15
 dGS:G≠S
 dGN:G≠N
 dSN:S≠N
 nd:gs.Nodup
def Wk (M:Mp) (H₀ H:Hp) (o:Addr) (tx s:List T) (num:List Nat) (b:Nat):Prop:=∃ dx G S N gs rows,WkX K CF CL CD CT CG CW M H₀ H o dx G S N gs rows tx s num b
def spAtEnd:Sp:=fun vs H Q _=>∃ o M H₀ tx s num b,vs=[.ref o]∧Wk K CF CL CD CT CG CW M H₀ H o tx s num b∧Q (.bl (decide (tx=[]))) H
def spTop:Sp:=fun vs H Q _=>∃ o M H₀ tx s num b,vs=[.ref o]∧Wk K CF CL CD CT CG CW M H₀ H o tx s num b∧∀ x H',Same H H'→RV K M H' (ats s 0) x→Q x H'
def spTally:Sp:=fun vs H Q _=>∃ o M H₀ tx s num b,vs=[.ref o]∧Wk K CF CL CD CT CG CW M H₀ H o tx s num b∧∀ c H',Same H H'→SqT K H' c (num.map nv)→Q (.ref c) H'
def spWkInit:Sp:=fun vs H Q _=>∃ (o dx:Addr) (x:V) (tx s:List T) (b:Nat) (M:Mp) (H₀:Hp),vs=[.ref o,x,.int (b:Int)]∧Gh K CF CL CD CT M H₀ H∧M o=some .mine∧H o=some (.ins CW dx [])∧TR K H (pairT tx s) x∧BX tx∧B 390 8000000 (.node s)∧∀ M' H',Wk K CF CL CD CT CG CW M' H₀ H' o tx s zero15 b→Q .non H'
def MvT (k:Nat) (w:T) (ws:List T) (rest sp:List T) (num:List Nat) (tx' s':List T) (num':List Nat):Prop :=
 (k=9∧sortT w=8∧tx'=loadT w::.node (w::ws)::rest∧s'=sp∧num'=num.set 14 (num.getD 14 0+(loadT w).parts)) ∨
 (k=7∧sortT w=7∧tx'=ats (loadT w).kids 0::.node ws::rest∧s'=sp∧num'=num) ∨
 (k=8∧sortT w=7∧tx'=loadT (loadT w)::.node ws::rest∧s'=sp∧num'=num) ∨
 ((k≤6∨k=10∨k=11)∧tx'=.node ws::rest∧s'=workT k (loadT w) sp∧num'=num)
def Rdy (M:Mp) (H:Hp) (g:Addr) (w:T) (ws:List T):Prop:=∃ dg a W j tt wl,M g=some .mine∧H g=some (.ins CG dg (fG a j))∧M a=some (.text tt W)∧H W=some (.lst wl)∧j+1≤wl.length∧tt.kids.drop j=w::ws∧B 389 8000000 tt
def spMove:Sp:=fun vs H Q _=>∃ (o dx G S N:Addr) (gs0:List V) (g:Addr) (rows:List V) (p:T) (rest sp:List T) (num:List Nat) (b k:Nat) (wv:V) (M:Mp) (H₀:Hp),vs=[.ref o,.int (k:Int),.ref g,wv]∧WkX K CF CL CD CT CG CW M H₀ H o dx G S N (gs0++[.ref g]) rows (p::rest) sp num b∧looks k≤sp.length∧B 395 8000010 (.node sp)∧(∀ t∈sp,t.kids.length≤8000000)∧rest.length≤8000000 ∧
 ((k=12∧∀ M' H',Wk K CF CL CD CT CG CW M' H₀ H' o rest sp num b→Q .non H') ∨ ∃ w ws bw tx' s' num',p=.node (w::ws)∧wv=.ref bw∧M bw=some (.word w)∧Rdy CG M H g w ws∧MvT k w ws rest sp num tx' s' num'∧BX tx'∧(loadT w).parts≤8000000∧∀ M' H',Wk K CF CL CD CT CG CW M' H₀ H' o tx' s' num' b→Q .non H')
def spStepW:Sp:=fun vs H Q _=>∃ o M H₀ tx s num b,vs=[.ref o]∧Wk K CF CL CD CT CG CW M H₀ H o tx s num b∧tx≠[]∧BX tx∧B 390 8000000 (.node s)∧(costT tx s≤b→BX (onward tx s).1∧B 390 8000000 (.node (onward tx s).2.1)) ∧
 (b<costT tx s→∀ M' H',Wk K CF CL CD CT CG CW M' H₀ H' o tx s num b→Q (.bl false) H') ∧
 (costT tx s≤b→∀ M' H',Wk K CF CL CD CT CG CW M' H₀ H' o (onward tx s).1 (onward tx s).2.1 (addT num (eventT tx s)) (b - costT tx s)→Q (.bl true) H')
end
section
variable {K:PySem.W.Frag}{CF CL CD CT CG CW:Addr}{M M':Mp}{H₀ H H':Hp}{X:Addr→Prop}
theorem GoAt.go {t:T}{x:V} (G:Go K CF CL CD CT X M M' H₀ H H') (hX:∀ g,x=.ref g→¬ X g) (g0:Gh K CF CL CD CT M H₀ H) (h:GoAt CG M H t x):GoAt CG M' H' t x:=by
 obtain⟨g,dx,a,W,p,tt,rfl,h1,h2,h3,h4,⟨ws,h5,h6⟩,h7,h8⟩:=h
 obtain⟨_,_,_,_,h9⟩:=g0.ok a _ h3
 obtain⟨ws',e1,e2⟩:=G.wds W _ ws h9 h5
 exact⟨g,dx,a,W,p,tt,rfl,G.ext _ _ h1,(G.mine g h1 (hX g rfl)).trans h2,G.ext _ _ h3,h4,⟨ws',e1,by lia⟩,h7,h8⟩
variable {o dx G S N:Addr}{gs rows:List V}{tx s:List T}{num:List Nat}{b:Nat}
theorem WkX.go (w:WkX K CF CL CD CT CG CW M H₀ H o dx G S N gs rows tx s num b) (g:Go K CF CL CD CT (fun _=>False) M M' H₀ H H'):WkX K CF CL CD CT CG CW M' H₀ H' o dx G S N gs rows tx s num b :=
 ⟨g.gh,(g.mine o w.mo id).trans w.ob,g.ext _ _ w.mo,g.ext _ _ w.mG,g.ext _ _ w.mS,g.ext _ _ w.mN,(g.mine G w.mG id).trans w.hG,(g.mine S w.mS id).trans w.hS,(g.mine N w.mN id).trans w.hN,w.gos.imp fun _ _ h=>h.go g (fun _ _=>id) w.gh,w.sts.imp fun _ _ h=>g.rv h,w.n15,w.dGS,w.dGN,w.dSN,w.nd⟩
theorem WkX.grow (w:WkX K CF CL CD CT CG CW M H₀ H o dx G S N gs rows tx s num b) (S1:Same H H'):WkX K CF CL CD CT CG CW M H₀ H' o dx G S N gs rows tx s num b:=w.go (.grow w.gh S1)
variable {A B C:Addr}{c:Nat}
theorem lwG:(fW A B C c).lookup ("goings":Str)=some (.ref A):=lk_eq _ _ _
theorem lwS:(fW A B C c).lookup ("stack":Str)=some (.ref B):=(lk_ne (by decide +kernel) _ _).trans (lk_eq _ _ _)
theorem lwN:(fW A B C c).lookup ("numbers":Str)=some (.ref C):=(lk_ne (by decide +kernel) _ _).trans ((lk_ne (by decide +kernel) _ _).trans (lk_eq _ _ _))
theorem lwL:(fW A B C c).lookup ("left":Str)=some (.int (c:Int)):=(lk_ne (by decide +kernel) _ _).trans ((lk_ne (by decide +kernel) _ _).trans ((lk_ne (by decide +kernel) _ _).trans (lk_eq _ _ _)))
theorem lwNo {m:Str} (h1:(m == "goings")=false) (h2:(m == "stack")=false) (h3:(m == "numbers")=false) (h4:(m == "left")=false):(fW A B C c).lookup m=none:=(lk_ne h1 _ _).trans ((lk_ne h2 _ _).trans ((lk_ne h3 _ _).trans ((lk_ne h4 _ _).trans rfl)))
theorem pwL (d:Nat):putF "left" (.int (d:Int)) (fW A B C c)=fW A B C d:=by unfold fW; rw [putF_ne (by decide +kernel),putF_ne (by decide +kernel),putF_ne (by decide +kernel),putF_eq]
theorem lgT {a:Addr}{p:Nat}:(fG a p).lookup ("text":Str)=some (.ref a):=lk_eq _ _ _
theorem lgP {a:Addr}{p:Nat}:(fG a p).lookup ("place":Str)=some (.int (p:Int)):=(lk_ne (by decide +kernel) _ _).trans (lk_eq _ _ _)
theorem pgP {a:Addr}{p q:Nat}:putF "place" (.int (q:Int)) (fG a p)=fG a q:=by unfold fG; rw [putF_ne (by decide +kernel),putF_eq]
theorem ltNo {v:V}{W:Addr}{m:Str} (h1:(m == "tree")=false) (h2:(m == "words")=false):(fT v W).lookup m=none:=(lk_ne h1 _ _).trans ((lk_ne h2 _ _).trans rfl)
theorem all_last2 {α β:Type}{R:α→β→Prop}{ts:List α}{ys:List β} (h:All2 R ts.reverse ys) (hl:2≤ts.length):∃ a b ts0 ys0 y z,ts=a::b::ts0∧ys=ys0++[z]++[y]∧All2 R ts0.reverse ys0∧R a y∧R b z:=by
 have hyl:=h.length
 rw [List.length_reverse] at hyl
 obtain⟨a,ts1,ys1,y,rfl,rfl,h1,h2⟩:=all_last h (by rintro rfl; simp at hyl; lia)
 have hyl1:=h1.length
 rw [List.length_reverse] at hyl1
 simp only [List.length_cons] at hl
 obtain⟨b,ts0,ys0,z,rfl,rfl,h3,h4⟩:=all_last h1 (by rintro rfl; simp at hyl1; lia)
 exact⟨a,b,ts0,ys0,y,z,rfl,rfl,h3,h2,h4⟩
theorem all_last3 {α β:Type}{R:α→β→Prop}{ts:List α}{ys:List β} (h:All2 R ts.reverse ys) (hl:3≤ts.length):∃ a b c ts0 ys0 y z w,ts=a::b::c::ts0∧ys=ys0++[w]++[z]++[y]∧All2 R ts0.reverse ys0∧R a y∧R b z∧R c w:=by
 obtain⟨a,b,ts1,ys1,y,z,rfl,rfl,h1,h2,h3⟩:=all_last2 h (by lia)
 have hyl1:=h1.length
 rw [List.length_reverse] at hyl1
 simp only [List.length_cons] at hl
 obtain⟨c,ts0,ys0,w,rfl,rfl,h4,h5⟩:=all_last h1 (by rintro rfl; simp at hyl1; lia)
 exact⟨a,b,c,ts0,ys0,y,z,w,rfl,rfl,h4,h2,h3,h5⟩
theorem si2 {α:Type} (xs:List α) (z y:α):seqIndex? (-2) (xs++[z]++[y]).length=some xs.length:=by
 have hl:(xs++[z]++[y]).length=xs.length+2:=by simp
 rw [hl]
 have:=(ixN_seq (n:=xs.length+2) (i:=-2) (j:=xs.length) (by unfold ixN; rw [if_neg (by decide),if_pos (by lia)]; congr 1; lia)).1
 exact this
theorem si3 {α:Type} (xs:List α) (w z y:α):seqIndex? (-3) (xs++[w]++[z]++[y]).length=some xs.length:=by
 have hl:(xs++[w]++[z]++[y]).length=xs.length+3:=by simp
 rw [hl]
 have:=(ixN_seq (n:=xs.length+3) (i:=-3) (j:=xs.length) (by unfold ixN; rw [if_neg (by decide),if_pos (by lia)]; congr 1; lia)).1
 exact this
theorem er2 {α:Type} (xs:List α) (z y:α):(xs++[z]++[y]).eraseIdx xs.length=xs++[y]:=by
 rw [List.append_assoc,List.eraseIdx_append_of_length_le (Nat.le_refl _),Nat.sub_self]
 rfl
theorem er3 {α:Type} (xs:List α) (w z y:α):(xs++[w]++[z]++[y]).eraseIdx xs.length=xs++[z]++[y]:=by
 rw [List.append_assoc,List.append_assoc,List.eraseIdx_append_of_length_le (Nat.le_refl _),Nat.sub_self]
 simp
theorem gt2 {α:Type} (xs:List α) (z y:α):(xs++[z]++[y])[xs.length]?=some z:=by simp
theorem gt3 {α:Type} (xs:List α) (w z y:α):(xs++[w]++[z]++[y])[xs.length]?=some w:=by simp
theorem Go.list {p:Addr}{xs ys:List V} (g:Gh K CF CL CD CT M H₀ H) (hm:M p=some .mine) (h:H p=some (.lst xs)):Go K CF CL CD CT (fun a=>a=p) M M H₀ H (upd H p (.lst ys)):=Go.mutX (.refl g) hm rfl (Kt.lst h)
end
end Sw
namespace Sw
open PySem PySem.Spec PyProof.Rows L2
section
variable {K:PySem.W.Frag}{H:Hp}{a:Addr}{xs:List V}{σ:Sg}{js:List Nat}{te:TE}{Q:VK}
theorem lc_revT (J:Addr→Nat→List V→Hp→Prop) (hz:xs.length≤sizeLine) (h0:∀ D,H D=none→J D 0 [] (upd H D (.lst [])))
  (hD:∀ D i ys H',J D i ys H'→H' D=some (.lst ys)∧ys.length=i∧SqT K H' a xs)
  (hte:∀ D i x ys H' (R:VK),xs.reverse[i]?=some x→J D i ys H'→(∀ y H3,H3 D=some (.lst ys)→J D (i+1) (ys++[y]) (upd H3 D (.lst (ys++[y])))→R y H3)→te (some x::frv σ js) H' R)
  (q:∀ D ys H',J D xs.length ys H'→Q (.ref D) H'):LcRun (SwR.ItrT K a xs.length) js te σ Q H:=by
 intro D hDn
 refine⟨fun i m ys H'=>m=xs.length - i∧i≤xs.length∧J D i ys H',⟨xs.length,by lia,Nat.zero_le _,h0 D hDn⟩,?_⟩
 rintro i m ys H' ⟨rfl,hi,hj⟩
 obtain⟨h1,h2,h3⟩:=hD D i ys H' hj
 refine⟨h1,?_⟩
 by_cases hlt:i<xs.length
 ·refine .inr ⟨⟨xs,xs.reverse[i]'(by simpa using hlt),h3,rfl,List.getElem?_eq_getElem (by simpa using hlt)⟩,fun x H2 y=>?_⟩
  obtain⟨e,y⟩:=y
  subst e
  exact hte D i x ys _ _ (y xs h3) hj fun y H3 g1 g2=>⟨g1,by lia,xs.length - (i+1),by lia,rfl,hlt,g2⟩
 ·have e:i=xs.length:=by lia
  subst e
  exact .inl ⟨⟨xs,h3,rfl,rfl⟩,q D ys H' hj⟩
theorem take_get {α:Type}{xs:List α}{i:Nat}{x:α} (h:xs[i]?=some x):xs.take (i+1)=xs.take i++[x]:=by
 rw [List.take_add_one,h]
 rfl
end
end Sw
namespace Sw
open PySem PySem.Spec PyProof.Rows L2
section
variable {K:PySem.W.Frag}{CF CL CD CT CG CW:Addr}{M M':Mp}{H₀ H H':Hp}{X:Addr→Prop}{o dx G S N g:Addr}{gs rows gs' rows':List V}{tx s tx' s':List T}{num num':List Nat}{b:Nat}{w:T}{ws:List T}
theorem Rdy.go (G:Go K CF CL CD CT X M M' H₀ H H') (hX:¬ X g) (g0:Gh K CF CL CD CT M H₀ H) (h:Rdy CG M H g w ws):Rdy CG M' H' g w ws:=by
 obtain⟨dg,a,W,j,tt,wl,h1,h2,h3,h4,h5,h6,h7⟩:=h
 obtain⟨_,_,_,_,h9⟩:=g0.ok a _ h3
 obtain⟨ws',e1,e2⟩:=G.wds W _ wl h9 h4
 exact⟨dg,a,W,j,tt,ws',G.ext _ _ h1,(G.mine g h1 hX).trans h2,G.ext _ _ h3,e1,by lia,h6,h7⟩
theorem Go.mutN {p:Addr}{u:HO}{H1:Hp} (a:Go K CF CL CD CT X M M' H₀ H H1) (hm:M' p=some .mine) (hn:M p≠some .mine) (k:Kt H1 (upd H1 p u)):Go K CF CL CD CT X M M' H₀ H (upd H1 p u) :=
 ⟨a.ext,fun q h x=>by rw [upd_ne (fun z:q=p=>hn (by rw [← z]; exact h))]; exact a.mine q h x,a.kt.trans k,a.gh.mut hm k,fun W t ws h1 h2=>by
  obtain⟨ws',e,l⟩:=a.wds W t ws h1 h2
  have nW:W≠p:=fun z=>by have:=a.ext _ _ h1; rw [z,hm] at this; cases this
  exact⟨ws',by rw [upd_ne nW]; exact e,l⟩⟩
theorem GoAt.nl {t:T}{x:V}{p:Addr}{l:List V} (h:GoAt CG M H t x) (hp:H p=some (.lst l)):∀ g,x=.ref g→¬ g=p:=by
 obtain⟨g,dx,a,W,j,tt,rfl,_,h2,_⟩:=h
 rintro g' e rfl
 cases e
 rw [hp] at h2
 cases h2
theorem WkX.setG (w:WkX K CF CL CD CT CG CW M H₀ H o dx G S N gs rows tx s num b) (h:All2 (GoAt CG M H) tx'.reverse gs') (nd:gs'.Nodup):WkX K CF CL CD CT CG CW M H₀ (upd H G (.lst gs')) o dx G S N gs' rows tx' s num b:=by
 have g1:Go K CF CL CD CT (fun a=>a=G) M M H₀ H (upd H G (.lst gs')):=.list w.gh w.mG w.hG
 have no:o≠G:=fun z=>by have:=w.ob; rw [z,w.hG] at this; cases this
 exact⟨g1.gh,by rw [upd_ne no]; exact w.ob,w.mo,w.mG,w.mS,w.mN,upd_same,by rw [upd_ne (Ne.symm w.dGS)]; exact w.hS,by rw [upd_ne (Ne.symm w.dGN)]; exact w.hN,h.imp fun _ _ z=>z.go g1 (z.nl w.hG) w.gh,w.sts.imp fun _ _ z=>g1.rv z,w.n15,w.dGS,w.dGN,w.dSN,nd⟩
theorem WkX.setN (w:WkX K CF CL CD CT CG CW M H₀ H o dx G S N gs rows tx s num b) (hl:num'.length=15):WkX K CF CL CD CT CG CW M H₀ (upd H N (.lst (num'.map nv))) o dx G S N gs rows tx s num' b:=by
 have g1:Go K CF CL CD CT (fun a=>a=N) M M H₀ H (upd H N (.lst (num'.map nv))):=.list w.gh w.mN w.hN
 have no:o≠N:=fun z=>by have:=w.ob; rw [z,w.hN] at this; cases this
 exact⟨g1.gh,by rw [upd_ne no]; exact w.ob,w.mo,w.mG,w.mS,w.mN,by rw [upd_ne w.dGN]; exact w.hG,by rw [upd_ne w.dSN]; exact w.hS,upd_same,w.gos.imp fun _ _ z=>z.go g1 (z.nl w.hN) w.gh,w.sts.imp fun _ _ z=>g1.rv z,hl,w.dGS,w.dGN,w.dSN,w.nd⟩
theorem GoAt.nw {t:T}{x:V}{A B C:Addr}{c:Nat}{D e:Addr} (h:GoAt CG M H t x) (hp:H e=some (.ins D dx (fW A B C c))):∀ g,x=.ref g→¬ g=e:=by
 obtain⟨g,dg,a,W,j,tt,rfl,_,h2,_⟩:=h
 rintro g' e rfl
 cases e
 rw [hp] at h2
 have h3:=HO.ins.inj (Option.some.inj h2)
 have h4:fW A B C c=fG a j:=h3.2.2
 unfold fW fG at h4
 have:=congrArg List.length h4
 simp at this
theorem WkX.setL (w:WkX K CF CL CD CT CG CW M H₀ H o dx G S N gs rows tx s num b) (c:Nat):WkX K CF CL CD CT CG CW M H₀ (upd H o (.ins CW dx (fW G S N c))) o dx G S N gs rows tx s num c:=by
 have k:Kt H (upd H o (.ins CW dx (fW G S N c))):=Kt.ins w.ob
 have g1:Go K CF CL CD CT (fun a=>a=o) M M H₀ H (upd H o (.ins CW dx (fW G S N c))):=Go.mutX (.refl w.gh) w.mo rfl k
 have nG:G≠o:=fun z=>by have:=w.ob; rw [← z,w.hG] at this; cases this
 have nS:S≠o:=fun z=>by have:=w.ob; rw [← z,w.hS] at this; cases this
 have nN:N≠o:=fun z=>by have:=w.ob; rw [← z,w.hN] at this; cases this
 exact⟨g1.gh,upd_same,w.mo,w.mG,w.mS,w.mN,by rw [upd_ne nG]; exact w.hG,by rw [upd_ne nS]; exact w.hS,by rw [upd_ne nN]; exact w.hN,w.gos.imp fun _ _ z=>z.go g1 (z.nw w.ob) w.gh,w.sts.imp fun _ _ z=>g1.rv z,w.n15,w.dGS,w.dGN,w.dSN,w.nd⟩
theorem WkX.setS (w:WkX K CF CL CD CT CG CW M H₀ H o dx G S N gs rows tx s num b) (g1:Go K CF CL CD CT (fun a=>a=S) M M' H₀ H H') (h:H' S=some (.lst rows')) (hr:All2 (RV K M' H') s'.reverse rows'):WkX K CF CL CD CT CG CW M' H₀ H' o dx G S N gs rows' tx s' num b:=by
 have no:¬ o=S:=fun z=>by have:=w.ob; rw [z,w.hS] at this; cases this
 exact⟨g1.gh,(g1.mine o w.mo no).trans w.ob,g1.ext _ _ w.mo,g1.ext _ _ w.mG,g1.ext _ _ w.mS,g1.ext _ _ w.mN,(g1.mine G w.mG w.dGS).trans w.hG,h,(g1.mine N w.mN (Ne.symm w.dSN)).trans w.hN,w.gos.imp fun _ _ z=>z.go g1 (z.nl w.hS) w.gh,hr,w.n15,w.dGS,w.dGN,w.dSN,w.nd⟩
theorem WkX.onto {gs0:List V}{p:T}{rest:List T} (k:WkX K CF CL CD CT CG CW M H₀ H o dx G S N (gs0++[.ref g]) rows (p::rest) s num b) {dg a W:Addr}{j:Nat}{tt:T}{wl:List V} (h1:M g=some .mine) (h2:H g=some (.ins CG dg (fG a j))) (h3:M a=some (.text tt W)) (h4:H W=some (.lst wl)) (h5:j+1≤wl.length) (h6:tt.kids.drop j=w::ws) (h7:B 389 8000000 tt) :
  WkX K CF CL CD CT CG CW M H₀ (upd H g (.ins CG dg (fG a (j+1)))) o dx G S N (gs0++[.ref g]) rows (.node ws::rest) s num b:=by
 have kt:Kt H (upd H g (.ins CG dg (fG a (j+1)))):=Kt.ins h2
 have g1:Go K CF CL CD CT (fun a=>a=g) M M H₀ H (upd H g (.ins CG dg (fG a (j+1)))):=Go.mutX (.refl k.gh) h1 rfl kt
 have nl:∀ {q:Addr}{l:List V},H q=some (.lst l)→q≠g:=fun e z=>by rw [z,h2] at e; cases e
 have no:o≠g:=fun z=>by
  have:=k.ob
  rw [z,h2] at this
  have h3:=HO.ins.inj (Option.some.inj this)
  have h4:fG a j=fW G S N b:=h3.2.2
  unfold fW fG at h4
  have:=congrArg List.length h4
  simp at this
 have hgo:=k.gos
 rw [List.reverse_cons] at hgo
 obtain⟨gs1,y,e1,hg0,_⟩:=All2.snoc hgo
 obtain⟨rfl,rfl⟩:=List.append_inj' e1 rfl |>.imp id (fun z=>(List.cons.inj z).1)
 have nd:=k.nd
 have ng:(.ref g:V) ∉ gs0:=fun z=>(List.nodup_append.mp nd).2.2 _ z _ (by simp) rfl
 have hjk:j+1≤tt.kids.length:=by
  have:=congrArg List.length h6
  rw [List.length_drop,List.length_cons] at this
  lia
 refine⟨g1.gh,by rw [upd_ne no]; exact k.ob,k.mo,k.mG,k.mS,k.mN,by rw [upd_ne (nl k.hG)]; exact k.hG,by rw [upd_ne (nl k.hS)]; exact k.hS,by rw [upd_ne (nl k.hN)]; exact k.hN,?_,k.sts.imp fun _ _ z=>g1.rv z,k.n15,k.dGS,k.dGN,k.dSN,nd⟩
 rw [List.reverse_cons]
 refine All2.append ?_ (All2.one ⟨g,dg,a,W,j+1,tt,rfl,h1,upd_same,h3,hjk,⟨wl,by rw [upd_ne (nl h4)]; exact h4,h5⟩,?_,h7⟩)
 ·refine All2.of_get (hg0.length.symm ▸ rfl) fun i y hy=>?_
  obtain⟨t,et,hgt⟩:=hg0.get hy
  refine⟨t,et,hgt.go g1 (fun g' e z=>?_) k.gh⟩
  subst z
  exact ng (by rw [← e]; exact List.mem_of_getElem? hy)
 ·have:tt.kids.drop (j+1)=ws:=by rw [← List.drop_drop,h6]; rfl
  rw [this]
theorem WkX.newG (k:WkX K CF CL CD CT CG CW M H₀ H o dx G S N gs rows tx s num b) {a g dg:Addr}{t:T} (ht:IsTx M a t) (hb:B 389 8000000 t) (hg:H g=none) (hd:H dg=none) (ne:dg≠g) :
  WkX K CF CL CD CT CG CW (setM M g .mine) H₀ (mkO H g dg CG (fG a 0)) o dx G S N gs rows tx s num b∧GoAt CG (setM M g .mine) (mkO H g dg CG (fG a 0)) t (.ref g)∧(.ref g:V) ∉ gs:=by
 have g1:Go K CF CL CD CT (fun _=>False) M (setM M g .mine) H₀ H (mkO H g dg CG (fG a 0)):=.made k.gh hg hd ne
 obtain⟨W,hW⟩:=ht
 obtain⟨_,_,_,_,h9⟩:=k.gh.ok a _ hW
 obtain⟨xs,h10,_,_⟩:=k.gh.ok W _ h9
 refine⟨k.go g1,⟨g,dg,a,W,0,t,rfl,setM_same,mk_at,g1.ext _ _ hW,Nat.zero_le _,⟨xs,mk_same (C:=CG) (fs:=fG a 0) hg hd ne _ _ h10,Nat.zero_le _⟩,by cases t; rfl,hb⟩,fun z=>?_⟩
 obtain⟨i,hi⟩:=List.mem_iff_getElem?.mp z
 obtain⟨t',_,g',_,_,_,_,_,e,_,h2,_⟩:=k.gos.get hi
 cases e
 rw [hg] at h2
 cases h2
theorem WkX.push (k:WkX K CF CL CD CT CG CW M H₀ H o dx G S N gs rows tx s num b) {t:T}{x:V} (h:GoAt CG M H t x) (hn:x ∉ gs):WkX K CF CL CD CT CG CW M H₀ (upd H G (.lst (gs++[x]))) o dx G S N (gs++[x]) rows (t::tx) s num b:=by
 refine k.setG ?_ ?_
 ·rw [List.reverse_cons]
  exact All2.append k.gos (All2.one h)
 ·refine List.nodup_append.mpr ⟨k.nd,by simp,fun a ha c hc=>?_⟩
  rw [List.mem_singleton.mp hc]
  exact fun z=>hn (z ▸ ha)
theorem GoAt.new {a g dg:Addr}{t:T} (g0:Gh K CF CL CD CT M H₀ H) (ht:IsTx M a t) (hb:B 389 8000000 t) (hg:H g=none) (hd:H dg=none) (ne:dg≠g):GoAt CG (setM M g .mine) (mkO H g dg CG (fG a 0)) t (.ref g):=by
 have g1:Go K CF CL CD CT (fun _=>False) M (setM M g .mine) H₀ H (mkO H g dg CG (fG a 0)):=.made g0 hg hd ne
 obtain⟨W,hW⟩:=ht
 obtain⟨_,_,_,_,h9⟩:=g0.ok a _ hW
 obtain⟨xs,h10,_,_⟩:=g0.ok W _ h9
 exact⟨g,dg,a,W,0,t,rfl,setM_same,mk_at,g1.ext _ _ hW,Nat.zero_le _,⟨xs,mk_same (C:=CG) (fs:=fG a 0) hg hd ne _ _ h10,Nat.zero_le _⟩,by cases t; rfl,hb⟩
def w1 (G:Addr):List (Str×V):=[("goings",.ref G)]
def w2 (G S:Addr):List (Str×V):=[("goings",.ref G),("stack",.ref S)]
def w3 (G S N:Addr):List (Str×V):=[("goings",.ref G),("stack",.ref S),("numbers",.ref N)]
theorem pw1 (G:Addr):putF "goings" (.ref G) []=w1 G:=rfl
theorem pw2 (G S:Addr):putF "stack" (.ref S) (w1 G)=w2 G S:=by unfold w1 w2; rw [putF_ne (by decide +kernel)]; rfl
theorem pw3 (G S N:Addr):putF "numbers" (.ref N) (w2 G S)=w3 G S N:=by unfold w2 w3; rw [putF_ne (by decide +kernel),putF_ne (by decide +kernel)]; rfl
theorem pw4 (G S N:Addr) (b:Nat):putF "left" (.int (b:Int)) (w3 G S N)=fW G S N b:=by unfold w3 fW; rw [putF_ne (by decide +kernel),putF_ne (by decide +kernel),putF_ne (by decide +kernel)]; rfl
theorem rev_get {ts:List T}{ys:List V}{i:Nat}{x:V} (h:TRs K H ts ys) (hx:ys.reverse[i]?=some x):∃ t,ts.reverse[i]?=some t∧TR K H t x:=by
 obtain⟨hi,hx'⟩:=SwR.rev_at hx
 obtain⟨t,et,ht⟩:=h.get hx'
 have hl:=h.length
 refine⟨t,?_,ht⟩
 rw [List.getElem?_reverse (by lia),← hl]
 exact et
end
theorem bump {num:List Nat}{k:Nat} (h:num.length=15) (hk:k<15):addT num (ev0 k)=num.set k (num.getD k 0+1):=by
 unfold addT ev0
 refine List.ext_getElem? fun i=>?_
 rw [List.getElem?_zipWith,List.getElem?_set,List.getElem?_set,List.getElem?_replicate,List.length_replicate]
 by_cases e:k=i
 ·subst e
  rw [if_pos rfl,if_pos hk,if_pos rfl,if_pos (by lia),List.getElem?_eq_getElem (by lia),List.getD_eq_getElem?_getD,List.getElem?_eq_getElem (by lia)]
  rfl
 ·rw [if_neg e,if_neg e]
  by_cases hi:i<15
  ·rw [if_pos hi,List.getElem?_eq_getElem (by lia)]
   rfl
  ·rw [if_neg hi,List.getElem?_eq_none (by lia)]
theorem bump2 {num:List Nat}{k j c:Nat} (h:num.length=15) (hk:k<15) (hj:j<15) (hkj:k≠j):addT num ((ev0 k).set j c)=(num.set k (num.getD k 0+1)).set j ((num.set k (num.getD k 0+1)).getD j 0+c):=by
 unfold addT ev0
 refine List.ext_getElem? fun i=>?_
 have hg:(num.set k (num.getD k 0+1)).getD j 0=num.getD j 0:=by
  rw [List.getD_eq_getElem?_getD,List.getElem?_set,if_neg hkj,← List.getD_eq_getElem?_getD]
 rw [hg,List.getElem?_zipWith,List.getElem?_set,List.getElem?_set,List.getElem?_set,List.getElem?_set,List.getElem?_replicate,List.length_set,List.length_set,List.length_replicate]
 by_cases e:j=i
 ·subst e
  rw [if_pos rfl,if_pos hj,if_pos rfl,if_pos (by lia),List.getElem?_eq_getElem (by lia),List.getD_eq_getElem?_getD,List.getElem?_eq_getElem (by lia)]
  rfl
 ·rw [if_neg e,if_neg e]
  by_cases e2:k=i
  ·subst e2
   rw [if_pos rfl,if_pos hk,if_pos rfl,if_pos (by lia),List.getElem?_eq_getElem (by lia),List.getD_eq_getElem?_getD,List.getElem?_eq_getElem (by lia)]
   rfl
  ·rw [if_neg e2,if_neg e2]
   by_cases hi:i<15
   ·rw [if_pos hi,List.getElem?_eq_getElem (by lia)]
    rfl
   ·rw [if_neg hi,List.getElem?_eq_none (by lia)]
end Sw
namespace Sw
open PySem PySem.Spec PyProof.Rows L2
theorem at_nv {num:List Nat}{k:Nat} (h:num.length=15) (hk:k<15):atI (num.map nv) (k:Int)=some (nv (num.getD k 0)):=by
 refine atI_nat ?_
 rw [List.getElem?_map,List.getElem?_eq_getElem (by lia),List.getD_eq_getElem?_getD,List.getElem?_eq_getElem (by lia)]
 rfl
theorem step_place {p:T}{rest s:List T}{w:T}{ws:List T} (h:p.kids=w::ws):stepT (p::rest) s=placeT (sortT w) (ats s 0):=by
 have hk:(ats (p::rest) 0).kids=w::ws:=h
 unfold stepT placeT
 have h9:=sort_le w
 by_cases e7:sortT w=7
 ·rw [if_pos e7]
  by_cases d:(ats s 0).kids=[]
  ·rw [if_pos d,on_no hk e7 d]
  ·rw [if_neg d,on_yes hk e7 d]
 rw [if_neg e7]
 by_cases e8:sortT w=8
 ·rw [if_pos e8]
  by_cases d:(ats s 0).kids=[]
  ·rw [if_pos d,on_past hk e8 d]
  ·rw [if_neg d,on_into hk e8 d]
 rw [if_neg e8]
 by_cases e9:sortT w=9
 ·rw [if_pos e9,on_less hk e9]
 ·rw [if_neg e9,on_word hk (by lia)]
def num2 (k c:Nat) (num:List Nat):List Nat:=if k=2 then (num.set 2 (num.getD 2 0+1)).set 13 ((num.set 2 (num.getD 2 0+1)).getD 13 0+c) else num.set k (num.getD k 0+1)
theorem ev_step {tx s:List T}{num:List Nat} (h:num.length=15) (h9:stepT tx s≠9):addT num (eventT tx s)=num2 (stepT tx s) (costT tx s) num:=by
 have h12:=step_le (tx:=tx) (s:=s)
 unfold eventT num2 costT
 by_cases h2:stepT tx s=2
 ·rw [if_pos h2,if_pos h2,if_pos h2,bump2 h (by lia) (by lia) (by lia)]
 ·rw [if_neg h2,if_neg h9,if_neg h2,bump h (by lia)]
theorem mv_on {p:T}{rest s:List T}{w:T}{ws:List T}{num:List Nat} (h:p=.node (w::ws)) (hn:num.length=15) :
  MvT (stepT (p::rest) s) w ws rest (pad s (looks (stepT (p::rest) s))) (num2 (stepT (p::rest) s) (costT (p::rest) s) num) (onward (p::rest) s).1 (onward (p::rest) s).2.1 (addT num (eventT (p::rest) s)):=by
 subst h
 have hk:(ats (T.node (w::ws)::rest) 0).kids=w::ws:=rfl
 have h9:=sort_le w
 by_cases e7:sortT w=7
 ·by_cases d:(ats s 0).kids=[]
  ·have o:=on_no hk e7 d
   have hs:stepT (T.node (w::ws)::rest) s=8:=by unfold stepT; rw [o]
   refine .inr (.inr (.inl ⟨hs,e7,?_,?_,?_⟩))
   ·rw [o]
    show T.node (w.kids.drop 2)::_=T.node ((w.kids.drop 1).drop 1)::_
    rw [List.drop_drop]
    rfl
   ·rw [o,hs]; rfl
   ·exact ev_step hn (by lia)
  ·have o:=on_yes hk e7 d
   have hs:stepT (T.node (w::ws)::rest) s=7:=by unfold stepT; rw [o]
   refine .inr (.inl ⟨hs,e7,?_,?_,?_⟩)
   ·rw [o]; rfl
   ·rw [o,hs]; rfl
   ·exact ev_step hn (by lia)
 by_cases e8:sortT w=8
 ·by_cases d:(ats s 0).kids=[]
  ·have o:=on_past hk e8 d
   have hs:stepT (T.node (w::ws)::rest) s=10:=by unfold stepT; rw [o]
   refine .inr (.inr (.inr ⟨.inr (.inl hs),?_,?_,?_⟩))
   ·rw [o]; rfl
   ·rw [hs,work_ge (by lia),o]; rfl
   ·exact ev_step hn (by lia)
  ·have o:=on_into hk e8 d
   have hs:stepT (T.node (w::ws)::rest) s=9:=by unfold stepT; rw [o]
   refine .inl ⟨hs,e8,?_,?_,?_⟩
   ·rw [o]
   ·rw [o,hs]; rfl
   ·unfold eventT
    rw [hs,if_neg (by decide),if_pos rfl,bump2 hn (by lia) (by lia) (by lia)]
    rfl
 by_cases e9:sortT w=9
 ·have o:=on_less (s:=s) hk e9
  have hs:stepT (T.node (w::ws)::rest) s=11:=by unfold stepT; rw [o]
  refine .inr (.inr (.inr ⟨.inr (.inr hs),?_,?_,?_⟩))
  ·rw [o]; rfl
  ·rw [hs,work_ge (by lia),o]; rfl
  ·exact ev_step hn (by lia)
 ·have o:=on_word (s:=s) hk (show sortT w≤6 by lia)
  have hs:stepT (T.node (w::ws)::rest) s=sortT w:=by unfold stepT; rw [o]
  refine .inr (.inr (.inr ⟨.inl (by lia),?_,?_,?_⟩))
  ·rw [o]; rfl
  ·rw [hs,o]
  ·exact ev_step hn (by lia)
theorem padKids {s:List T}{n m:Nat} (h:∀ t∈s,t.kids.length≤m):∀ t∈pad s n,t.kids.length≤m:=fun t ht=>by
 rcases List.mem_append.mp ht with z | z
 ·exact h t z
 ·rw [List.eq_of_mem_replicate z]
  exact Nat.zero_le _
theorem kids_le {s:List T}{m:Nat} (h:T.partsL s≤m):∀ t∈s,t.kids.length≤m:=fun t ht=>by
 have h1:=T.mem_parts ht
 have h2:=T.parts_kids t
 have h3:=T.len_le_parts t.kids
 lia
theorem looks_at {k:Nat} (h:k≤12):atI ([.int 0,.int 1,.int 1,.int 2,.int 2,.int 1,.int 3,.int 1,.int 1,.int 1,.int 1,.int 0,.int 0]:List V) (k:Int)=some (.int (looks k:Nat)):=by
 have:∀ k,k≤12→([V.int 0,.int 1,.int 1,.int 2,.int 2,.int 1,.int 3,.int 1,.int 1,.int 1,.int 1,.int 0,.int 0]:List V)[k]?=some (.int (looks k:Nat)):=by decide
 exact atI_nat (this k h)
theorem pad_eq {s:List T}{i n:Nat} (h1:s.length+i≤max n s.length) (h2:n≤s.length+i):s++List.replicate i leaf=pad s n:=by
 unfold pad
 have:i=n - s.length:=by lia
 rw [this]
theorem setN_eq (num:List Nat) (k c:Nat):(num.map nv).set k (.int ((num.getD k 0:Int)+(c:Int)))=(num.set k (num.getD k 0+c)).map nv:=by
 rw [← nv_set]
 congr 1
theorem drop_cons {α:Type}{xs:List α}{j:Nat}{x:α} (h:xs[j]?=some x):xs.drop j=x::xs.drop (j+1):=by
 have hj:=(List.getElem?_eq_some_iff.mp h).1
 rw [List.drop_eq_getElem_cons hj]
 rw [List.getElem?_eq_getElem hj] at h
 rw [Option.some.inj h]
end Sw
namespace Sw
open PySem PySem.Spec PyProof.Rows L2
def spWalked (K:PySem.W.Frag) (CF CL CD CT CG CW:Addr):Sp:=fun vs H Q _=>∃ (x:V) (tx s:List T) (b:Nat),vs=[x,.int (b:Int)]∧TR K H (pairT tx s) x∧Sane b tx s ∧
 ∀ o M' H' b',Wk K CF CL CD CT CG CW M' H H' o (goT b tx s).1 (goT b tx s).2.1 (goT b tx s).2.2 b'→Q (.ref o) H'
end Sw
namespace Sw
open PySem PySem.Spec PyProof.Rows L2
def textC:List Nat:=[116,101,120,116]
def yesC:List Nat:=[121,101,115]
def noC:List Nat:=[110,111]
def bodyC:List Nat:=[98,111,100,121]
theorem tx_text:Str.ofString "text"=tx textC:=by decide +kernel
theorem tx_yes:Str.ofString "yes"=tx yesC:=by decide +kernel
theorem tx_no:Str.ofString "no"=tx noC:=by decide +kernel
theorem tx_body:Str.ofString "body"=tx bodyC:=by decide +kernel
def forkW (y n:List T):T:=.node (leavesT 7::.node y::n)
def loopW (r:List T):T:=.node (leavesT 8::r)
inductive One:T→List Nat→Prop
 | odd {w:T} (h:oddT w=true):One w (33::w.wr)
 | lay {w:T} (h:oddT w=false) (hs:sortT w=0):One w (39::(loadT w).wr)
 | plain {w:T} (h:oddT w=false) (h1:1≤sortT w) (h6:sortT w≤6):One w (nmC (sortT w))
structure Rst where
 st:List (List T)
 pl:List (List Nat)
 nm:List Nat
inductive Stp:Rst→List Nat→Rst→Prop
 | openF {st:List (List T)}{pl:List (List Nat)}:Stp ⟨st,pl,nmC 7⟩ [91] ⟨[]::st,yesC::pl,[]⟩
 | openW {st:List (List T)}{pl:List (List Nat)}:Stp ⟨st,pl,nmC 8⟩ [91] ⟨[]::st,bodyC::pl,[]⟩
 | name {st:List (List T)}{pl:List (List Nat)}{k:Nat} (h:k=7∨k=8):Stp ⟨st,pl,[]⟩ (nmC k) ⟨st,pl,nmC k⟩
 | bar {st:List (List T)}{pl:List (List Nat)}:Stp ⟨st,yesC::pl,[]⟩ [124] ⟨[]::st,noC::yesC::pl,[]⟩
 | shutW {r s:List T}{st:List (List T)}{pl:List (List Nat)}:Stp ⟨r::s::st,bodyC::pl,[]⟩ [93] ⟨(s++[loopW r])::st,pl,[]⟩
 | shutF {n y s:List T}{st:List (List T)}{pl:List (List Nat)}:Stp ⟨n::y::s::st,noC::yesC::pl,[]⟩ [93] ⟨(s++[forkW y n])::st,pl,[]⟩
 | word {w:T}{p:List Nat}{s:List T}{st:List (List T)}{pl:List (List Nat)} (h:One w p):Stp ⟨s::st,pl,[]⟩ p ⟨(s++[w])::st,pl,[]⟩
theorem leaves_of:∀ {ts:List T},(ts.any fun t=>!T.beq t leaf)=false→ts=List.replicate ts.length (.node [])
 | [],_=>rfl
 | t::ts,h=>by
  rw [List.any_cons,Bool.or_eq_false_iff] at h
  have e:t=leaf:=(T.beq_iff _ _).mp (by have:=h.1; revert this; cases T.beq t leaf <;> simp)
  rw [List.length_cons,List.replicate_succ,e]
  exact congrArg (leaf::·) (leaves_of h.2)
theorem odd_head {w:T} (h:oddT w=false):∃ r,w=.node (leavesT (sortT w)::r):=by
 have h8:=odd_sort h
 have hh:headOdd w=false:=by
  unfold oddT at h
  split at h
  ·cases h
  ·rename_i z; exact Bool.eq_false_iff.mpr z
 unfold headOdd at hh
 rw [Bool.or_eq_false_iff] at hh
 cases w with
 | node ts =>
  cases ts with
  | nil=>exact absurd (show T.beq (.node []) leaf=true from T.beq_self _) (by rw [hh.1]; decide)
  | cons f r =>
   cases f with
   | node us =>
    have e:=leaves_of (ts:=us) hh.2
    have es:sortT (.node (.node us::r))=min 9 us.length:=rfl
    rw [es] at h8
    refine⟨r,?_⟩
    rw [es,show min 9 us.length=us.length by lia]
    show T.node (.node us::r)=T.node (.node (List.replicate us.length (.node []))::r)
    rw [← e]
theorem loop_of {w:T} (h:oddT w=false) (hs:sortT w=8):w=loopW (loadT w).kids:=by
 obtain⟨r,e⟩:=odd_head h
 rw [hs] at e
 rw [e]
 rfl
theorem fork_of {w:T} (h:oddT w=false) (hs:sortT w=7):w=forkW (ats (loadT w).kids 0).kids (loadT (loadT w)).kids:=by
 obtain⟨r,e⟩:=odd_head h
 rw [hs] at e
 cases r with
 | nil =>
  have hl:loadT w=leaf:=by rw [e]; rfl
  unfold oddT at h
  rw [hs,hl] at h
  split at h
  ·cases h
  ·rw [if_neg (by lia),if_pos rfl] at h
   exact absurd (show T.beq leaf leaf=true from T.beq_self _) (by rw [h]; decide)
 | cons y n =>
  rw [e]
  cases y
  rfl
end Sw
namespace Sw
open PySem PySem.Spec PyProof.Rows L2
theorem snoc_last {α:Type} (xs:List α) (x:α):(xs++[x])[(xs++[x]).length - 1]?=some x:=by simp
theorem snoc_drop {α:Type} (xs:List α) (x:α):(xs++[x]).dropLast=xs:=by simp
theorem plV_cons (c:List Nat) (pl:List (List Nat)):plV (c::pl)=plV pl++[.str (tx c)]:=by unfold plV; rw [List.reverse_cons,List.map_append]; rfl
theorem plV_len (pl:List (List Nat)):(plV pl).length=pl.length:=by unfold plV; rw [List.length_map,List.length_reverse]
def spInit (K:PySem.W.Frag) (C:Addr):Sp:=fun vs H Q _=>∃ (o dx:Addr) (H₀:Hp),vs=[.ref o]∧Same H₀ H∧H₀ o=none∧H o=some (.ins C dx [])∧∀ H',Kt H H'→RdAt K C H₀ H' o [[]] [textC] []→Q .non H'
def spEnter (K:PySem.W.Frag) (C:Addr):Sp:=fun vs H Q _=>∃ (o:Addr) (c:List Nat) (H₀:Hp) (st:List (List T)) (pl:List (List Nat)) (nm:List Nat),vs=[.ref o,.str (tx c)]∧RdAt K C H₀ H o st pl nm∧st.length≤100000∧pl.length≤100000 ∧
 ∀ H',Kt H H'→RdAt K C H₀ H' o ([]::st) (c::pl) nm→Q .non H'
def spLeave (K:PySem.W.Frag) (C:Addr):Sp:=fun vs H Q _=>∃ (o:Addr) (c:List Nat) (H₀:Hp) (r:List T) (st:List (List T)) (pl:List (List Nat)) (nm:List Nat),vs=[.ref o]∧RdAt K C H₀ H o (r::st) (c::pl) nm ∧
 ∀ y H',Kt H H'→RdAt K C H₀ H' o st pl nm→TR K H' (.node r) y→Q y H'
def spAddW (K:PySem.W.Frag) (C:Addr):Sp:=fun vs H Q _=>∃ (o:Addr) (x:V) (t:T) (H₀:Hp) (r:List T) (st:List (List T)) (pl:List (List Nat)) (nm:List Nat),vs=[.ref o,x]∧TR K H t x∧RdAt K C H₀ H o (r::st) pl nm∧r.length≤100000 ∧
 ∀ H',Kt H H'→RdAt K C H₀ H' o ((r++[t])::st) pl nm→Q .non H'
def spBrack (K:PySem.W.Frag) (C:Addr):Sp:=fun vs H Q _=>∃ (o:Addr) (H₀:Hp) (st st':List (List T)) (pl pl':List (List Nat)) (nm:List Nat) (t:T),vs=[.ref o]∧RdAt K C H₀ H o st pl nm ∧
 ((∃ r,st=r::st'∧pl=bodyC::pl'∧t=loopW r∧B 400 1000000 (.node r))∨(∃ n y,st=n::y::st'∧pl=noC::yesC::pl'∧t=forkW y n∧B 400 1000000 (.node n)∧B 400 1000000 (.node y))) ∧
 ∀ x H',Kt H H'→RdAt K C H₀ H' o st' pl' nm→TR K H' t x→Q x H'
def spWhole (K:PySem.W.Frag) (C:Addr):Sp:=fun vs H Q _=>∃ (o:Addr) (H₀:Hp) (r:List T) (pl:List (List Nat)),vs=[.ref o]∧RdAt K C H₀ H o [r] pl []∧∀ y H',Same H₀ H'→TR K H' (.node r) y→Q y H'
end Sw
namespace Sw
open PySem PySem.Spec PyProof.Rows L2
theorem deepL_app (xs ys:List T):T.deepL (xs++ys)=max (T.deepL xs) (T.deepL ys):=by
 induction xs with
 | nil=>rw [List.nil_append,T.deepL_nil]; lia
 | cons x xs ih=>rw [List.cons_append,T.deepL_cons,T.deepL_cons,ih]; lia
theorem B_left {a b:Nat}{xs ys:List T} (h:B a b (.node (xs++ys))):B a b (.node xs):=by
 obtain⟨h1,h2⟩:=h
 rw [T.deep_node,deepL_app] at h1
 rw [T.parts_node,T.partsL_append] at h2
 exact⟨by rw [T.deep_node]; lia,by rw [T.parts_node]; lia⟩
theorem B_right {a b:Nat}{xs ys:List T} (h:B a b (.node (xs++ys))):B a b (.node ys):=by
 obtain⟨h1,h2⟩:=h
 rw [T.deep_node,deepL_app] at h1
 rw [T.parts_node,T.partsL_append] at h2
 exact⟨by rw [T.deep_node]; lia,by rw [T.parts_node]; lia⟩
structure Sz (a:Rst):Prop where
 st:a.st.length≤100000
 pl:a.pl.length≤100000
 each:∀ r∈a.st,B 400 100000 (.node r)
inductive SB:Rst→List (List Nat)→Rst→Prop
 | nil {a:Rst}:SB a [] a
 | cons {a b c:Rst}{p:List Nat}{ps:List (List Nat)} (z:Sz a) (z':Sz b) (h:Stp a p b) (g:SB b ps c):SB a (p::ps) c
theorem SB.append {a b c:Rst}{ps qs:List (List Nat)} (h:SB a ps b) (g:SB b qs c):SB a (ps++qs) c:=by
 induction h with
 | nil=>exact g
 | cons z z' h _ ih=>exact .cons z z' h (ih g)
theorem SB.one {a b:Rst}{p:List Nat} (z:Sz a) (z':Sz b) (h:Stp a p b):SB a [p] b:=.cons z z' h .nil
def AllB (st:List (List T)):Prop:=∀ r∈st,B 400 100000 (.node r)
theorem AllB.cons {r:List T}{st:List (List T)} (h:B 400 100000 (.node r)) (g:AllB st):AllB (r::st):=fun x hx=>by
 rcases List.mem_cons.mp hx with rfl | hx
 ·exact h
 ·exact g x hx
theorem bnil:B 400 100000 (.node []):=B_nil.le (by lia) (by lia)
theorem one_sb {w:T}{p:List Nat} (h:One w p) (s:List T) (st:List (List T)) (pl:List (List Nat)) (hb:B 400 100000 (.node (s++[w]))) (ha:AllB st) (h1:st.length≤50000) (h2:pl.length≤50000):SB ⟨s::st,pl,[]⟩ [p] ⟨(s++[w])::st,pl,[]⟩ :=
 .one ⟨by show st.length+1≤_; lia,by show pl.length≤_; lia,AllB.cons (B_left hb) ha⟩ ⟨by show st.length+1≤_; lia,by show pl.length≤_; lia,AllB.cons hb ha⟩ (.word h)
mutual
theorem wr_sb:∀ {w:T}{ps:List (List Nat)},Wr w ps→∀ (s:List T) (st:List (List T)) (pl:List (List Nat)),B 400 100000 (.node (s++[w]))→AllB st→st.length+3 * w.deep≤50000→pl.length+3 * w.deep≤50000→SB ⟨s::st,pl,[]⟩ ps ⟨(s++[w])::st,pl,[]⟩
 | w,_,.odd h=>fun s st pl hb ha h1 h2=>one_sb (.odd h) s st pl hb ha (by lia) (by lia)
 | w,_,.lay h hs=>fun s st pl hb ha h1 h2=>one_sb (.lay h hs) s st pl hb ha (by lia) (by lia)
 | w,_,.plain h g1 g6=>fun s st pl hb ha h1 h2=>one_sb (.plain h g1 g6) s st pl hb ha (by lia) (by lia)
 | w,_,.fork (ps:=ps) (qs:=qs) h hs hy hn=>fun s st pl hb ha h1 h2=>by
  have e:=fork_of h hs
  have hw:B 400 100000 w:=B_mem (B_right hb) (List.mem_singleton.mpr rfl)
  have hl:=B_kids (B_loadT hw)
  have hbn:=B_kids (B_loadT (B_loadT hw))
  have hd:w.deep=T.deepL w.kids:=deep_eq w
  generalize hyy:(ats (loadT w).kids 0).kids=y at e hy
  generalize hnn:(loadT (loadT w)).kids=n at e hn hbn
  have hk:w.kids=leavesT 7::.node y::n:=by rw [e]; rfl
  have dy:T.deepL y+1≤w.deep:=by
   rw [hd,hk,T.deepL_cons,T.deepL_cons,T.deep_node y]
   lia
  have dn:T.deepL n≤w.deep:=by
   rw [hd,hk,T.deepL_cons,T.deepL_cons]
   lia
  have hby:B 400 100000 (.node y):=by
   have:=B_kids hw
   rw [hk] at this
   exact B_mem this (List.mem_cons_of_mem _ List.mem_cons_self)
  have hbs:=B_left hb
  have a1:=ts_sb hy [] (s::st) (yesC::pl) hby (ha.cons hbs) (by show st.length+1+_≤_; lia) (by show pl.length+1+_≤_; lia)
  have a2:=ts_sb hn [] (y::s::st) (noC::yesC::pl) hbn ((ha.cons hbs).cons hby) (by show st.length+1+1+_≤_; lia) (by show pl.length+1+1+_≤_; lia)
  rw [List.nil_append] at a1 a2
  have z0:Sz ⟨s::st,pl,[]⟩:=⟨by show st.length+1≤_; lia,by show pl.length≤_; lia,ha.cons hbs⟩
  have z1:Sz ⟨s::st,pl,nmC 7⟩:=⟨z0.st,z0.pl,z0.each⟩
  have z2:Sz ⟨[]::s::st,yesC::pl,[]⟩:=⟨by show st.length+1+1≤_; lia,by show pl.length+1≤_; lia,(ha.cons hbs).cons bnil⟩
  have z3:Sz ⟨y::s::st,yesC::pl,[]⟩:=⟨by show st.length+1+1≤_; lia,by show pl.length+1≤_; lia,(ha.cons hbs).cons hby⟩
  have z4:Sz ⟨[]::y::s::st,noC::yesC::pl,[]⟩:=⟨by show st.length+1+1+1≤_; lia,by show pl.length+1+1≤_; lia,((ha.cons hbs).cons hby).cons bnil⟩
  have z5:Sz ⟨n::y::s::st,noC::yesC::pl,[]⟩:=⟨by show st.length+1+1+1≤_; lia,by show pl.length+1+1≤_; lia,((ha.cons hbs).cons hby).cons hbn⟩
  have z6:Sz ⟨(s++[w])::st,pl,[]⟩:=⟨by show st.length+1≤_; lia,by show pl.length≤_; lia,ha.cons hb⟩
  have a0:SB ⟨s::st,pl,[]⟩ [nmC 7,[91]] ⟨[]::s::st,yesC::pl,[]⟩:=.cons z0 z1 (.name (.inl rfl)) (.one z1 z2 .openF)
  have hsF:Stp ⟨n::y::s::st,noC::yesC::pl,[]⟩ [93] ⟨(s++[w])::st,pl,[]⟩:=by rw [e]; exact .shutF
  exact (((a0.append a1).append (.one z3 z4 .bar)).append a2).append (.one z5 z6 hsF)
 | w,_,.loop (ps:=ps) h hs hbd=>fun s st pl hb ha h1 h2=>by
  have e:=loop_of h hs
  have hw:B 400 100000 w:=B_mem (B_right hb) (List.mem_singleton.mpr rfl)
  have hl:=B_kids (B_loadT hw)
  have hd:w.deep=T.deepL w.kids:=deep_eq w
  generalize hnn:(loadT w).kids=n at e hbd hl
  have hk:w.kids=leavesT 8::n:=by rw [e]; rfl
  have dn:T.deepL n≤w.deep:=by
   rw [hd,hk,T.deepL_cons]
   lia
  have hbs:=B_left hb
  have a1:=ts_sb hbd [] (s::st) (bodyC::pl) hl (ha.cons hbs) (by show st.length+1+_≤_; lia) (by show pl.length+1+_≤_; lia)
  rw [List.nil_append] at a1
  have z0:Sz ⟨s::st,pl,[]⟩:=⟨by show st.length+1≤_; lia,by show pl.length≤_; lia,ha.cons hbs⟩
  have z1:Sz ⟨s::st,pl,nmC 8⟩:=⟨z0.st,z0.pl,z0.each⟩
  have z2:Sz ⟨[]::s::st,bodyC::pl,[]⟩:=⟨by show st.length+1+1≤_; lia,by show pl.length+1≤_; lia,(ha.cons hbs).cons bnil⟩
  have z3:Sz ⟨n::s::st,bodyC::pl,[]⟩:=⟨by show st.length+1+1≤_; lia,by show pl.length+1≤_; lia,(ha.cons hbs).cons hl⟩
  have z6:Sz ⟨(s++[w])::st,pl,[]⟩:=⟨by show st.length+1≤_; lia,by show pl.length≤_; lia,ha.cons hb⟩
  have a0:SB ⟨s::st,pl,[]⟩ [nmC 8,[91]] ⟨[]::s::st,bodyC::pl,[]⟩:=.cons z0 z1 (.name (.inr rfl)) (.one z1 z2 .openW)
  have hsF:Stp ⟨n::s::st,bodyC::pl,[]⟩ [93] ⟨(s++[w])::st,pl,[]⟩:=by rw [e]; exact .shutW
  exact (a0.append a1).append (.one z3 z6 hsF)
theorem ts_sb:∀ {ws:List T}{ps:List (List Nat)},Ts ws ps→∀ (s:List T) (st:List (List T)) (pl:List (List Nat)),B 400 100000 (.node (s++ws))→AllB st→st.length+3 * T.deepL ws≤50003→pl.length+3 * T.deepL ws≤50003→SB ⟨s::st,pl,[]⟩ ps ⟨(s++ws)::st,pl,[]⟩
 | _,_,.nil=>fun s st pl _ _ _ _=>by rw [List.append_nil]; exact .nil
 | _,_,.cons (w:=w) (ws:=ws) h g=>fun s st pl hb ha h1 h2=>by
  rw [T.deepL_cons] at h1 h2
  have hb':B 400 100000 (.node ((s++[w])++ws)):=by rw [List.append_assoc]; exact hb
  have a1:=wr_sb h s st pl (B_left hb') ha (by lia) (by lia)
  have a2:=ts_sb g (s++[w]) st pl hb' ha (by lia) (by lia)
  rw [List.append_assoc] at a2
  exact a1.append a2
end
def spTake (K:PySem.W.Frag) (C:Addr):Sp:=fun vs H Q _=>∃ (o:Addr) (p:List Nat) (H₀:Hp) (a b:Rst),vs=[.ref o,.str (tx p)]∧RdAt K C H₀ H o a.st a.pl a.nm∧Stp a p b∧Sz a∧Sz b ∧
 ∀ H',Kt H H'→RdAt K C H₀ H' o b.st b.pl b.nm→Q .non H'
def spWordOf (K:PySem.W.Frag):Sp:=fun vs H Q _=>∃ (p:List Nat) (w:T),vs=[.str (tx p)]∧One w p∧B 400 100000 w∧∀ y H',Same H H'→TR K H' w y→Q y H'
end Sw
namespace Sw
open PySem PySem.Spec PyProof.Rows L2
theorem iteFb {c:Bool}{P Q:Prop} (h:c=false) (q:Q):if c=true then P else Q:=by subst h; exact iteF q
theorem iteTb {c:Bool}{P Q:Prop} (h:c=true) (q:P):if c=true then P else Q:=by subst h; exact iteT q
theorem dec_txs (a b:List Nat) {z:Str} (hz:z=tx b):decide (V.str (tx a)=V.str z)=decide (a=b):=by
 subst hz
 by_cases h:a=b
 ·subst h; rw [decide_eq_true rfl,decide_eq_true rfl]
 ·rw [decide_eq_false h,decide_eq_false (fun z=>h (tx_inj.mp (V.str.inj z)))]
theorem beq_tx (a b:List Nat):(tx a == tx b)=decide (a=b):=by
 by_cases h:a=b
 ·subst h; rw [decide_eq_true rfl]; exact beq_self_eq_true _
 ·rw [decide_eq_false h]; exact beq_eq_false_iff_ne.mpr (fun z=>h (tx_inj.mp z))
theorem in_two (p b c:List Nat):inV (.str (tx p)) [.str (tx b),.str (tx c)]=(decide (b=p) || decide (c=p)):=by
 unfold inV
 rw [List.any_cons,List.any_cons,List.any_nil,Bool.or_false]
 show ((tx b == tx p) || (tx c == tx p))=_
 rw [beq_tx,beq_tx]
theorem one_ne {w:T}{p:List Nat} (h:One w p):p≠[91]∧p≠nmC 7∧p≠nmC 8∧p≠[124]∧p≠[93]:=by
 cases h with
 | odd h=>refine⟨?_,?_,?_,?_,?_⟩ <;> intro z <;> exact absurd (congrArg List.head? z) (by show ¬ some 33=some _; decide)
 | lay h hs=>refine⟨?_,?_,?_,?_,?_⟩ <;> intro z <;> exact absurd (congrArg List.head? z) (by show ¬ some 39=some _; decide)
 | plain h h1 h6 =>
  have:∀ k,1≤k→k≤6→nmC k≠[91]∧nmC k≠nmC 7∧nmC k≠nmC 8∧nmC k≠[124]∧nmC k≠[93]:=by
   intro k a b
   have:k=1∨k=2∨k=3∨k=4∨k=5∨k=6:=by lia
   rcases this with rfl | rfl | rfl | rfl | rfl | rfl <;> decide
  exact this _ h1 h6
end Sw
namespace Sw
open PySem PySem.Spec PyProof.Rows L2
section
variable {K:PySem.W.Frag}{C:Addr}{H₀ H:Hp}{o dx R P l:Addr}{ys:List V}{st:List (List T)}{pl:List (List Nat)}{nm:List Nat}
theorem RdX.base (h:RdX K C H₀ H o dx R P ys st pl nm) (hl:H l=none) (z:HO):RdX K C (upd H₀ l z) (upd H l z) o dx R P ys st pl nm:=by
 have g:=h.grow (same_new hl z)
 have nn:∀ {q:Addr}{w:HO},H q=some w→H₀ q=none→upd H₀ l z q=none:=fun e e0=>by rw [upd_ne (ne_of_none e hl)]; exact e0
 refine⟨g.ob,nn h.ob h.on,nn h.at_ h.pn,⟨nn h.rows.at_ h.rows.new,fun b w e=>?_,g.rows.at_,?_,g.rows.nd⟩,g.at_,g.np⟩
 ·by_cases hb:b=l
  ·subst hb
   rw [upd_same] at e ⊢
   exact e
  ·rw [upd_ne hb] at e ⊢
   exact h.rows.same b w e
 ·exact h.rows.rows.imp fun _ _ ⟨a,xs,e,h1,h2,h3⟩=>⟨a,xs,e,nn h2 h1,(same_new hl z) _ _ h2,h3.mono (.new hl)⟩
end
theorem joinL_one (c:Nat) (l:List Nat):joinL [c] [l]=l:=rfl
theorem parted_eq {c:Nat}:∀ {a b x y:List Nat},c ∉ a→c ∉ b→a++c::x=b++c::y→a=b∧x=y
 | [],[],_,_,_,_,e=>⟨rfl,(List.cons.inj e).2⟩
 | [],d::b,_,_,_,hb,e=>absurd (List.cons.inj e).1 (fun z=>hb (by rw [z]; exact List.mem_cons_self))
 | d::a,[],_,_,ha,_,e=>absurd (List.cons.inj e).1.symm (fun z=>ha (by rw [z]; exact List.mem_cons_self))
 | d::a,f::b,x,y,ha,hb,e=>by
  obtain⟨e1,e2⟩:=List.cons.inj e
  obtain⟨e3,e4⟩:=parted_eq (fun z=>ha (List.mem_cons_of_mem _ z)) (fun z=>hb (List.mem_cons_of_mem _ z)) e2
  exact⟨by rw [e1,e3],e4⟩
theorem join_uniq {c:Nat}:∀ {as bs:List (List Nat)},as≠[]→bs≠[]→(∀ p∈as,c ∉ p)→(∀ p∈bs,c ∉ p)→joinL [c] as=joinL [c] bs→as=bs
 | [],_,h,_,_,_,_=>absurd rfl h
 | _::_,[],_,h,_,_,_=>absurd rfl h
 | [a],[b],_,_,_,_,e=>by rw [joinL_one,joinL_one] at e; rw [e]
 | [a],b::b'::bs,_,_,ha,_,e=>by
  rw [joinL_one,joinL_cons _ _ (by simp)] at e
  exact absurd (show c∈a by rw [e]; simp) (ha a List.mem_cons_self)
 | a::a'::as,[b],_,_,_,hb,e=>by
  rw [joinL_one,joinL_cons _ _ (by simp)] at e
  exact absurd (show c∈b by rw [← e]; simp) (hb b List.mem_cons_self)
 | a::a'::as,b::b'::bs,_,_,ha,hb,e=>by
  rw [joinL_cons [c] a (show a'::as≠[] by simp),joinL_cons [c] b (show b'::bs≠[] by simp),List.append_assoc,List.append_assoc] at e
  obtain⟨e1,e2⟩:=parted_eq (ha a List.mem_cons_self) (hb b List.mem_cons_self) e
  rw [e1,join_uniq (by simp) (by simp) (fun p hp=>ha p (List.mem_cons_of_mem _ hp)) (fun p hp=>hb p (List.mem_cons_of_mem _ hp)) e2]
theorem join_nil {c:Nat}:∀ {as:List (List Nat)},(∀ p∈as,p≠[])→joinL [c] as=[]→as=[]
 | [],_,_=>rfl
 | [a],h,e=>absurd e (h a List.mem_cons_self)
 | a::b::as,_,e=>by
  rw [joinL_cons _ _ (by simp)] at e
  simp at e
mutual
theorem wr_no:∀ t:T,32 ∉ t.wr
 | .node ts=>fun z=>by
  rcases List.mem_cons.mp (show 32∈40::(T.wrL ts++[41]) from z) with z | z
  ·cases z
  ·rcases List.mem_append.mp z with z | z
   ·exact wrL_no ts z
   ·cases List.mem_singleton.mp z
theorem wrL_no:∀ ts:List T,32 ∉ T.wrL ts
 | []=>by show 32 ∉ []; simp
 | t::ts=>fun z=>by
  rcases List.mem_append.mp (show 32∈T.wr t++T.wrL ts from z) with z | z
  ·exact wr_no t z
  ·exact wrL_no ts z
end
def okP (p:List Nat):Prop:=p≠[]∧32 ∉ p
theorem nm_ok {k:Nat} (h:k≤8):okP (nmC k):=by
 have:k=0∨k=1∨k=2∨k=3∨k=4∨k=5∨k=6∨k=7∨k=8:=by lia
 rcases this with rfl | rfl | rfl | rfl | rfl | rfl | rfl | rfl | rfl <;> exact⟨by decide,by decide⟩
theorem all_app {ps qs:List (List Nat)} (h:∀ p∈ps,okP p) (g:∀ p∈qs,okP p):∀ p∈ps++qs,okP p:=fun p hp=>by
 rcases List.mem_append.mp hp with z | z
 ·exact h p z
 ·exact g p z
theorem all_one {l:List Nat} (h:okP l):∀ p∈[l],okP p:=fun p hp=>by rw [List.mem_singleton.mp hp]; exact h
mutual
theorem wr_ok:∀ {w:T}{ps:List (List Nat)},Wr w ps→∀ p∈ps,okP p
 | w,_,.odd h=>all_one ⟨by simp,fun z=>by
   rcases List.mem_cons.mp z with z | z
   ·cases z
   ·exact wr_no _ z⟩
 | w,_,.lay h hs=>all_one ⟨by simp,fun z=>by
   rcases List.mem_cons.mp z with z | z
   ·cases z
   ·exact wr_no _ z⟩
 | w,_,.plain h h1 h6=>all_one (nm_ok (by lia))
 | w,_,.fork h hs hy hn=>all_app (all_app (all_app (all_app (all_app (all_one (nm_ok (by lia))) (all_one (l:=[91]) ⟨by decide,by decide⟩)) (ts_ok hy)) (all_one ⟨by decide,by decide⟩)) (ts_ok hn)) (all_one ⟨by decide,by decide⟩)
 | w,_,.loop h hs hb=>all_app (all_app (all_app (all_one (nm_ok (by lia))) (all_one (l:=[91]) ⟨by decide,by decide⟩)) (ts_ok hb)) (all_one ⟨by decide,by decide⟩)
theorem ts_ok:∀ {ws:List T}{ps:List (List Nat)},Ts ws ps→∀ p∈ps,okP p
 | _,_,.nil=>fun _ h=>by simp at h
 | _,_,.cons h g=>all_app (wr_ok h) (ts_ok g)
end
def spPieces (K:PySem.W.Frag):Sp:=fun vs H Q _=>∃ ps:List (List Nat),vs=[.str (tx (joinL [32] ps))]∧(∀ p∈ps,okP p)∧(joinL [32] ps).length≤8000000∧∀ D,H D=none→Q (.ref D) (upd H D (.lst (ps.map fun p=>V.str (tx p))))
def spReadX (K:PySem.W.Frag):Sp:=fun vs H Q _=>∃ ws ps,vs=[.str (tx (joinL [32] ps))]∧Ts ws ps∧B 400 80000 (.node ws)∧∀ y H',Same H H'→TR K H' (.node ws) y→Q y H'
end Sw
namespace Sw
open PySem PySem.Spec PyProof.Rows L2
section
variable {X:Cx}
def rIndex (K:PySem.W.Frag):V→List V→Hp→VK→Prop:=fun x vs H Q=>∃ (a:Addr) (cs:List (List Nat)) (p:List Nat) (j:Nat),x=.ref a∧vs=[.str (tx p)]∧SqT K H a (cs.map fun c=>V.str (tx c))∧cs[j]?=some p∧(∀ m,m<j→cs[m]?≠some p)∧Q (.int (j:Nat)) H
theorem mt_index:MtM X "tuple.index" (rIndex X.K):=by
 intro pins s σ H x vs v us Q I rx rv h
 obtain⟨a,cs,p,j,rfl,rfl,hq,hj,hn,q⟩:=h
 cases rx
 obtain⟨u,rfl,ru⟩:=rv.one
 obtain⟨its,r,ht,hz⟩:=I.tuple hq
 obtain⟨⟨cls,dd,data,sl⟩,ho,hc,n,hd⟩:=id ht
 simp only at hc hd
 subst hc hd
 have flat:∀ l:List (List Nat),(l.map fun c=>V.str (tx c)).all flatV=true:=fun l=>by
  rw [List.all_eq_true]
  intro y hy
  obtain⟨c,_,rfl⟩:=List.mem_map.mp hy
  rfl
 have hlen:=r.length
 rw [List.length_map] at hlen
 have hjl:j<cs.length:=(List.getElem?_eq_some_iff.mp hj).1
 have at_:∀ m (hm:m<its.toArray.size),eqU (.str (tx p)) its.toArray[m]=decide (cs[m]?=some p):=fun m hm=>by
  have hm':m<cs.length:=by rw [List.size_toArray] at hm; lia
  obtain⟨u',e1,ru'⟩:=r.get (i:=m) (x:=.str (tx cs[m])) (by rw [List.getElem?_map,List.getElem?_eq_getElem hm']; rfl)
  have e2:its.toArray[m]=u':=by
   have:=List.getElem?_eq_some_iff.mp e1
   simpa using this.2
  rw [e2,eqU_of ru' rfl,List.getElem?_eq_getElem hm']
  show (tx cs[m] == tx p)=_
  rw [beq_tx]
  by_cases z:cs[m]=p
  ·rw [decide_eq_true z,decide_eq_true (congrArg some z)]
  ·rw [decide_eq_false z,decide_eq_false (fun y=>z (Option.some.inj y))]
 have hjs:j<its.toArray.size:=by rw [List.size_toArray]; lia
 refine call_meets F.slot_tuple_index ⟨_,ho,rfl⟩ F.entry_tuple_index (F.args_tuple_index_2 _ _)
  (tup_indexAt a its.toArray n dd sl u (eqU (.str (tx p))) j hjs (by rw [at_ j hjs,hj]; exact decide_eq_true rfl) (fun m hm hlt=>by rw [at_ m hm]; exact decide_eq_false (hn m hlt))) ⟨ho,fun y hy=>?_,?_⟩
 ·exact mem_eqAt ru rfl r (flat cs) y (by simpa using hy)
 ·exact⟨.int (j:Nat),H,I.tok _,⟨_,rfl⟩,q⟩
theorem ps_tryOk {body:List Stmt}{h0:ExceptHandler}{hs:List ExceptHandler}{pos:Pos}{ts:TS} (hb:∀ E,QSs (X.wish E) body ts):PS X (.Try body (h0::hs) [] [] pos) ts:=by
 intro pins s σ H D I h
 refine wpAny_Try_except ?_
 generalize (fun (e:Value) (s₁:Shared)=>wpAny (model X.prog X.w) X.A (noteFrame e X.env) (fun _ s₂=>wpAny (model X.prog X.w) X.A (setFlight e none) (fun _ s₃=>wpAny (model X.prog X.w) X.A (handleBy e X.env (h0::hs)) (SP X pins D) X.xe s₃) X.xe s₂) X.xe s₁)=EE
 refine thn ((hb EE).run pins s σ H D (I.wish EE) h) fun f s1 hsp=>?_
 cases f with
 | next =>
  obtain⟨σ',H',I',q⟩:=hsp
  exact wpAny_execs_nil ⟨σ',H',I'.unwish,q⟩
 | brk =>
  obtain⟨σ',H',I',q⟩:=hsp
  exact⟨σ',H',I'.unwish,q⟩
 | cont =>
  obtain⟨σ',H',I',q⟩:=hsp
  exact⟨σ',H',I'.unwish,q⟩
 | ret u =>
  obtain⟨v,σ',H',I',q⟩:=hsp
  exact⟨v,σ',H',I'.unwish,q⟩
theorem qs_tryOk {body:List Stmt}{h0:ExceptHandler}{hs:List ExceptHandler}{pos:Pos}{ts:TS} (hb:∀ E,QSs (X.wish E) body ts):QS X (.Try body (h0::hs) [] [] pos) ts:=⟨ps_tryOk hb⟩
end
def spTreeOf (K:PySem.W.Frag):Sp:=fun vs H Q _=>∃ t:T,vs=[.str (tx t.wr)]∧t.parts≤100000∧∀ y H',Same H H'→TR K H' t y→Q y H'
end Sw
namespace Sw
open PySem PySem.Spec PyProof.Rows L2
def sixV:List V:=[1,2,3,4,5,6].map fun k=>V.str (tx (nmC k))
theorem cut17:cutV namesV (some 1) (some 7)=sixV:=by
 unfold cutV
 rw [show (some (1:Int))=some ((1:Nat):Int) from rfl,show (some (7:Int))=some ((7:Nat):Int) from rfl,HT.sIx_nat,HT.sIx_nat]
 rfl
theorem in_six (p:List Nat):inV (.str (tx p)) sixV=[1,2,3,4,5,6].any fun k=>decide (nmC k=p):=by
 unfold inV sixV
 rw [List.any_map]
 refine congrArg (fun f=>List.any [1,2,3,4,5,6] f) (funext fun k=>?_)
 show (tx (nmC k) == tx p)=_
 rw [beq_tx]
theorem six_yes {k:Nat} (h1:1≤k) (h6:k≤6):([1,2,3,4,5,6].any fun j=>decide (nmC j=nmC k))=true:=by
 have:k=1∨k=2∨k=3∨k=4∨k=5∨k=6:=by lia
 rcases this with rfl | rfl | rfl | rfl | rfl | rfl <;> decide
theorem six_no {c:Nat}{l:List Nat} (h:c<97):([1,2,3,4,5,6].any fun j=>decide (nmC j=c::l))=false:=by
 rw [List.any_eq_false]
 intro k hk
 rw [decide_eq_true_eq]
 intro z
 have e:=congrArg List.head? z
 have e:(nmC k).head?=some c:=e
 simp only [List.mem_cons,List.not_mem_nil,or_false] at hk
 rcases hk with rfl | rfl | rfl | rfl | rfl | rfl <;> (have:=Option.some.inj e; lia)
theorem names_map:namesV=((List.range 9).map nmC).map fun c=>V.str (tx c):=by unfold namesV; rw [List.map_map]; rfl
theorem nm_first {k:Nat} (h:k≤8):((List.range 9).map nmC)[k]?=some (nmC k)∧∀ m,m<k→((List.range 9).map nmC)[m]?≠some (nmC k):=by
 have:k=0∨k=1∨k=2∨k=3∨k=4∨k=5∨k=6∨k=7∨k=8:=by lia
 rcases this with rfl | rfl | rfl | rfl | rfl | rfl | rfl | rfl | rfl <;> exact⟨rfl,by decide⟩
theorem lay_of {w:T} (h:oddT w=false) (hs:sortT w=0):w=wordT 0 (loadT w).kids:=by
 obtain⟨r,e⟩:=odd_head h
 rw [hs] at e
 rw [e]
 rfl
theorem plain_of {w:T} (h:oddT w=false) (h1:1≤sortT w) (h6:sortT w≤6):w=wordT (sortT w) []:=by
 obtain⟨r,e⟩:=odd_head h
 have hl:loadT w=leaf:=by
  unfold oddT at h
  split at h
  ·cases h
  ·rw [if_neg (by lia),if_neg (by lia),Bool.or_eq_false_iff] at h
   refine (T.beq_iff _ _).mp ?_
   have:=h.2
   revert this
   cases T.beq (loadT w) leaf <;> simp
 have er:r=[]:=by
  have:loadT w=.node r:=by rw [e]; rfl
  rw [this] at hl
  exact T.node.inj hl
 rw [er] at e
 exact e
theorem cut_tail (c:Nat) (l:List Nat):cutL (c::l) (some 1) none=l:=by
 unfold cutL
 rw [show (some (1:Int))=some ((1:Nat):Int) from rfl,HT.sIx_nat]
 show ((c::l).drop (min 1 (l.length+1))).take (HT.sIx (c::l).length (c::l).length none - _)=l
 have e1:min 1 (l.length+1)=1:=by lia
 rw [e1]
 show l.take (l.length+1 - min 1 (l.length+1))=l
 exact List.take_of_length_le (by lia)
end Sw
namespace Sw75
open PySem PySem.Spec PyProof.Rows L2 Sw
def top (i:Nat):Stmt:=PySem.Challenge.pw_selfword_k75_the_selfteller.main.body.getD i (.Pass ⟨0,0,0,0⟩)
abbrev s_first:Stmt:=top 1
abbrev s_rest:Stmt:=top 2
abbrev s_parts:Stmt:=top 3
abbrev s_sort_of:Stmt:=top 16
abbrev s_load_of:Stmt:=top 17
abbrev s_lay:Stmt:=top 18
abbrev s_plain:Stmt:=top 19
abbrev s_fork:Stmt:=top 20
abbrev s_loop:Stmt:=top 21
abbrev s_plains:Stmt:=top 22
abbrev s_begin:Stmt:=top 34
abbrev s_place_of:Stmt:=top 35
abbrev s_cost:Stmt:=top 36
abbrev s_selfmade:Stmt:=top 38
abbrev s_selfmaker:Stmt:=top 39
abbrev s_lay_made:Stmt:=top 40
abbrev s_selfteller:Stmt:=top 41
abbrev s_show_tree:Stmt:=top 47
abbrev s_read_tree:Stmt:=top 48
abbrev s_show:Stmt:=top 50
abbrev s_spelled:Stmt:=top 51
abbrev s_odd:Stmt:=top 52
abbrev s_read:Stmt:=top 54
abbrev s_pieces_of:Stmt:=top 55
abbrev s_word_of:Stmt:=top 56
abbrev s_tree_of:Stmt:=top 57
abbrev s_first_of:Stmt:=top 62
abbrev s_rest_of:Stmt:=top 63
abbrev s_later:Stmt:=top 64
abbrev s_unfronted:Stmt:=top 65
abbrev s_parts_within:Stmt:=top 66
abbrev s_as_tree:Stmt:=top 67
abbrev s_run:Stmt:=top 69
abbrev s_walked:Stmt:=top 70
abbrev s_work:Stmt:=top 75
abbrev s__law_deck:Stmt:=top 77
abbrev s__law_next:Stmt:=top 78
abbrev s__law_tree:Stmt:=top 79
abbrev s__law_leaves:Stmt:=top 80
abbrev s__law_trees:Stmt:=top 81
abbrev s__law_whole:Stmt:=top 82
abbrev s__law_tells:Stmt:=top 83
abbrev s_law:Stmt:=top 84
theorem sc_first:FnScope ["tree"] ["tree"] (defScope s_first):=⟨rfl,rfl,rfl,by decide +kernel,rfl,by decide +kernel,by decide +kernel⟩
theorem sc_rest:FnScope ["tree"] ["tree"] (defScope s_rest):=⟨rfl,rfl,rfl,by decide +kernel,rfl,by decide +kernel,by decide +kernel⟩
theorem sc_parts:FnScope ["tree","waiting","counted","part"] ["tree"] (defScope s_parts):=⟨rfl,rfl,rfl,by decide +kernel,rfl,by decide +kernel,by decide +kernel⟩
theorem sc_sort_of:FnScope ["word"] ["word"] (defScope s_sort_of):=⟨rfl,rfl,rfl,by decide +kernel,rfl,by decide +kernel,by decide +kernel⟩
theorem sc_load_of:FnScope ["word"] ["word"] (defScope s_load_of):=⟨rfl,rfl,rfl,by decide +kernel,rfl,by decide +kernel,by decide +kernel⟩
theorem sc_lay:FnScope ["tree"] ["tree"] (defScope s_lay):=⟨rfl,rfl,rfl,by decide +kernel,rfl,by decide +kernel,by decide +kernel⟩
theorem sc_plain:FnScope ["sort"] ["sort"] (defScope s_plain):=⟨rfl,rfl,rfl,by decide +kernel,rfl,by decide +kernel,by decide +kernel⟩
theorem sc_fork:FnScope ["yes","no"] ["yes","no"] (defScope s_fork):=⟨rfl,rfl,rfl,by decide +kernel,rfl,by decide +kernel,by decide +kernel⟩
theorem sc_loop:FnScope ["body"] ["body"] (defScope s_loop):=⟨rfl,rfl,rfl,by decide +kernel,rfl,by decide +kernel,by decide +kernel⟩
theorem sc_plains:FnScope ["names"] ["names"] (defScope s_plains):=⟨rfl,rfl,rfl,by decide +kernel,rfl,by decide +kernel,by decide +kernel⟩
theorem sc_begin:FnScope ["text","tree"] ["text","tree"] (defScope s_begin):=⟨rfl,rfl,rfl,by decide +kernel,rfl,by decide +kernel,by decide +kernel⟩
theorem sc_place_of:FnScope ["sort","top"] ["sort","top"] (defScope s_place_of):=⟨rfl,rfl,rfl,by decide +kernel,rfl,by decide +kernel,by decide +kernel⟩
theorem sc_cost:FnScope ["tally"] ["tally"] (defScope s_cost):=⟨rfl,rfl,rfl,by decide +kernel,rfl,by decide +kernel,by decide +kernel⟩
theorem sc_selfmade:FnScope ["body"] ["body"] (defScope s_selfmade):=⟨rfl,rfl,rfl,by decide +kernel,rfl,by decide +kernel,by decide +kernel⟩
theorem sc_selfmaker:FnScope [] [] (defScope s_selfmaker):=⟨rfl,rfl,rfl,by decide +kernel,rfl,by decide +kernel,by decide +kernel⟩
theorem sc_lay_made:FnScope [] [] (defScope s_lay_made):=⟨rfl,rfl,rfl,by decide +kernel,rfl,by decide +kernel,by decide +kernel⟩
theorem sc_selfteller:FnScope [] [] (defScope s_selfteller):=⟨rfl,rfl,rfl,by decide +kernel,rfl,by decide +kernel,by decide +kernel⟩
theorem sc_show_tree:FnScope ["tree","signs","waiting","part"] ["tree"] (defScope s_show_tree):=⟨rfl,rfl,rfl,by decide +kernel,rfl,by decide +kernel,by decide +kernel⟩
theorem sc_read_tree:FnScope ["text","rows","sign","items"] ["text"] (defScope s_read_tree):=⟨rfl,rfl,rfl,by decide +kernel,rfl,by decide +kernel,by decide +kernel⟩
theorem sc_show:FnScope ["text","pieces","waiting","part"] ["text"] (defScope s_show):=⟨rfl,rfl,rfl,by decide +kernel,rfl,by decide +kernel,by decide +kernel⟩
theorem sc_spelled:FnScope ["word","sort","load"] ["word"] (defScope s_spelled):=⟨rfl,rfl,rfl,by decide +kernel,rfl,by decide +kernel,by decide +kernel⟩
theorem sc_odd:FnScope ["word","sort"] ["word"] (defScope s_odd):=⟨rfl,rfl,rfl,by decide +kernel,rfl,by decide +kernel,by decide +kernel⟩
theorem sc_read:FnScope ["signs","reading","piece"] ["signs"] (defScope s_read):=⟨rfl,rfl,rfl,by decide +kernel,rfl,by decide +kernel,by decide +kernel⟩
theorem sc_pieces_of:FnScope ["signs"] ["signs"] (defScope s_pieces_of):=⟨rfl,rfl,rfl,by decide +kernel,rfl,by decide +kernel,by decide +kernel⟩
theorem sc_word_of:FnScope ["piece","word"] ["piece"] (defScope s_word_of):=⟨rfl,rfl,rfl,by decide +kernel,rfl,by decide +kernel,by decide +kernel⟩
theorem sc_tree_of:FnScope ["signs"] ["signs"] (defScope s_tree_of):=⟨rfl,rfl,rfl,by decide +kernel,rfl,by decide +kernel,by decide +kernel⟩
theorem sc_first_of:FnScope ["row"] ["row"] (defScope s_first_of):=⟨rfl,rfl,rfl,by decide +kernel,rfl,by decide +kernel,by decide +kernel⟩
theorem sc_rest_of:FnScope ["row"] ["row"] (defScope s_rest_of):=⟨rfl,rfl,rfl,by decide +kernel,rfl,by decide +kernel,by decide +kernel⟩
theorem sc_later:FnScope ["tree","place"] ["tree","place"] (defScope s_later):=⟨rfl,rfl,rfl,by decide +kernel,rfl,by decide +kernel,by decide +kernel⟩
theorem sc_unfronted:FnScope ["row"] ["row"] (defScope s_unfronted):=⟨rfl,rfl,rfl,by decide +kernel,rfl,by decide +kernel,by decide +kernel⟩
theorem sc_parts_within:FnScope ["row","most","waiting","counted","part"] ["row","most"] (defScope s_parts_within):=⟨rfl,rfl,rfl,by decide +kernel,rfl,by decide +kernel,by decide +kernel⟩
theorem sc_as_tree:FnScope ["row","ahead","taken","part","tree"] ["row"] (defScope s_as_tree):=⟨rfl,rfl,rfl,by decide +kernel,rfl,by decide +kernel,by decide +kernel⟩
theorem sc_run:FnScope ["text","tree","budget","walk","steps"] ["text","tree","budget"] (defScope s_run):=⟨rfl,rfl,rfl,by decide +kernel,rfl,by decide +kernel,by decide +kernel⟩
theorem sc_walked:FnScope ["stand","budget","walk"] ["stand","budget"] (defScope s_walked):=⟨rfl,rfl,rfl,by decide +kernel,rfl,by decide +kernel,by decide +kernel⟩
theorem sc_work:FnScope ["step","load","stack","item","row"] ["step","load","stack"] (defScope s_work):=⟨rfl,rfl,rfl,by decide +kernel,rfl,by decide +kernel,by decide +kernel⟩
theorem sc__law_deck:FnScope ["_law_script","_law_cells","_law_deck_here","_law_k","_law_cell"] ["_law_script"] (defScope s__law_deck):=⟨rfl,rfl,rfl,by decide +kernel,rfl,by decide +kernel,by decide +kernel⟩
theorem sc__law_next:FnScope ["_law_deck_here","_law_many"] ["_law_deck_here","_law_many"] (defScope s__law_next):=⟨rfl,rfl,rfl,by decide +kernel,rfl,by decide +kernel,by decide +kernel⟩
theorem sc__law_tree:FnScope ["_law_deck_here","_law_deep"] ["_law_deck_here","_law_deep"] (defScope s__law_tree):=⟨rfl,rfl,rfl,by decide +kernel,rfl,by decide +kernel,by decide +kernel⟩
theorem sc__law_leaves:FnScope ["_law_many"] ["_law_many"] (defScope s__law_leaves):=⟨rfl,rfl,rfl,by decide +kernel,rfl,by decide +kernel,by decide +kernel⟩
theorem sc__law_trees:FnScope ["_law_found"] ["_law_found"] (defScope s__law_trees):=⟨rfl,rfl,rfl,by decide +kernel,rfl,by decide +kernel,by decide +kernel⟩
theorem sc__law_whole:FnScope ["_law_found"] ["_law_found"] (defScope s__law_whole):=⟨rfl,rfl,rfl,by decide +kernel,rfl,by decide +kernel,by decide +kernel⟩
theorem sc__law_tells:FnScope ["_law_tree_here","_law_found"] ["_law_tree_here"] (defScope s__law_tells):=⟨rfl,rfl,rfl,by decide +kernel,rfl,by decide +kernel,by decide +kernel⟩
theorem sc_law:FnScope ["_law_script","_law_deck_here","_law_tree_here","_law_text"] ["_law_script"] (defScope s_law):=⟨rfl,rfl,rfl,by decide +kernel,rfl,by decide +kernel,by decide +kernel⟩
end Sw75
namespace Sw75
open PySem PySem.Spec PyProof.Rows L2 Sw
section
variable {P:Program}{w:World}{K:PySem.W.Frag}{mg:Str→Option Value}{base:Heap}{f:Addr}{fd:FuncData}
def nameZs:List Str:=[PySem.Str.ofString "lay",PySem.Str.ofString "drop",PySem.Str.ofString "twin",PySem.Str.ofString "swap",PySem.Str.ofString "front",PySem.Str.ofString "part",PySem.Str.ofString "turn",PySem.Str.ofString "fork",PySem.Str.ofString "while"]
def nameZ (k:Nat):Str:=nameZs.getD k (PySem.Str.ofString "")
theorem nz_at:∀ k:Nat,k≤8→nameZs[k]?=some (nameZ k)∧∀ m,m<k→nameZs[m]?≠some (nameZ k):=by decide +kernel
def spTxt (K:PySem.W.Frag) (t:List T):Sp:=fun vs H Q _=>vs=[]∧∀ y H',Same H H'→TR K H' (.node t) y→Q y H'
def spPlains (K:PySem.W.Frag):Sp:=fun vs H Q _=>∃ (z:Str) (ks:List Nat),vs=[.str z]∧z.length≤1000∧((Builtin.Str.spaceWords z (z.length+1)).length≤1000∧(Txt.words z).length≤1000)∧Txt.words z=ks.map nameZ∧(∀ k∈ks,1≤k∧k≤6)∧∀ y H',Same H H'→TR K H' (.node (ks.map W)) y→Q y H'
def spSelfmade (K:PySem.W.Frag):Sp:=fun vs H Q _=>∃ x b,vs=[x]∧TR K H (.node b) x∧B 390 900000 (.node b)∧∀ y H',Same H H'→TR K H' (.node (wordT 0 b::b)) y→Q y H'
def tTeller:List T:=wordT 0 (tMaker [])::tMaker []
theorem run_teller (u:T):Wlk ([.node tTeller],[u]) 6 (5+(T.node (tMaker [])).parts) ([],[.node tTeller,u]) :=
 (w_lay (w_maker (w_shut .nil))).to rfl (by show 0+1+3+(T.node (tMaker [])).parts+1=_; lia)
theorem teller_small:B 9 100 (.node tTeller)∧(T.node (tMaker [])).parts≤100:=⟨⟨by decide +kernel,by decide +kernel⟩,by decide +kernel⟩
theorem ok_plains (m_tuple:mg "tuple"=none) {a_NAMES:Addr} (m_NAMES:mg "NAMES"=some (.ref a_NAMES)) (q_NAMES:∀ H,SqT K H a_NAMES [.str (PySem.Str.ofString "lay"),.str (PySem.Str.ofString "drop"),.str (PySem.Str.ofString "twin"),.str (PySem.Str.ofString "swap"),.str (PySem.Str.ofString "front"),.str (PySem.Str.ofString "part"),.str (PySem.Str.ofString "turn"),.str (PySem.Str.ofString "fork"),.str (PySem.Str.ofString "while")])
  {a_plain:Addr}{d_plain:FuncData} (F_plain:Fun K "plain" "plain" s_plain a_plain d_plain) (G_plain:FnOk P w K mg base CX0 31 a_plain d_plain ["sort"] (spPlain K)) (b_plain:Binds K d_plain ["sort"] []) (m_plain:mg "plain"=some (.ref a_plain))
  (t_NAMES:∃ ob,K.lookup a_NAMES=some ob∧ob.cls=.type "tuple"∧ob.dict=none)
  (F:Fun K "plains" "plains" s_plains f fd):FnOk P w K mg base CX0 32 f fd ["names"] (spPlains K):=by
 refine okQ F sc_plains (fun vs H Q E h=>?_) (fun cdv A outer s H vs Q E hr h=>?_)
 ·obtain⟨z,ks,rfl,_⟩:=h
  rfl
 obtain⟨z,ks,rfl,hz1,hz2,hw,hk,q⟩:=h
 refine⟨_,(qss_one (qs_ret (qe_callTy call_tuple_of rfl m_tuple bt_tuple (qa_cons (qe_lc rfl (lc_free (fr:=[]) (js:=[]) (sc:=defScope s_plains) rfl rfl rfl (by decide +kernel) (by decide +kernel) (by decide +kernel) (by decide +kernel) (by exact trivial) (by decide +kernel) (fun y hy=>cell_has hy)) (qi_list (qe_bm0 PySem.F.plainAttrs_str PySem.F.slot_str_split PySem.F.type_str_split mt_split0 (qv 0))) (fun _ _ _ _ _=>(qe_call G_plain hr rfl m_plain F_plain.kp b_plain .nil pass0 (qa_cons (qe_bmK (K:=K) rfl (qe_bm PySem.F.plainAttrs_tuple PySem.F.slot_tuple_index PySem.F.type_tuple_index (mt_indexZK (K:=K) rfl) (qe_glob (v:=.ref a_NAMES) rfl m_NAMES rfl) (qa_cons (qv 0) qa_nil))) qa_nil)))) qa_nil)))),?_⟩
 have hwl:(Txt.words z).length=ks.length:=by rw [hw,List.length_map]
 have hwn:(Txt.words z).length≤1000:=hz2.2
 refine⟨_,rfl,rfl,z,rfl,rfl,hz1,hz2.1,hz2.2,fun D0 g0=>?_⟩
 refine⟨D0,rfl,⟨_,SqL.of upd_same⟩,?_⟩
 have S0:=same_new g0 (.lst ((Txt.words z).map V.str))
 refine lc_listI (K:=K) (xs:=(Txt.words z).map V.str) (fun D i ys H'=>D≠D0∧H D=none∧Same H H'∧H' D0=some (.lst ((Txt.words z).map V.str))∧H' D=some (.lst ys)∧TRs K H' ((ks.take i).map W) ys∧i≤ks.length) (small (by rw [List.length_map]; lia)) (fun D hD=>?_) (fun D i ys H' j=>⟨j.2.2.2.2.1,?_,SqL.of j.2.2.2.1⟩) (fun D i x ys H' R hx j hR=>?_) (fun D ys H' j=>?_)
 ·have hne:D≠D0:=fun e=>by rw [e,upd_same] at hD; cases hD
  exact⟨hne,S0.free hD,S0.trans (same_new hD _),by rw [upd_ne hne.symm]; exact upd_same,upd_same,TRs_nil.mpr rfl,Nat.zero_le _⟩
 ·rw [j.2.2.2.2.2.1.length,List.length_map,List.length_take]
  exact Nat.min_eq_left j.2.2.2.2.2.2
 ·obtain⟨hne,hD,S,h0,h1,ht,hi⟩:=j
  rw [hw,List.map_map,List.getElem?_map] at hx
  cases hh:ks[i]? with
  | none=>rw [hh] at hx; cases hx
  | some k =>
   rw [hh] at hx
   cases hx
   have hk1:=hk k (List.mem_of_getElem? hh)
   obtain⟨e1,e2⟩:=nz_at k (by lia)
   refine⟨.inr (.inl ⟨rfl,t_NAMES⟩),_,rfl,a_NAMES,nameZs,_,k,rfl,rfl,q_NAMES _,e1,e2,k,rfl,hk1.1,hk1.2,fun y H3 S3 t3=>?_⟩
   refine hR _ _ (S3 _ _ h1) ⟨hne,hD,same_upd (S.trans S3) hD,by rw [upd_ne hne.symm]; exact S3 _ _ h0,upd_same,?_,(List.getElem?_eq_some_iff.mp hh).1⟩
   rw [List.take_succ,hh,List.map_append]
   exact TRs.append ((ht.mono (.of S3)).mono (Kt.lst (S3 _ _ h1))) (TRs_cons.mpr ⟨y,[],rfl,t3.mono (Kt.lst (S3 _ _ h1)),TRs_nil.mpr rfl⟩)
 ·obtain⟨hne,hD,S,h0,h1,ht,hi⟩:=j
  rw [List.length_map,hwl,List.take_of_length_le (Nat.le_refl _)] at ht
  refine⟨D,ys,rfl,.inl ⟨SqL.of h1,fun p hp=>?_⟩⟩
  obtain⟨S5,t5⟩:=tupN (K:=K) hp ht
  exact q _ _ (S.trans S5) t5
theorem ok_lay_made
  {a_lay:Addr}{d_lay:FuncData} (F_lay:Fun K "lay" "lay" s_lay a_lay d_lay) (G_lay:FnOk P w K mg base CX0 32 a_lay d_lay ["tree"] (spLay K)) (b_lay:Binds K d_lay ["tree"] []) (m_lay:mg "lay"=some (.ref a_lay))
  {a_plains:Addr}{d_plains:FuncData} (F_plains:Fun K "plains" "plains" s_plains a_plains d_plains) (G_plains:FnOk P w K mg base CX0 32 a_plains d_plains ["names"] (spPlains K)) (b_plains:Binds K d_plains ["names"] []) (m_plains:mg "plains"=some (.ref a_plains))
  (F:Fun K "lay_made" "lay_made" s_lay_made f fd):FnOk P w K mg base CX0 33 f fd [] (spTxt K (tLayMade [])):=by
 refine okQ F sc_lay_made (fun vs H Q E h=>?_) (fun cdv A outer s H vs Q E hr h=>?_)
 ·obtain⟨rfl,_⟩:=h
  rfl
 obtain⟨rfl,q⟩:=h
 refine⟨_,(qss_one (qs_ret (qe_op op_catTA (qe_tup (qa_cons (qe_call G_lay hr rfl m_lay F_lay.kp b_lay .nil pass0 (qa_cons (qe_tup qa_nil) qa_nil)) qa_nil)) (qe_call G_plains hr rfl m_plains F_plains.kp b_plains .nil pass0 (qa_cons qe_str qa_nil))))),?_⟩
 refine⟨Nat.zero_le _,fun p1 g1=>?_⟩
 obtain⟨S1,t1⟩:=tupN (K:=K) (ts:=[]) g1 (TRs_nil.mpr rfl)
 refine⟨_,leaf,rfl,t1,by decide,by decide,fun y2 H2 S2 t2=>⟨(by show 1≤sizeLine; decide),fun p3 g3=>?_⟩⟩
 obtain⟨S3,t3⟩:=tupN (K:=K) g3 (trs1 t2)
 refine⟨_,[4],rfl,by decide +kernel,by decide +kernel,by decide +kernel,by decide,fun y4 H4 S4 t4=>nCat (t3.mono (.of S4)) t4 (small (by decide)) (fun y5 H5 S5 t5=>q _ _ (S1.trans (S2.trans (S3.trans (S4.trans S5)))) t5)⟩
theorem ok_selfmaker
  {a_plains:Addr}{d_plains:FuncData} (F_plains:Fun K "plains" "plains" s_plains a_plains d_plains) (G_plains:FnOk P w K mg base CX0 33 a_plains d_plains ["names"] (spPlains K)) (b_plains:Binds K d_plains ["names"] []) (m_plains:mg "plains"=some (.ref a_plains))
  {a_lay_made:Addr}{d_lay_made:FuncData} (F_lay_made:Fun K "lay_made" "lay_made" s_lay_made a_lay_made d_lay_made) (G_lay_made:FnOk P w K mg base CX0 33 a_lay_made d_lay_made [] (spTxt K (tLayMade []))) (b_lay_made:Binds K d_lay_made [] []) (m_lay_made:mg "lay_made"=some (.ref a_lay_made))
  (F:Fun K "selfmaker" "selfmaker" s_selfmaker f fd):FnOk P w K mg base CX0 34 f fd [] (spTxt K (tMaker [])):=by
 refine okQ F sc_selfmaker (fun vs H Q E h=>?_) (fun cdv A outer s H vs Q E hr h=>?_)
 ·obtain⟨rfl,_⟩:=h
  rfl
 obtain⟨rfl,q⟩:=h
 refine⟨_,(qss_one (qs_ret (qe_op op_catTA (qe_op op_catTA (qe_call G_plains hr rfl m_plains F_plains.kp b_plains .nil pass0 (qa_cons qe_str qa_nil)) (qe_call0 G_lay_made hr rfl m_lay_made F_lay_made.kp b_lay_made .nil pass0)) (qe_call G_plains hr rfl m_plains F_plains.kp b_plains .nil pass0 (qa_cons qe_str qa_nil))))),?_⟩
 refine⟨_,[2],rfl,by decide +kernel,by decide +kernel,by decide +kernel,by decide,fun y1 H1 S1 t1=>⟨rfl,fun y2 H2 S2 t2=>nCat (t1.mono (.of S2)) t2 (small (by decide)) (fun y3 H3 S3 t3=>?_)⟩⟩
 refine⟨_,[4],rfl,by decide +kernel,by decide +kernel,by decide +kernel,by decide,fun y4 H4 S4 t4=>nCat (t3.mono (.of S4)) t4 (small (by decide)) (fun y5 H5 S5 t5=>q _ _ (S1.trans (S2.trans (S3.trans (S4.trans S5)))) t5)⟩
theorem ok_selfmade
  {a_lay:Addr}{d_lay:FuncData} (F_lay:Fun K "lay" "lay" s_lay a_lay d_lay) (G_lay:FnOk P w K mg base CX0 31 a_lay d_lay ["tree"] (spLay K)) (b_lay:Binds K d_lay ["tree"] []) (m_lay:mg "lay"=some (.ref a_lay))
  (F:Fun K "selfmade" "selfmade" s_selfmade f fd):FnOk P w K mg base CX0 32 f fd ["body"] (spSelfmade K):=by
 refine okQ F sc_selfmade (fun vs H Q E h=>?_) (fun cdv A outer s H vs Q E hr h=>?_)
 ·obtain⟨x,b,rfl,_⟩:=h
  rfl
 obtain⟨x,b,rfl,hx,hb,q⟩:=h
 refine⟨_,(qss_one (qs_ret (qe_op op_catTA (qe_tup (qa_cons (qe_call G_lay hr rfl m_lay F_lay.kp b_lay .nil pass0 (qa_cons (qv 0) qa_nil)) qa_nil)) (qv 0)))),?_⟩
 have hl:=hb.len
 refine⟨_,rfl,x,.node b,rfl,hx,by have:=hb.1; lia,by have:=hb.2; lia,fun y1 H1 S1 t1=>⟨(by show 1≤sizeLine; decide),fun p2 g2=>?_⟩⟩
 obtain⟨S2,t2⟩:=tupN (K:=K) g2 (trs1 t1)
 exact⟨_,rfl,nCat t2 (hx.mono (.of (S1.trans S2))) (small (by rw [List.length_singleton]; lia)) (fun y3 H3 S3 t3=>q _ _ (S1.trans (S2.trans S3)) t3)⟩
theorem ok_selfteller
  {a_selfmade:Addr}{d_selfmade:FuncData} (F_selfmade:Fun K "selfmade" "selfmade" s_selfmade a_selfmade d_selfmade) (G_selfmade:FnOk P w K mg base CX0 34 a_selfmade d_selfmade ["body"] (spSelfmade K)) (b_selfmade:Binds K d_selfmade ["body"] []) (m_selfmade:mg "selfmade"=some (.ref a_selfmade))
  {a_selfmaker:Addr}{d_selfmaker:FuncData} (F_selfmaker:Fun K "selfmaker" "selfmaker" s_selfmaker a_selfmaker d_selfmaker) (G_selfmaker:FnOk P w K mg base CX0 34 a_selfmaker d_selfmaker [] (spTxt K (tMaker []))) (b_selfmaker:Binds K d_selfmaker [] []) (m_selfmaker:mg "selfmaker"=some (.ref a_selfmaker))
  (F:Fun K "selfteller" "selfteller" s_selfteller f fd):FnOk P w K mg base CX0 35 f fd [] (spTxt K tTeller):=by
 refine okQ F sc_selfteller (fun vs H Q E h=>?_) (fun cdv A outer s H vs Q E hr h=>?_)
 ·obtain⟨rfl,_⟩:=h
  rfl
 obtain⟨rfl,q⟩:=h
 refine⟨_,(qss_one (qs_ret (qe_call G_selfmade hr rfl m_selfmade F_selfmade.kp b_selfmade .nil pass0 (qa_cons (qe_call0 G_selfmaker hr rfl m_selfmaker F_selfmaker.kp b_selfmaker .nil pass0) qa_nil)))),?_⟩
 exact⟨rfl,fun y1 H1 S1 t1=>⟨y1,tMaker [],rfl,t1,⟨by decide +kernel,by decide +kernel⟩,fun y2 H2 S2 t2=>q _ _ (S1.trans S2) t2⟩⟩
end
end Sw75
namespace Sw75
open PySem PySem.Spec PyProof.Rows L2 Sw
section
variable {P:Program}{w:World}{K:PySem.W.Frag}{mg:Str→Option Value}{base:Heap}{f:Addr}{fd:FuncData}
theorem ok_odd (m_any:mg "any"=none) {u_WHILE:Value} (m_WHILE:mg "WHILE"=some u_WHILE) (r_WHILE:RelV (.int 8) u_WHILE) {u_LAY:Value} (m_LAY:mg "LAY"=some u_LAY) (r_LAY:RelV (.int 0) u_LAY) {u_FORK:Value} (m_FORK:mg "FORK"=some u_FORK) (r_FORK:RelV (.int 7) u_FORK) {u_NAMELESS:Value} (m_NAMELESS:mg "NAMELESS"=some u_NAMELESS) (r_NAMELESS:RelV (.int 9) u_NAMELESS)
  {a_first:Addr}{d_first:FuncData} (F_first:Fun K "first" "first" s_first a_first d_first) (G_first:FnOk P w K mg base CX0 32 a_first d_first ["tree"] (spFirst K)) (b_first:Binds K d_first ["tree"] []) (m_first:mg "first"=some (.ref a_first))
  {a_sort_of:Addr}{d_sort_of:FuncData} (F_sort_of:Fun K "sort_of" "sort_of" s_sort_of a_sort_of d_sort_of) (G_sort_of:FnOk P w K mg base CX0 32 a_sort_of d_sort_of ["word"] (spSortL K)) (b_sort_of:Binds K d_sort_of ["word"] []) (m_sort_of:mg "sort_of"=some (.ref a_sort_of))
  {a_load_of:Addr}{d_load_of:FuncData} (F_load_of:Fun K "load_of" "load_of" s_load_of a_load_of d_load_of) (G_load_of:FnOk P w K mg base CX0 32 a_load_of d_load_of ["word"] (spRest K)) (b_load_of:Binds K d_load_of ["word"] []) (m_load_of:mg "load_of"=some (.ref a_load_of))
  (F:Fun K "odd" "odd" s_odd f fd):FnOk P w K mg base CX0 33 f fd ["word"] (spOdd K):=by
 refine okQ F sc_odd (fun vs H Q E h=>?_) (fun cdv A outer s H vs Q E hr h=>?_)
 ·obtain⟨x,w,rfl,_⟩:=h
  rfl
 obtain⟨x,w,rfl,ht,hb,q⟩:=h
 have hE:=hr.un
 have hE:(A.deeper (envOfC "odd" (defScope s_odd) s.heap.objs.size f cdv)).units+401<cLine:=by lia
 refine⟨_,(qss_cons (qs_if (QW.pt (qw_or (qt_cmpR (op_eqTr hE) (qv 0) (qe_tup qa_nil) (nomark _)) (qw_or1 (qt_val (qe_callB (call_any rfl) rfl m_any bt_any (qa_cons (qe_lc rfl (lc_free (fr:=[]) (js:=[]) (sc:=defScope s_odd) rfl rfl rfl (by decide +kernel) (by decide +kernel) (by decide +kernel) (by decide +kernel) (by exact trivial) (by decide +kernel) (fun y hy=>cell_has hy)) (qi_tup (qe_call G_first hr rfl m_first F_first.kp b_first .nil pass0 (qa_cons (qv 0) qa_nil))) (fun _ _ _ _ _=>(qe_cmpR (op_neTrK (K:=K) rfl rfl hE) (qv 0) (qe_tup qa_nil) (nomark _)))) qa_nil)))))) (qss_one (qs_ret qe_bl)) qss_nil)
   (qss_cons (qs_set (i:=1) sc_odd.nd rfl (Or.inl rfl) (qe_call G_sort_of hr rfl m_sort_of F_sort_of.kp b_sort_of .nil pass0 (qa_cons (qv 0) qa_nil)))
   (qss_cons (qs_if (qt_cmpR op_in_seq (qv 1) (qe_tup (qa_cons (qe_glob (v:=.int 0) rfl m_LAY r_LAY) (qa_cons (qe_glob (v:=.int 8) rfl m_WHILE r_WHILE) qa_nil))) rfl) (qss_one (qs_ret qe_bl)) qss_nil)
   (qss_cons (qs_if (qt_cmpR op_eq (qv 1) (qe_glob (v:=.int 7) rfl m_FORK r_FORK) (nomark _)) (qss_one (qs_ret (qe_cmpR (op_eqTr hE) (qe_call G_load_of hr rfl m_load_of F_load_of.kp b_load_of .nil pass0 (qa_cons (qv 0) qa_nil)) (qe_tup qa_nil) (nomark _)))) qss_nil)
   (qss_one (qs_ret (qe_or (qe_cmpR op_eq (qv 1) (qe_glob (v:=.int 9) rfl m_NAMELESS r_NAMELESS) (nomark _)) (qe_one (qe_cmpR (op_neTr hE) (qe_call G_load_of hr rfl m_load_of F_load_of.kp b_load_of .nil pass0 (qa_cons (qv 0) qa_nil)) (qe_tup qa_nil) (nomark _)))))))))),?_⟩
 have hd:=hb.1
 have hp:=hb.2
 have beqO:∀ t:T,t∈(ats w.kids 0).kids→t.deep≤400:=fun t ht=>by
  have h1:=T.mem_deep ht
  rw [← deep_eq] at h1
  have h2:=first_deep w
  lia
 have kl:(ats w.kids 0).kids.length≤100000:=by
  have:=(B_kids (B_ats (B_kids hb) 0)).len
  lia
 have hl400:(loadT w).deep≤400:=Nat.le_trans (load_deep w) hd
 have hs9:sortT w≤9:=by unfold sortT; split <;> lia
 refine⟨_,rfl,Nat.zero_le _,fun p1 g1=>⟨w,leaf,ht.mono (.new g1),leaf_tr upd_same,by lia,_,rfl,ite2 (fun h1=>?_) (fun h1=>?_)⟩⟩
 ·have e:oddT w=true:=by unfold oddT headOdd; rw [h1]; rfl
  rw [e] at q
  exact iteT (q _ (same_new g1 _))
 have h1:T.beq w leaf=false:=Bool.eq_false_iff.mpr h1
 have S1:=same_new g1 (.tup [])
 refine⟨_,rfl,x,w,rfl,ht.mono (.of S1),hd,fun y H2 S2 t2=>?_⟩
 obtain⟨a2,xs2,rfl,q2,r2⟩:=TR_node.mp (TR_kids t2)
 refine⟨a2,rfl,⟨_,q2⟩,lc_mapT (fun t=>.bl (!T.beq t leaf)) q2 r2 (small (by rw [r2.length]; lia)) (fun t z H' R hm S tz hR=>⟨_,rfl,Nat.zero_le _,fun p3 g3=>⟨t,leaf,tz.mono (.new g3),leaf_tr upd_same,by have:=beqO t hm; lia,hR _ (same_new g3 _)⟩⟩) (fun D H3 S3 h3=>?_)⟩
 refine⟨D,(ats w.kids 0).kids.map fun t=>!T.beq t leaf,rfl,SqL.of (by rw [h3,List.map_map]; rfl),_,rfl,?_⟩
 have S13:=S1.trans (S2.trans S3)
 have eh:headOdd w=((ats w.kids 0).kids.map fun t=>!T.beq t leaf).any id:=by unfold headOdd; rw [h1,List.any_map]; rfl
 rw [← eh]
 refine ite2 (fun h2=>?_) (fun h2=>?_)
 ·have e:oddT w=true:=by unfold oddT; rw [h2]; rfl
  rw [e] at q
  exact q _ S13
 have eo:oddT w=if sortT w=0∨sortT w=8 then false else if sortT w=7 then T.beq (loadT w) leaf else (decide (sortT w=9) || !T.beq (loadT w) leaf):=by unfold oddT; rw [if_neg h2]
 dsimp only [tNext]
 refine setQ (fun v=>[some x,some v]) (fun _=>rfl) (fun v H'=>v=.int (sortT w:Nat)∧Same H H') (fun R r=>⟨_,rfl,x,w,rfl,ht.mono (.of S13),hd,fun H4 S4=>r _ _ ⟨rfl,S13.trans S4⟩⟩) (fun v4 H4 h4=>?_)
 obtain⟨rfl,S4⟩:=h4
 refine⟨_,rfl,(by show 2≤sizeLine; decide),fun p5 g5=>⟨p5,_,rfl,.inr (SqT.of upd_same),rfl,rfl,_,rfl,?_⟩⟩
 have S5:=S4.trans (same_new g5 (.tup [.int 0,.int 8]))
 have ei:(if false=true then !inV (.int ((sortT w:Nat):Int)) [.int 0,.int 8] else inV (.int ((sortT w:Nat):Int)) [.int 0,.int 8])=decide (sortT w=0∨sortT w=8):=by
  rw [if_neg (by decide)]
  unfold inV
  rw [List.any_cons,List.any_cons,List.any_nil,Bool.or_false]
  show (((0:Int) == ((sortT w:Nat):Int)) || ((8:Int) == ((sortT w:Nat):Int)))=_
  rw [Bool.eq_iff_iff,Bool.or_eq_true,beq_iff_eq,beq_iff_eq,decide_eq_true_iff]
  lia
 rw [ei]
 refine ite2 (fun h3=>?_) (fun h3=>?_)
 ·rw [eo,if_pos (of_decide_eq_true h3)] at q
  exact q _ S5
 rw [eo,if_neg (fun z=>h3 (decide_eq_true z))] at q
 refine⟨_,rfl,rfl,_,rfl,ite2 (fun h7=>?_) (fun h7=>?_)⟩
 ·have e7:sortT w=7:=by have:=V.int.inj (of_decide_eq_true h7); lia
  rw [if_pos e7] at q
  exact⟨_,rfl,x,w,rfl,ht.mono (.of S5),fun y H6 S6 t6=>⟨Nat.zero_le _,fun p7 g7=>⟨loadT w,leaf,t6.mono (.new g7),leaf_tr upd_same,by lia,q _ (S5.trans (S6.trans (same_new g7 _)))⟩⟩⟩
 ·have e7:sortT w≠7:=fun z=>h7 (by rw [z]; exact decide_eq_true rfl)
  rw [if_neg e7] at q
  refine⟨_,rfl,rfl,_,rfl,ite2 (fun h9=>?_) (fun h9=>?_)⟩
  ·have e9:sortT w=9:=by have:=V.int.inj (of_decide_eq_true h9); lia
   rw [decide_eq_true e9,Bool.true_or] at q
   exact q _ S5
  ·have e9:sortT w≠9:=fun z=>h9 (by rw [z]; exact decide_eq_true rfl)
   rw [decide_eq_false e9,Bool.false_or] at q
   exact⟨_,rfl,x,w,rfl,ht.mono (.of S5),fun y H6 S6 t6=>⟨Nat.zero_le _,fun p7 g7=>⟨loadT w,leaf,t6.mono (.new g7),leaf_tr upd_same,by lia,q _ (S5.trans (S6.trans (same_new g7 _)))⟩⟩⟩
theorem ok_spelled {u_LAY:Value} (m_LAY:mg "LAY"=some u_LAY) (r_LAY:RelV (.int 0) u_LAY) {u_FORK:Value} (m_FORK:mg "FORK"=some u_FORK) (r_FORK:RelV (.int 7) u_FORK) {a_NAMES:Addr} (m_NAMES:mg "NAMES"=some (.ref a_NAMES)) (q_NAMES:∀ H,SqT K H a_NAMES [.str (PySem.Str.ofString "lay"),.str (PySem.Str.ofString "drop"),.str (PySem.Str.ofString "twin"),.str (PySem.Str.ofString "swap"),.str (PySem.Str.ofString "front"),.str (PySem.Str.ofString "part"),.str (PySem.Str.ofString "turn"),.str (PySem.Str.ofString "fork"),.str (PySem.Str.ofString "while")]) {u_WHILE:Value} (m_WHILE:mg "WHILE"=some u_WHILE) (r_WHILE:RelV (.int 8) u_WHILE)
  {a_odd:Addr}{d_odd:FuncData} (F_odd:Fun K "odd" "odd" s_odd a_odd d_odd) (G_odd:FnOk P w K mg base CX0 33 a_odd d_odd ["word"] (spOdd K)) (b_odd:Binds K d_odd ["word"] []) (m_odd:mg "odd"=some (.ref a_odd))
  {a_show_tree:Addr}{d_show_tree:FuncData} (F_show_tree:Fun K "show_tree" "show_tree" s_show_tree a_show_tree d_show_tree) (G_show_tree:FnOk P w K mg base CX0 33 a_show_tree d_show_tree ["tree"] (spShowT K)) (b_show_tree:Binds K d_show_tree ["tree"] []) (m_show_tree:mg "show_tree"=some (.ref a_show_tree))
  {a_sort_of:Addr}{d_sort_of:FuncData} (F_sort_of:Fun K "sort_of" "sort_of" s_sort_of a_sort_of d_sort_of) (G_sort_of:FnOk P w K mg base CX0 33 a_sort_of d_sort_of ["word"] (spSortL K)) (b_sort_of:Binds K d_sort_of ["word"] []) (m_sort_of:mg "sort_of"=some (.ref a_sort_of))
  {a_load_of:Addr}{d_load_of:FuncData} (F_load_of:Fun K "load_of" "load_of" s_load_of a_load_of d_load_of) (G_load_of:FnOk P w K mg base CX0 33 a_load_of d_load_of ["word"] (spRest K)) (b_load_of:Binds K d_load_of ["word"] []) (m_load_of:mg "load_of"=some (.ref a_load_of))
  {a_first:Addr}{d_first:FuncData} (F_first:Fun K "first" "first" s_first a_first d_first) (G_first:FnOk P w K mg base CX0 33 a_first d_first ["tree"] (spFirst K)) (b_first:Binds K d_first ["tree"] []) (m_first:mg "first"=some (.ref a_first))
  {a_rest:Addr}{d_rest:FuncData} (F_rest:Fun K "rest" "rest" s_rest a_rest d_rest) (G_rest:FnOk P w K mg base CX0 33 a_rest d_rest ["tree"] (spRest K)) (b_rest:Binds K d_rest ["tree"] []) (m_rest:mg "rest"=some (.ref a_rest))
  (F:Fun K "spelled" "spelled" s_spelled f fd):FnOk P w K mg base CX0 34 f fd ["word"] (spSpelled K):=by
 refine okQ F sc_spelled (fun vs H Q E h=>?_) (fun cdv A outer s H vs Q E hr h=>?_)
 ·obtain⟨x,w,rfl,_⟩:=h
  rfl
 obtain⟨x,w,rfl,ht,hb,q⟩:=h
 refine⟨_,(qss_cons (qs_if (qt_val (qe_call G_odd hr rfl m_odd F_odd.kp b_odd .nil pass0 (qa_cons (qv 0) qa_nil))) (qss_one (qs_ret (qe_tup (qa_cons (qe_op op_add_str qe_str (qe_call G_show_tree hr rfl m_show_tree F_show_tree.kp b_show_tree .nil pass0 (qa_cons (qv 0) qa_nil))) qa_nil)))) qss_nil)
   (qss_cons (qs_set (i:=1) sc_spelled.nd rfl (Or.inl rfl) (qe_call G_sort_of hr rfl m_sort_of F_sort_of.kp b_sort_of .nil pass0 (qa_cons (qv 0) qa_nil)))
   (qss_cons (qs_set (i:=2) sc_spelled.nd rfl (Or.inl rfl) (qe_call G_load_of hr rfl m_load_of F_load_of.kp b_load_of .nil pass0 (qa_cons (qv 0) qa_nil)))
   (qss_cons (qs_if (qt_cmpR op_eq (qv 1) (qe_glob (v:=.int 0) rfl m_LAY r_LAY) (nomark _)) (qss_one (qs_ret (qe_tup (qa_cons (qe_op op_add_str qe_str (qe_call G_show_tree hr rfl m_show_tree F_show_tree.kp b_show_tree .nil pass0 (qa_cons (qv 2) qa_nil))) qa_nil)))) qss_nil)
   (qss_cons (qs_if (qt_cmpR op_eq (qv 1) (qe_glob (v:=.int 7) rfl m_FORK r_FORK) (nomark _)) (qss_one (qs_ret (qe_op op_catTA (qe_op op_catTA (qe_op op_catTA (qe_op op_catTA (qe_tup (qa_cons (qe_ix ix_tup (qe_glob (v:=.ref a_NAMES) rfl m_NAMES rfl) (qe_glob (v:=.int 7) rfl m_FORK r_FORK) (fun _ _=>rfl)) (qa_cons qe_str qa_nil))) (qe_call G_first hr rfl m_first F_first.kp b_first .nil pass0 (qa_cons (qv 2) qa_nil))) (qe_tup (qa_cons qe_str qa_nil))) (qe_call G_rest hr rfl m_rest F_rest.kp b_rest .nil pass0 (qa_cons (qv 2) qa_nil))) (qe_tup (qa_cons qe_str qa_nil))))) qss_nil)
   (qss_cons (qs_if (qt_cmpR op_eq (qv 1) (qe_glob (v:=.int 8) rfl m_WHILE r_WHILE) (nomark _)) (qss_one (qs_ret (qe_op op_catTA (qe_op op_catTA (qe_tup (qa_cons (qe_ix ix_tup (qe_glob (v:=.ref a_NAMES) rfl m_NAMES rfl) (qe_glob (v:=.int 8) rfl m_WHILE r_WHILE) (fun _ _=>rfl)) (qa_cons qe_str qa_nil))) (qv 2)) (qe_tup (qa_cons qe_str qa_nil))))) qss_nil)
   (qss_one (qs_ret (qe_tup (qa_cons (qe_ix ix_tup (qe_glob (v:=.ref a_NAMES) rfl m_NAMES rfl) (qv 1) (fun _ _=>rfl)) qa_nil)))))))))),?_⟩
 have hd:=hb.1
 have hp:=hb.2
 have nmq:∀ H,SqT K H a_NAMES namesV:=fun H=>by rw [← names_tx]; exact q_NAMES H
 have hlp:(loadT w).parts≤100000:=by
  have:=load_lt w
  have:=T.parts_kids (loadT w)
  lia
 have hld:=load_deep w
 have hbl:B 400 100000 (loadT w):=⟨by lia,hlp⟩
 have kl:=(B_kids hbl).len
 have ky:=(B_kids (B_ats (B_kids hbl) 0)).len
 have kn:=(B_kids (B_loadT hbl)).len
 refine⟨_,rfl,x,w,rfl,ht,hb,fun H1 S1=>⟨_,rfl,ite2 (fun ho=>?_) (fun ho=>?_)⟩⟩
 ·have e:spelledT w=[.inr (33::w.wr)]:=by unfold spelledT; rw [if_pos ho]
  rw [e] at q
  refine⟨_,rfl,x,w,rfl,ht.mono (.of S1),hp,fun H2 S2=>⟨_,_,rfl,rfl,?_,(by show 1≤sizeLine; decide),fun p3 g3=>?_⟩⟩
  ·rw [tx_bang,tx_len,tx_len,T.wr_len]
   exact small (by show 1+_≤_; lia)
  ·obtain⟨S3,t3⟩:=itN (K:=K) g3 (All2.one (show IR K _ (.inr (33::w.wr)) (.str (PySem.Str.ofString "!"++tx w.wr)) from congrArg V.str (by rw [tx_bang,tx_append]; rfl)))
   exact q _ _ (S1.trans (S2.trans S3)) t3
 have ho:oddT w=false:=Bool.eq_false_iff.mpr ho
 have h8:=odd_sort ho
 dsimp only [tNext]
 refine setQ (fun v=>[some x,some v,none]) (fun _=>rfl) (fun v H'=>v=.int (sortT w:Nat)∧Same H H') (fun R r=>⟨_,rfl,x,w,rfl,ht.mono (.of S1),hd,fun H4 S4=>r _ _ ⟨rfl,S1.trans S4⟩⟩) (fun v4 H4 h4=>?_)
 obtain⟨rfl,S4⟩:=h4
 refine setQ (fun v=>[some x,some (.int (sortT w:Nat)),some v]) (fun _=>rfl) (fun v H'=>TR K H' (loadT w) v∧Same H H') (fun R r=>⟨_,rfl,x,w,rfl,ht.mono (.of S4),fun y H5 S5 t5=>r _ _ ⟨t5,S4.trans S5⟩⟩) (fun v5 H5 h5=>?_)
 obtain⟨t5,S5⟩:=h5
 refine⟨_,rfl,rfl,_,rfl,ite2 (fun h0=>?_) (fun h0=>?_)⟩
 ·have e0:sortT w=0:=by have:=V.int.inj (of_decide_eq_true h0); lia
  have e:spelledT w=[.inr (39::(loadT w).wr)]:=by unfold spelledT; rw [if_neg (by rw [ho]; decide),if_pos e0]
  rw [e] at q
  refine⟨_,rfl,v5,loadT w,rfl,t5,hlp,fun H6 S6=>⟨_,_,rfl,rfl,?_,(by show 1≤sizeLine; decide),fun p7 g7=>?_⟩⟩
  ·rw [tx_tick,tx_len,tx_len,T.wr_len]
   exact small (by show 1+_≤_; lia)
  ·obtain⟨S7,t7⟩:=itN (K:=K) g7 (All2.one (show IR K _ (.inr (39::(loadT w).wr)) (.str (PySem.Str.ofString "'"++tx (loadT w).wr)) from congrArg V.str (by rw [tx_tick,tx_append]; rfl)))
   exact q _ _ (S5.trans (S6.trans S7)) t7
 have e0:sortT w≠0:=fun z=>h0 (by rw [z]; exact decide_eq_true rfl)
 refine⟨_,rfl,rfl,_,rfl,ite2 (fun h7=>?_) (fun h7=>?_)⟩
 ·have e7:sortT w=7:=by have:=V.int.inj (of_decide_eq_true h7); lia
  have e:spelledT w=[.inr (nmC 7),.inr [91]]++(ats (loadT w).kids 0).kids.map .inl++[.inr [124]]++(loadT (loadT w)).kids.map .inl++[.inr [93]]:=by unfold spelledT; rw [if_neg (by rw [ho]; decide),if_neg (by lia),if_pos e7]
  rw [e] at q
  refine⟨a_NAMES,_,7,_,rfl,rfl,nmq _,name_at (k:=7) (by decide),(by show 2≤sizeLine; decide),fun p6 g6=>?_⟩
  obtain⟨S6,t6⟩:=itN (K:=K) g6 (xs:=[.str (tx (nmC 7)),.str (PySem.Str.ofString "[")]) (its:=[.inr (nmC 7),.inr [91]]) (.cons rfl (.cons (congrArg V.str tx_lb) .nil))
  refine⟨_,rfl,v5,loadT w,rfl,t5.mono (.of S6),by lia,fun y7 H7 S7 t7=>nCatI (t6.mono (.of S7)) (TR.it (TR_kids t7)) (small (by rw [List.length_map]; show 2+_≤_; lia)) (fun z8 H8 S8 t8=>⟨(by show 1≤sizeLine; decide),fun p9 g9=>?_⟩)⟩
  obtain⟨S9,t9⟩:=itN (K:=K) g9 (xs:=[.str (PySem.Str.ofString "|")]) (its:=[.inr [124]]) (.cons (congrArg V.str tx_bar) .nil)
  have S69:=S6.trans (S7.trans (S8.trans S9))
  refine nCatI (t8.mono (.of S9)) t9 (small (by rw [List.length_append,List.length_map]; show 2+_+1≤_; lia)) (fun z10 H10 S10 t10=>⟨_,rfl,v5,loadT w,rfl,t5.mono (.of (S69.trans S10)),fun y11 H11 S11 t11=>nCatI (t10.mono (.of S11)) (TR.it (TR_kids t11)) (small (by rw [List.length_append,List.length_append,List.length_map,List.length_map]; show 2+_+1+_≤_; lia)) (fun z12 H12 S12 t12=>⟨(by show 1≤sizeLine; decide),fun p13 g13=>?_⟩)⟩)
  obtain⟨S13,t13⟩:=itN (K:=K) g13 (xs:=[.str (PySem.Str.ofString "]")]) (its:=[.inr [93]]) (.cons (congrArg V.str tx_rb) .nil)
  exact nCatI (t12.mono (.of S13)) t13 (small (by rw [List.length_append,List.length_append,List.length_append,List.length_map,List.length_map]; show 2+_+1+_+1≤_; lia)) (fun z14 H14 S14 t14=>q _ _ (S5.trans (S69.trans (S10.trans (S11.trans (S12.trans (S13.trans S14)))))) t14)
 have e7:sortT w≠7:=fun z=>h7 (by rw [z]; exact decide_eq_true rfl)
 refine⟨_,rfl,rfl,_,rfl,ite2 (fun h8'=>?_) (fun h8'=>?_)⟩
 ·have e8:sortT w=8:=by have:=V.int.inj (of_decide_eq_true h8'); lia
  have e:spelledT w=[.inr (nmC 8),.inr [91]]++(loadT w).kids.map .inl++[.inr [93]]:=by unfold spelledT; rw [if_neg (by rw [ho]; decide),if_neg (by lia),if_neg (by lia),if_pos e8]
  rw [e] at q
  refine⟨a_NAMES,_,8,_,rfl,rfl,nmq _,name_at (k:=8) (by decide),(by show 2≤sizeLine; decide),fun p6 g6=>?_⟩
  obtain⟨S6,t6⟩:=itN (K:=K) g6 (xs:=[.str (tx (nmC 8)),.str (PySem.Str.ofString "[")]) (its:=[.inr (nmC 8),.inr [91]]) (.cons rfl (.cons (congrArg V.str tx_lb) .nil))
  refine⟨_,rfl,nCatI t6 (TR.it (TR_kids (t5.mono (.of S6)))) (small (by rw [List.length_map]; show 2+_≤_; lia)) (fun z8 H8 S8 t8=>⟨(by show 1≤sizeLine; decide),fun p9 g9=>?_⟩)⟩
  obtain⟨S9,t9⟩:=itN (K:=K) g9 (xs:=[.str (PySem.Str.ofString "]")]) (its:=[.inr [93]]) (.cons (congrArg V.str tx_rb) .nil)
  exact nCatI (t8.mono (.of S9)) t9 (small (by rw [List.length_append,List.length_map]; show 2+_+1≤_; lia)) (fun z10 H10 S10 t10=>q _ _ (S5.trans (S6.trans (S8.trans (S9.trans S10)))) t10)
 have e8:sortT w≠8:=fun z=>h8' (by rw [z]; exact decide_eq_true rfl)
 have e:spelledT w=[.inr (nmC (sortT w))]:=by unfold spelledT; rw [if_neg (by rw [ho]; decide),if_neg e0,if_neg e7,if_neg e8]
 rw [e] at q
 refine⟨_,rfl,a_NAMES,_,_,_,rfl,rfl,nmq _,name_at (k:=sortT w) (by lia),(by show 1≤sizeLine; decide),fun p6 g6=>?_⟩
 obtain⟨S6,t6⟩:=itN (K:=K) g6 (its:=[.inr (nmC (sortT w))]) (.cons rfl .nil)
 exact q _ _ (S5.trans S6) t6
end
end Sw75
namespace Sw75
open PySem PySem.Spec PyProof.Rows L2 Sw
section
variable {P:Program}{w:World}{K:PySem.W.Frag}{mg:Str→Option Value}{base:Heap}{f:Addr}{fd:FuncData}
theorem spell_b {a b:Nat}{w:T} (h:B a b w):∀ t:T,(.inl t:Itm)∈spelledT w→B a b t:=by
 have h1:=B_kids (B_loadT h)
 have h2:=B_kids (B_loadT (B_loadT h))
 have hy:B a b (.node (ats (loadT w).kids 0).kids):=by
  cases hk:(loadT w).kids with
  | nil=>exact B_nil.le (Nat.zero_le _) (by have:=h.2; have:=T.parts_pos w; lia)
  | cons y r=>exact B_kids (B_mem h1 (by rw [hk]; exact List.mem_cons_self))
 have wds:∀ ts:List T,B a b (.node ts)→∀ t:T,(.inl t:Itm)∈ts.map (.inl:T→Itm)→B a b t:=fun ts hb t ht=>by
  obtain⟨u,hu,e⟩:=List.mem_map.mp ht
  cases e
  exact B_mem hb hu
 have no:∀ (t:T) (l:List Nat),¬ (.inl t:Itm)∈[(.inr l:Itm)]:=fun t l z=>by simp at z
 have no2:∀ (t:T) (l m:List Nat),¬ (.inl t:Itm)∈[(.inr l:Itm),.inr m]:=fun t l m z=>by simp at z
 intro t ht
 unfold spelledT at ht
 split at ht
 ·exact absurd ht (no _ _)
 split at ht
 ·exact absurd ht (no _ _)
 split at ht
 ·rcases List.mem_append.mp ht with ht | ht
  ·rcases List.mem_append.mp ht with ht | ht
   ·rcases List.mem_append.mp ht with ht | ht
    ·rcases List.mem_append.mp ht with ht | ht
     ·exact absurd ht (no2 _ _ _)
     ·exact wds _ hy t ht
    ·exact absurd ht (no _ _)
   ·exact wds _ h2 t ht
  ·exact absurd ht (no _ _)
 split at ht
 ·rcases List.mem_append.mp ht with ht | ht
  ·rcases List.mem_append.mp ht with ht | ht
   ·exact absurd ht (no2 _ _ _)
   ·exact wds _ h1 t ht
  ·exact absurd ht (no _ _)
 ·exact absurd ht (no _ _)
def WSx (K:PySem.W.Frag) (H:Hp) (x:V) (w:List (List Nat)) (p1 p2:Addr):Nat→Sg→Hp→Prop:=fun m σ H'=>∃ (ys:List V) (its:List Itm) (ds qs:List (List Nat)) (o:Option V),
 σ=[some x,some (.ref p1),some (.ref p2),o]∧Same H H'∧H' p1=some (.lst (ds.map fun c=>V.str (tx c)))∧H' p2=some (.lst ys)∧All2 (IR K H') its ys.reverse∧Outs its qs∧ds++qs=w∧(∀ t:T,(.inl t:Itm)∈its→B 400 100000 t)∧wtL its≤500000∧m=wtL its
theorem ok_show (m_list:mg "list"=none) (m_reversed:mg "reversed"=none) (m_isinstance:mg "isinstance"=none) (m_str:mg "str"=none)
  {a_spelled:Addr}{d_spelled:FuncData} (F_spelled:Fun K "spelled" "spelled" s_spelled a_spelled d_spelled) (G_spelled:FnOk P w K mg base CX0 34 a_spelled d_spelled ["word"] (spSpelled K)) (b_spelled:Binds K d_spelled ["word"] []) (m_spelled:mg "spelled"=some (.ref a_spelled))
  (F:Fun K "show" "show" s_show f fd):FnOk P w K mg base CX0 35 f fd ["text"] (spShowX K):=by
 refine okQ F sc_show (fun vs H Q E h=>?_) (fun cdv A outer s H vs Q E hr h=>?_)
 ·obtain⟨x,ts,ps,rfl,_⟩:=h
  rfl
 obtain⟨x,ts,ps,rfl,ht,hts,hb,q⟩:=h
 refine⟨_,(qss_cons (qs_set (i:=1) sc_show.nd rfl (Or.inl rfl) (qe_lst qa_nil))
   (qss_cons (qs_set (i:=2) sc_show.nd rfl (Or.inl rfl) (qe_listRev rfl rfl m_list m_reversed rfl (qv 0)))
   (qss_cons (qs_while PassesOwn.never (qt_truth (qv 2) (fun _=>rfl)) (qss_cons (qs_set (i:=3) sc_show.nd rfl (Or.inl rfl) (qe_bm0 PySem.F.plainAttrs_list PySem.F.slot_list_pop PySem.F.type_list_pop mt_pop (qv 2)))
   (qss_one (qs_if (qt_val (qe_callB call_isinstA rfl m_isinstance bt_isinstance (qa_cons (qv 3) (qa_cons (qe_bltn (v:=.ty "str") rfl m_str bt_str rfl) qa_nil)))) (qss_one (qs_expr (qe_bm PySem.F.plainAttrs_list PySem.F.slot_list_append PySem.F.type_list_append mt_append (qv 1) (qa_cons (qv 3) qa_nil)))) (qss_one (qs_expr (qe_bm PySem.F.plainAttrs_list PySem.F.slot_list_extend PySem.F.type_list_extend mt_extend (qv 2) (qa_cons (qe_listRev rfl rfl m_list m_reversed rfl (qe_call G_spelled hr rfl m_spelled F_spelled.kp b_spelled .nil pass0 (qa_cons (qv 3) qa_nil))) qa_nil))))))))
   (qss_one (qs_ret (qe_bm PySem.F.plainAttrs_str PySem.F.slot_str_join PySem.F.type_str_join mt_joinS qe_str (qa_cons (qv 1) qa_nil))))))),?_⟩
 obtain⟨a,xs,rfl,ha,ra⟩:=TR_node.mp ht
 have hsz:=ts_sz hts
 have hpl:T.partsL ts<80000:=by have:=hb.2; rw [T.parts_node] at this; lia
 have hdl:ps.length≤960000:=by unfold szP at hsz; lia
 refine⟨Nat.zero_le _,fun p1 g1=>?_⟩
 have S1:=same_new g1 (.lst [])
 refine⟨_,rfl,a,xs,rfl,sqT_mono (.of S1) ha,fun p2 g2=>?_⟩
 have n12:p1≠p2:=fun z=>by rw [← z,upd_same] at g2; cases g2
 have hp2':H p2=none:=S1.free g2
 refine⟨WSx K H (.ref a) ps p1 p2,⟨_,xs.reverse,ts.map .inl,[],ps,none,rfl,S1.trans (same_new g2 _),by rw [upd_ne n12]; exact upd_same,upd_same,?_,outs_ts hts,rfl,fun t hm=>?_,?_,rfl⟩,?_⟩
 ·rw [List.reverse_reverse]
  exact ir_words ((ra.mono (.of S1)).mono (.new g2))
 ·obtain⟨u,hu,e⟩:=List.mem_map.mp hm
  cases e
  exact (B_mem hb hu).le (Nat.le_refl _) (by lia)
 ·rw [wtL_words]
  lia
 rintro m σ H' ⟨ys,its,ds,qs,o,rfl,S,h1,h2,hw,hO,hc,hB,hW,rfl⟩
 have hl:=hw.length
 rw [List.length_reverse] at hl
 have hol:=wtL_len its
 have hcl:ds.length+qs.length=ps.length:=by rw [← hc,List.length_append]
 refine⟨_,rfl,!ys.isEmpty,.inl ⟨ys,SqL.of h2,rfl⟩,?_⟩
 refine ite2 (fun hb=>?_) (fun hb=>?_)
 ·have hne:ys≠[]:=by rintro rfl; exact absurd hb (by decide)
  obtain⟨y,hy⟩:=last_of hne
  have ey:=drop_last hy
  have er:ys.reverse=y::ys.dropLast.reverse:=by
   have:=congrArg List.reverse ey
   rw [List.reverse_append] at this
   exact this
  rw [er] at hw
  match its,hw,hO,hB,hW,hol,hl with
  | it::its',.cons hwy hw',hO1,hB,hW,hol,hl =>
  refine⟨fun σ' H'=>∃ m',m'<wtL (it::its')∧WSx K H (.ref a) ps p1 p2 m' σ' H',fun _ _ h=>h,?_⟩
  refine⟨_,rfl,.inl ⟨rfl,_,SqL.of h2⟩,p2,ys,_,rfl,rfl,h2,hy,?_⟩
  have hwd:=hw'.imp (S:=IR K (upd H' p2 (.lst ys.dropLast))) fun _ _=>IR.mono (Kt.lst h2)
  have S2:Same H (upd H' p2 (.lst ys.dropLast)):=same_upd S hp2'
  have h12:upd H' p2 (.lst ys.dropLast) p1=some (.lst (ds.map fun c=>V.str (tx c))):=by rw [upd_ne n12]; exact h1
  have h22:upd H' p2 (.lst ys.dropLast) p2=some (.lst ys.dropLast):=upd_same
  have hyk:IR K (upd H' p2 (.lst ys.dropLast)) it y:=IR.mono (Kt.lst h2) hwy
  generalize upd H' p2 (.lst ys.dropLast)=H2 at hwd S2 h12 h22 hyk
  have hdlen:ys.dropLast.length=its'.length:=by rw [List.length_dropLast,hl]; rfl
  rw [wtL_cons] at hW
  cases it with
  | inr l =>
   have ey2:y=.str (tx l):=hyk
   subst ey2
   cases hO1 with
   | txt hO2 =>
   refine⟨_,rfl,.inl ⟨.str (tx l),"str",.type "str",true,rfl,TyOf.str _,by rfl,_,rfl,iteT ?_⟩⟩
   refine⟨_,rfl,.inl ⟨rfl,_,SqL.of h12⟩,_,rfl,p1,_,_,rfl,rfl,h12,smallL (by rw [List.length_map]; lia),?_⟩
   refine⟨_,?_,ys.dropLast,its',ds++[l],_,_,rfl,same_upd S2 g1,?_,by rw [upd_ne (Ne.symm n12)]; exact h22,hwd.imp fun _ _=>IR.mono (Kt.lst h12),hO2,?_,fun t ht=>hB t (List.mem_cons_of_mem _ ht),by lia,rfl⟩
   ·rw [wtL_cons]
    show _<1+_
    lia
   ·rw [upd_same,List.map_append]
    rfl
   ·rw [← hc,List.append_assoc]
    rfl
  | inl t =>
   have bt:=hB t List.mem_cons_self
   have hty:TR K H2 t y:=hyk
   obtain⟨a4,zs4,rfl,q4,_⟩:=TR_of hty
   cases hO1 with
   | word hwr hO2 =>
   refine⟨_,rfl,.inr ⟨a4,_,"str",false,rfl,q4,by rfl,_,rfl,iteF ?_⟩⟩
   refine⟨_,rfl,.inl ⟨rfl,_,SqL.of h22⟩,_,rfl,.ref a4,t,rfl,hty,bt,fun z H3 S3 it3=>?_⟩
   obtain⟨a5,zs,rfl,q5,r5⟩:=it3
   have h23:=S3 _ _ h22
   have h13:=S3 _ _ h12
   have hsw:=spell_wt t
   have hsl:=wtL_len (spelledT t)
   have hzl:=r5.length
   have hti:wtI (.inl t)=5 * t.parts:=rfl
   refine⟨a5,zs,rfl,q5,fun l gl=>?_⟩
   have n2l:p2≠l:=ne_of_none h23 gl
   have n1l:p1≠l:=ne_of_none h13 gl
   have h24:upd H3 l (.lst zs.reverse) p2=some (.lst ys.dropLast):=by rw [upd_ne n2l]; exact h23
   refine⟨p2,l,ys.dropLast,zs.reverse,rfl,rfl,h24,upd_same,small (by rw [List.length_reverse,hdlen,hzl]; have:=wtL_len its'; lia),?_⟩
   have k5:Kt H3 (upd (upd H3 l (.lst zs.reverse)) p2 (.lst (ys.dropLast++zs.reverse))):=(Kt.new gl).trans (Kt.lst h24)
   refine⟨_,?_,ys.dropLast++zs.reverse,spelledT t++its',ds,_,_,rfl,same_upd ((S2.trans S3).trans (same_new gl _)) hp2',?_,upd_same,?_,(outs_spell hwr).append hO2,hc,fun u hu=>?_,?_,rfl⟩
   ·rw [wtL_append,wtL_cons]
    lia
   ·rw [upd_ne n12,upd_ne n1l]
    exact h13
   ·rw [List.reverse_append,List.reverse_reverse]
    exact (r5.imp fun _ _=>IR.mono k5).append (hwd.imp fun _ _=>IR.mono ((Kt.of S3).trans k5))
   ·rcases List.mem_append.mp hu with hu | hu
    ·exact spell_b bt u hu
    ·exact hB u (List.mem_cons_of_mem _ hu)
   ·rw [wtL_append]
    lia
 ·have hys:ys=[]:=by
   cases ys with
   | nil=>rfl
   | cons _ _=>exact absurd rfl hb
  subst hys
  have hos:its=[]:=List.length_eq_zero_iff.mp hl.symm
  subst hos
  cases hO
  rw [List.append_nil] at hc
  subst hc
  refine⟨rfl,_,rfl,p1,[32],ds,(by rw [show Str.ofString " "=tx [32] from tx_blank]),rfl,SqL.of h1,?_,q _ S⟩
  unfold szP at hsz
  show _+_ * 1≤_
  lia
end
end Sw75
namespace Sw75
open PySem PySem.Spec PyProof.Rows L2 Sw
abbrev s___init__:Stmt:=inClass (top 58) 0
abbrev s_take:Stmt:=inClass (top 58) 1
abbrev s_enter:Stmt:=inClass (top 58) 2
abbrev s_leave:Stmt:=inClass (top 58) 3
abbrev s_bracketed:Stmt:=inClass (top 58) 4
abbrev s_add_word:Stmt:=inClass (top 58) 5
abbrev s_whole:Stmt:=inClass (top 58) 6
theorem sc___init__:FnScope ["self"] ["self"] (defScope s___init__):=⟨rfl,rfl,rfl,by decide +kernel,rfl,by decide +kernel,by decide +kernel⟩
theorem sc_take:FnScope ["self","piece"] ["self","piece"] (defScope s_take):=⟨rfl,rfl,rfl,by decide +kernel,rfl,by decide +kernel,by decide +kernel⟩
theorem sc_enter:FnScope ["self","place"] ["self","place"] (defScope s_enter):=⟨rfl,rfl,rfl,by decide +kernel,rfl,by decide +kernel,by decide +kernel⟩
theorem sc_leave:FnScope ["self"] ["self"] (defScope s_leave):=⟨rfl,rfl,rfl,by decide +kernel,rfl,by decide +kernel,by decide +kernel⟩
theorem sc_bracketed:FnScope ["self","no"] ["self"] (defScope s_bracketed):=⟨rfl,rfl,rfl,by decide +kernel,rfl,by decide +kernel,by decide +kernel⟩
theorem sc_add_word:FnScope ["self","word"] ["self","word"] (defScope s_add_word):=⟨rfl,rfl,rfl,by decide +kernel,rfl,by decide +kernel,by decide +kernel⟩
theorem sc_whole:FnScope ["self"] ["self"] (defScope s_whole):=⟨rfl,rfl,rfl,by decide +kernel,rfl,by decide +kernel,by decide +kernel⟩
end Sw75
namespace Sw75
open PySem PySem.Spec PyProof.Rows L2 Sw
section
variable {P:Program}{w:World}{K:PySem.W.Frag}{mg:Str→Option Value}{base:Heap}{f:Addr}{fd:FuncData}
theorem ok___init__ {C:Addr} (cC:Cls K C) (nR:NoAttr K C "rows") (nP:NoAttr K C "places") (nN:NoAttr K C "named")
  (F:Fun K "__init__" "Reading.__init__" s___init__ f fd):FnOk P w K mg base CX0 31 f fd ["self"] (spInit K C):=by
 refine okQ F sc___init__ (fun vs H Q E h=>?_) (fun cdv A outer s H vs Q E hr h=>?_)
 ·obtain⟨o,dx,H₀,rfl,_⟩:=h
  rfl
 obtain⟨o,dx,H₀,rfl,S0,o0,ho,q⟩:=h
 refine⟨_,(qss_cons (qs_fld (qv 0) (qe_lst (qa_cons (qe_lst qa_nil) qa_nil)) rfl)
   (qss_cons (qs_fld (qv 0) (qe_lst (qa_cons qe_str qa_nil)) rfl)
   (qss_one (qs_fld (qv 0) qe_str rfl)))),?_⟩
 refine⟨Nat.zero_le _,fun q1 g1=>⟨(by show 1≤sizeLine; decide),fun q2 g2=>?_⟩⟩
 have S1:=same_new g1 (.lst [])
 have S2:=same_new g2 (.lst [.ref q1])
 have n21:q1≠q2:=fun z=>by rw [← z,upd_same] at g2; cases g2
 have o1:o≠q1:=ne_of_none ho g1
 have o2:o≠q2:=ne_of_none (S1 _ _ ho) g2
 have ho2:=S2 _ _ (S1 _ _ ho)
 have h1a:=S2 _ _ (upd_same (H:=H) (a:=q1) (o:=.lst []))
 have h2a:upd (upd H q1 (.lst [])) q2 (.lst [.ref q1]) q2=some (.lst [.ref q1]):=upd_same
 have S12:=S1.trans S2
 generalize upd (upd H q1 (.lst [])) q2 (.lst [.ref q1])=Ha at ho2 h1a h2a S12
 refine⟨_,rfl,o,C,dx,_,rfl,ho2,cC,nR,(by show 0<1000; decide),(by show 1≤sizeLine; decide),fun q3 g3=>?_⟩
 have k1:=Kt.ins (x:=.ins C dx (putF "rows" (.ref q2) [])) ho2
 have hb0:upd Ha o (.ins C dx (putF "rows" (.ref q2) [])) o=some (.ins C dx (putF "rows" (.ref q2) [])):=upd_same
 have hb1:upd Ha o (.ins C dx (putF "rows" (.ref q2) [])) q1=some (.lst []):=by rw [upd_ne (Ne.symm o1)]; exact h1a
 have hb2:upd Ha o (.ins C dx (putF "rows" (.ref q2) [])) q2=some (.lst [.ref q1]):=by rw [upd_ne (Ne.symm o2)]; exact h2a
 have Sb:Same H₀ (upd Ha o (.ins C dx (putF "rows" (.ref q2) []))):=same_upd (S0.trans S12) o0
 generalize upd Ha o (.ins C dx (putF "rows" (.ref q2) []))=Hb at g3 k1 hb0 hb1 hb2 Sb ⊢
 have S3:=same_new g3 (.lst [.str (PySem.Str.ofString "text")])
 have o3:o≠q3:=ne_of_none hb0 g3
 have n13:q1≠q3:=ne_of_none hb1 g3
 have n23:q2≠q3:=ne_of_none hb2 g3
 have hl1:(putF "rows" (.ref q2) []).length≤1:=putF_len _ _ _
 have hl2:=putF_len "places" (.ref q3) (putF "rows" (.ref q2) [])
 refine⟨_,rfl,o,C,dx,_,rfl,S3 _ _ hb0,cC,nP,by lia,?_⟩
 refine⟨_,rfl,o,C,dx,_,rfl,upd_same,cC,nN,by lia,?_⟩
 have kc0:=S3 _ _ hb0
 have hc1:=S3 _ _ hb1
 have hc2:=S3 _ _ hb2
 have hc3:upd Hb q3 (.lst [.str (PySem.Str.ofString "text")]) q3=some (.lst [.str (PySem.Str.ofString "text")]):=upd_same
 have Sc:=Sb.trans S3
 have q30:H₀ q3=none:=Sb.free g3
 have q20:H₀ q2=none:=(S0.trans S1).free g2
 have q10:H₀ q1=none:=S0.free g1
 have kc:=(Kt.of S12).trans (k1.trans (Kt.of S3))
 generalize upd Hb q3 (.lst [.str (PySem.Str.ofString "text")])=Hc at kc0 hc1 hc2 hc3 Sc kc ⊢
 have k3:=Kt.ins (x:=.ins C dx (putF "places" (.ref q3) (putF "rows" (.ref q2) []))) kc0
 have hd0:upd Hc o (.ins C dx (putF "places" (.ref q3) (putF "rows" (.ref q2) []))) o=some (.ins C dx (putF "places" (.ref q3) (putF "rows" (.ref q2) []))):=upd_same
 have k4:=Kt.ins (x:=.ins C dx (putF "named" (.str (PySem.Str.ofString "")) (putF "places" (.ref q3) (putF "rows" (.ref q2) [])))) hd0
 have at4:∀ {b:Addr}{z:HO},b≠o→Hc b=some z→upd (upd Hc o (.ins C dx (putF "places" (.ref q3) (putF "rows" (.ref q2) [])))) o (.ins C dx (putF "named" (.str (PySem.Str.ofString "")) (putF "places" (.ref q3) (putF "rows" (.ref q2) [])))) b=some z:=fun hb e=>by rw [upd_ne hb,upd_ne hb]; exact e
 refine q _ (kc.trans (k3.trans k4)) ⟨dx,q2,q3,[.ref q1],?_,o0,q30,⟨q20,same_upd (same_upd Sc o0) o0,at4 (Ne.symm o2) hc2,All2.one ⟨q1,[],rfl,q10,at4 (Ne.symm o1) hc1,TRs_nil.mpr rfl⟩,?_⟩,?_,?_⟩
 ·rw [upd_same,tx_nil]
  rfl
 ·refine List.nodup_cons.mpr ⟨fun z=>n21 (V.ref.inj (List.mem_singleton.mp z)).symm,by simp⟩
 ·rw [at4 (Ne.symm o3) hc3,tx_text]
  rfl
 ·intro z
  rcases List.mem_cons.mp z with z | z
  ·exact n23 (V.ref.inj z).symm
  ·exact n13 (V.ref.inj (List.mem_singleton.mp z)).symm
theorem ok_enter {C:Addr} (cC:Cls K C) (nR:NoAttr K C "rows") (nP:NoAttr K C "places") (nN:NoAttr K C "named")
  (F:Fun K "enter" "Reading.enter" s_enter f fd):FnOk P w K mg base CX0 31 f fd ["self","place"] (spEnter K C):=by
 refine okQ F sc_enter (fun vs H Q E h=>?_) (fun cdv A outer s H vs Q E hr h=>?_)
 ·obtain⟨o,c,H₀,st,pl,nm,rfl,_⟩:=h
  rfl
 obtain⟨o,c,H₀,st,pl,nm,rfl,h,hst,hpl,q⟩:=h
 refine⟨_,(qss_cons (qs_expr (qe_bm PySem.F.plainAttrs_list PySem.F.slot_list_append PySem.F.type_list_append mt_append (qe_fld (qv 0) rfl) (qa_cons (qe_lst qa_nil) qa_nil)))
   (qss_one (qs_expr (qe_bm PySem.F.plainAttrs_list PySem.F.slot_list_append PySem.F.type_list_append mt_append (qe_fld (qv 0) rfl) (qa_cons (qv 1) qa_nil))))),?_⟩
 obtain⟨dx,R,P,ys,h⟩:=h
 have hyl:ys.length=st.length:=by rw [h.rows.rows.length,List.length_reverse]
 refine⟨_,rfl,o,C,dx,_,_,rfl,h.ob,cC,nR,fl_rows,.inl ⟨rfl,_,SqL.of h.rows.at_⟩,Nat.zero_le _,fun q1 g1=>⟨R,ys,_,rfl,rfl,(same_new g1 _) _ _ h.rows.at_,smallL (by lia),?_⟩⟩
 have h2:=h.enter g1
 have k1:Kt H (upd (upd H q1 (.lst [])) R (.lst (ys++[.ref q1]))):=(Kt.new g1).trans (Kt.lst ((same_new g1 _) _ _ h.rows.at_))
 refine⟨_,rfl,o,C,dx,_,_,rfl,h2.ob,cC,nP,fl_places,.inl ⟨rfl,_,SqL.of h2.at_⟩,_,rfl,P,_,_,rfl,rfl,h2.at_,smallL (by rw [plV_len]; lia),?_⟩
 exact q _ (k1.trans (Kt.lst h2.at_)) ⟨dx,R,P,_,h2.place (plV_cons c pl).symm⟩
theorem ok_leave {C:Addr} (cC:Cls K C) (nR:NoAttr K C "rows") (nP:NoAttr K C "places") (nN:NoAttr K C "named") (m_tuple:mg "tuple"=none)
  (F:Fun K "leave" "Reading.leave" s_leave f fd):FnOk P w K mg base CX0 31 f fd ["self"] (spLeave K C):=by
 refine okQ F sc_leave (fun vs H Q E h=>?_) (fun cdv A outer s H vs Q E hr h=>?_)
 ·obtain⟨o,c,H₀,r,st,pl,nm,rfl,_⟩:=h
  rfl
 obtain⟨o,c,H₀,r,st,pl,nm,rfl,h,q⟩:=h
 refine⟨_,(qss_cons (qs_expr (qe_bm0 PySem.F.plainAttrs_list PySem.F.slot_list_pop PySem.F.type_list_pop mt_pop (qe_fld (qv 0) rfl)))
   (qss_one (qs_ret (qe_callTy call_tuple_of rfl m_tuple bt_tuple (qa_cons (qe_bm0 PySem.F.plainAttrs_list PySem.F.slot_list_pop PySem.F.type_list_pop mt_pop (qe_fld (qv 0) rfl)) qa_nil))))),?_⟩
 obtain⟨dx,R,P,ys,h⟩:=h
 refine⟨_,rfl,o,C,dx,_,_,rfl,h.ob,cC,nP,fl_places,.inl ⟨rfl,_,SqL.of h.at_⟩,P,_,_,rfl,rfl,h.at_,(by rw [plV_cons]; exact snoc_last _ _),?_⟩
 have h2:RdX K C H₀ _ o dx R P ys (r::st) pl nm:=h.place (zs:=(plV (c::pl)).dropLast) (by rw [plV_cons,snoc_drop])
 obtain⟨ys0,a,xs,rfl,nRa,ha,hr,h3⟩:=h2.shut
 have k1:=Kt.lst (o:=.lst (plV (c::pl)).dropLast) h.at_
 have k2:=Kt.lst (o:=.lst (ys0++[V.ref a]).dropLast) h2.rows.at_
 refine⟨_,rfl,o,C,dx,_,_,rfl,h2.ob,cC,nR,fl_rows,.inl ⟨rfl,_,SqL.of h2.rows.at_⟩,R,_,_,rfl,rfl,h2.rows.at_,snoc_last _ _,?_⟩
 rw [snoc_drop] at k2 ⊢
 refine⟨a,xs,rfl,.inl ⟨SqL.of (by rw [upd_ne (Ne.symm nRa)]; exact ha),fun l gl=>q _ _ (k1.trans (k2.trans (Kt.new gl))) ⟨dx,R,P,_,h3.grow (same_new gl _)⟩ (TR_mk (SqT.of upd_same) ((hr.mono k2).mono (Kt.new gl)))⟩⟩
theorem ok_add_word {C:Addr} (cC:Cls K C) (nR:NoAttr K C "rows") (nP:NoAttr K C "places") (nN:NoAttr K C "named")
  (F:Fun K "add_word" "Reading.add_word" s_add_word f fd):FnOk P w K mg base CX0 31 f fd ["self","word"] (spAddW K C):=by
 refine okQ F sc_add_word (fun vs H Q E h=>?_) (fun cdv A outer s H vs Q E hr h=>?_)
 ·obtain⟨o,x,t,H₀,r,st,pl,nm,rfl,_⟩:=h
  rfl
 obtain⟨o,x,t,H₀,r,st,pl,nm,rfl,ht,h,hrl,q⟩:=h
 refine⟨_,(qss_one (qs_expr (qe_bm PySem.F.plainAttrs_list PySem.F.slot_list_append PySem.F.type_list_append mt_append (qe_ix ix_list (qe_fld (qv 0) rfl) (qe_un un_neg qe_int) (fun _ _=>rfl)) (qa_cons (qv 1) qa_nil)))),?_⟩
 obtain⟨dx,R,P,ys,h⟩:=h
 obtain⟨ys0,a,xs,rfl,ha,hxl,h2⟩:=h.add ht
 exact⟨_,rfl,o,C,dx,_,_,rfl,h.ob,cC,nR,fl_rows,1,rfl,R,_,_,_,rfl,rfl,SqL.of h.rows.at_,at_last,.inl ⟨rfl,_,SqL.of ha⟩,_,rfl,a,_,_,rfl,rfl,ha,smallL (by lia),q _ (Kt.lst ha) ⟨dx,R,P,_,h2⟩⟩
theorem ok_bracketed {C:Addr} (cC:Cls K C) (nR:NoAttr K C "rows") (nP:NoAttr K C "places") (nN:NoAttr K C "named")
  {a_loop:Addr}{d_loop:FuncData} (F_loop:Fun K "loop" "loop" s_loop a_loop d_loop) (G_loop:FnOk P w K mg base CX0 32 a_loop d_loop ["body"] (spLoop K)) (b_loop:Binds K d_loop ["body"] []) (m_loop:mg "loop"=some (.ref a_loop))
  {a_fork:Addr}{d_fork:FuncData} (F_fork:Fun K "fork" "fork" s_fork a_fork d_fork) (G_fork:FnOk P w K mg base CX0 32 a_fork d_fork ["yes","no"] (spFork K)) (b_fork:Binds K d_fork ["yes","no"] []) (m_fork:mg "fork"=some (.ref a_fork))
  {a_leave:Addr}{d_leave:FuncData} (M_leave:Meth K C "leave" a_leave) (G_leave:FnOk P w K mg base CX0 32 a_leave d_leave ["self"] (spLeave K C)) (b_leave:Binds K d_leave ["self"] [])
  (F:Fun K "bracketed" "Reading.bracketed" s_bracketed f fd):FnOk P w K mg base CX0 33 f fd ["self"] (spBrack K C):=by
 refine okQ F sc_bracketed (fun vs H Q E h=>?_) (fun cdv A outer s H vs Q E hr h=>?_)
 ·obtain⟨o,H₀,st,st2,pl,pl2,nm,t,rfl,_⟩:=h
  rfl
 obtain⟨o,H₀,st,st2,pl,pl2,nm,t,rfl,h,hc,q⟩:=h
 refine⟨_,(qss_cons (qs_if (qt_cmpR op_eq (qe_ix ix_list (qe_fld (qv 0) rfl) (qe_un un_neg qe_int) (fun _ _=>rfl)) qe_str (nomark _)) (qss_one (qs_ret (qe_call G_loop hr rfl m_loop F_loop.kp b_loop .nil pass0 (qa_cons (qe_meth0 (qv 0) cC M_leave G_leave hr b_leave .nil pass0) qa_nil)))) qss_nil)
   (qss_cons (qs_if (qt_cmpR op_ne (qe_ix ix_list (qe_fld (qv 0) rfl) (qe_un un_neg qe_int) (fun _ _=>rfl)) qe_str (nomark _)) (qss_one qs_never) qss_nil)
   (qss_cons (qs_set (i:=1) sc_bracketed.nd rfl (Or.inl rfl) (qe_meth0 (qv 0) cC M_leave G_leave hr b_leave .nil pass0))
   (qss_one (qs_ret (qe_call G_fork hr rfl m_fork F_fork.kp b_fork .nil pass0 (qa_cons (qe_meth0 (qv 0) cC M_leave G_leave hr b_leave .nil pass0) (qa_cons (qv 1) qa_nil)))))))),?_⟩
 obtain⟨dx,R,P,ys,h⟩:=h
 have noL:∀ {R P:Addr}{nm:List Nat},(fl R P nm).lookup ("leave":Str)=none:=fl_no (by decide +kernel) (by decide +kernel) (by decide +kernel)
 rcases hc with⟨r,rfl,rfl,rfl,hb⟩ | ⟨n,y,rfl,rfl,rfl,hn,hy⟩
 ·refine⟨_,rfl,o,C,dx,_,_,rfl,h.ob,cC,nP,fl_places,1,rfl,P,_,_,_,rfl,rfl,SqL.of h.at_,(by rw [plV_cons]; exact at_last),rfl,_,rfl,?_⟩
  rw [decide_eq_true (congrArg V.str tx_body.symm)]
  refine iteT ⟨_,rfl,o,dx,_,rfl,h.ob,noL,o,bodyC,H₀,r,st2,pl2,nm,rfl,⟨dx,R,P,ys,h⟩,fun y H' k1 h1 t1=>⟨y,.node r,rfl,t1,hb.1,hb.2,fun z H2 S2 t2=>q _ _ (k1.trans (.of S2)) (h1.grow S2) t2⟩⟩
 ·refine⟨_,rfl,o,C,dx,_,_,rfl,h.ob,cC,nP,fl_places,1,rfl,P,_,_,_,rfl,rfl,SqL.of h.at_,(by rw [plV_cons]; exact at_last),rfl,_,rfl,?_⟩
  rw [decide_eq_false (fun z=>absurd (tx_inj.mp ((V.str.inj z).trans tx_body)) (by decide))]
  refine iteF ?_
  refine⟨_,rfl,o,C,dx,_,_,rfl,h.ob,cC,nP,fl_places,1,rfl,P,_,_,_,rfl,rfl,SqL.of h.at_,(by rw [plV_cons]; exact at_last),rfl,_,rfl,?_⟩
  rw [decide_eq_true (congrArg V.str tx_no.symm)]
  refine iteF ?_
  refine⟨_,rfl,o,dx,_,rfl,h.ob,noL,o,noC,H₀,n,y::st2,yesC::pl2,nm,rfl,⟨dx,R,P,ys,h⟩,fun vn H1 k1 h1 t1=>?_⟩
  obtain⟨dx1,R1,P1,ys1,h1⟩:=h1
  refine⟨_,rfl,o,dx1,_,rfl,h1.ob,noL,o,yesC,H₀,y,st2,pl2,nm,rfl,⟨dx1,R1,P1,ys1,h1⟩,fun vy H2 k2 h2 t2=>⟨_,rfl,vy,.node y,vn,.node n,rfl,t2,t1.mono k2,⟨hy.1,hy.2⟩,⟨hn.1,hn.2⟩,fun z H3 S3 t3=>q _ _ (k1.trans (k2.trans (.of S3))) (h2.grow S3) t3⟩⟩
theorem ok_whole {C:Addr} (cC:Cls K C) (nR:NoAttr K C "rows") (nP:NoAttr K C "places") (nN:NoAttr K C "named") (m_len:mg "len"=none) (m_tuple:mg "tuple"=none)
  (F:Fun K "whole" "Reading.whole" s_whole f fd):FnOk P w K mg base CX0 31 f fd ["self"] (spWhole K C):=by
 refine okQ F sc_whole (fun vs H Q E h=>?_) (fun cdv A outer s H vs Q E hr h=>?_)
 ·obtain⟨o,H₀,r,pl,rfl,_⟩:=h
  rfl
 obtain⟨o,H₀,r,pl,rfl,h,q⟩:=h
 refine⟨_,(qss_cons (qs_if (QW.pt (qw_or (qt_cmpR op_ne (qe_fld (qv 0) rfl) qe_str (nomark _)) (qw_or1 (qt_cmpR op_ne (qe_callB call_len_seq rfl m_len bt_len (qa_cons (qe_fld (qv 0) rfl) qa_nil)) qe_int (nomark _))))) (qss_one qs_never) qss_nil)
   (qss_one (qs_ret (qe_callTy call_tuple_of rfl m_tuple bt_tuple (qa_cons (qe_ix ix_list (qe_fld (qv 0) rfl) qe_int (fun _ _=>rfl)) qa_nil))))),?_⟩
 obtain⟨dx,R,P,ys,h⟩:=h
 have hyl:ys.length=1:=by rw [h.rows.rows.length,List.length_reverse]; rfl
 obtain⟨ys0,a,xs,rfl,nRa,ha,hr,_⟩:=h.shut
 have e0:ys0=[]:=List.length_eq_zero_iff.mp (by rw [List.length_append,List.length_singleton] at hyl; lia)
 subst e0
 refine⟨_,rfl,o,C,dx,_,_,rfl,h.ob,cC,nN,fl_named,rfl,_,rfl,?_⟩
 rw [decide_eq_true (congrArg V.str tx_nil.symm)]
 refine iteF ⟨_,rfl,o,C,dx,_,_,rfl,h.ob,cC,nR,fl_rows,R,_,rfl,.inl (SqL.of h.rows.at_),rfl,_,rfl,?_⟩
 refine iteF ?_
 refine⟨_,rfl,o,C,dx,_,_,rfl,h.ob,cC,nR,fl_rows,R,_,0,_,rfl,rfl,SqL.of h.rows.at_,atI_nat (j:=0) rfl,a,xs,rfl,.inl ⟨SqL.of ha,fun l gl=>q _ _ (h.rows.same.trans (same_new gl _)) (TR_mk (SqT.of upd_same) (hr.mono (Kt.new gl)))⟩⟩
end
end Sw75
namespace Sw75
open PySem PySem.Spec PyProof.Rows L2 Sw
section
variable {P:Program}{w:World}{K:PySem.W.Frag}{mg:Str→Option Value}{base:Heap}{f:Addr}{fd:FuncData}
theorem ok_take {C:Addr} (cC:Cls K C) (nR:NoAttr K C "rows") (nP:NoAttr K C "places") (nN:NoAttr K C "named") {a_NAMES:Addr} (m_NAMES:mg "NAMES"=some (.ref a_NAMES)) (q_NAMES:∀ H,SqT K H a_NAMES [.str (PySem.Str.ofString "lay"),.str (PySem.Str.ofString "drop"),.str (PySem.Str.ofString "twin"),.str (PySem.Str.ofString "swap"),.str (PySem.Str.ofString "front"),.str (PySem.Str.ofString "part"),.str (PySem.Str.ofString "turn"),.str (PySem.Str.ofString "fork"),.str (PySem.Str.ofString "while")]) {u_FORK:Value} (m_FORK:mg "FORK"=some u_FORK) (r_FORK:RelV (.int 7) u_FORK) {u_WHILE:Value} (m_WHILE:mg "WHILE"=some u_WHILE) (r_WHILE:RelV (.int 8) u_WHILE)
  {a_word_of:Addr}{d_word_of:FuncData} (F_word_of:Fun K "word_of" "word_of" s_word_of a_word_of d_word_of) (G_word_of:FnOk P w K mg base CX0 39 a_word_of d_word_of ["piece"] (spWordOf K)) (b_word_of:Binds K d_word_of ["piece"] []) (m_word_of:mg "word_of"=some (.ref a_word_of))
  {a_enter:Addr}{d_enter:FuncData} (M_enter:Meth K C "enter" a_enter) (G_enter:FnOk P w K mg base CX0 39 a_enter d_enter ["self","place"] (spEnter K C)) (b_enter:Binds K d_enter ["self","place"] [])
  {a_add_word:Addr}{d_add_word:FuncData} (M_add_word:Meth K C "add_word" a_add_word) (G_add_word:FnOk P w K mg base CX0 39 a_add_word d_add_word ["self","word"] (spAddW K C)) (b_add_word:Binds K d_add_word ["self","word"] [])
  {a_bracketed:Addr}{d_bracketed:FuncData} (M_bracketed:Meth K C "bracketed" a_bracketed) (G_bracketed:FnOk P w K mg base CX0 39 a_bracketed d_bracketed ["self"] (spBrack K C)) (b_bracketed:Binds K d_bracketed ["self"] [])
  (F:Fun K "take" "Reading.take" s_take f fd):FnOk P w K mg base CX0 40 f fd ["self","piece"] (spTake K C):=by
 refine okQ F sc_take (fun vs H Q E h=>?_) (fun cdv A outer s H vs Q E hr h=>?_)
 ·obtain⟨o,p,H₀,sa,sb,rfl,_⟩:=h
  rfl
 obtain⟨o,p,H₀,sa,sb,rfl,h,hs,za,zb,q⟩:=h
 refine⟨_,(qss_cons (qs_if (qt_cmpR op_ne (qe_cmpR op_eq (qv 1) qe_str (nomark _)) (qe_cmpR op_ne (qe_fld (qv 0) rfl) qe_str (nomark _)) (nomark _)) (qss_one qs_never) qss_nil)
   (qss_one (qs_if (qt_cmpR op_eq (qv 1) qe_str (nomark _)) (qss_cons (qs_expr (qe_meth (qv 0) cC M_enter G_enter hr b_enter .nil pass0 (qa_cons (qe_ifExp (qt_cmpR op_eq (qe_fld (qv 0) rfl) (qe_ix ix_tup (qe_glob (v:=.ref a_NAMES) rfl m_NAMES rfl) (qe_glob (v:=.int 7) rfl m_FORK r_FORK) (fun _ _=>rfl)) (nomark _)) qe_str qe_str) qa_nil)))
   (qss_one (qs_fld (qv 0) qe_str rfl))) (qss_one (qs_if (qt_cmpR op_in_seq (qv 1) (qe_tup (qa_cons (qe_ix ix_tup (qe_glob (v:=.ref a_NAMES) rfl m_NAMES rfl) (qe_glob (v:=.int 7) rfl m_FORK r_FORK) (fun _ _=>rfl)) (qa_cons (qe_ix ix_tup (qe_glob (v:=.ref a_NAMES) rfl m_NAMES rfl) (qe_glob (v:=.int 8) rfl m_WHILE r_WHILE) (fun _ _=>rfl)) qa_nil))) rfl) (qss_one (qs_fld (qv 0) (qv 1) rfl)) (qss_one (qs_if (QW.pt (qw_and (qt_cmpR op_eq (qv 1) qe_str (nomark _)) (qw_and1 (qt_cmpR op_eq (qe_ix ix_list (qe_fld (qv 0) rfl) (qe_un un_neg qe_int) (fun _ _=>rfl)) qe_str (nomark _))))) (qss_one (qs_expr (qe_meth (qv 0) cC M_enter G_enter hr b_enter .nil pass0 (qa_cons qe_str qa_nil)))) (qss_one (qs_if (qt_cmpR op_eq (qv 1) qe_str (nomark _)) (qss_one (qs_expr (qe_meth (qv 0) cC M_add_word G_add_word hr b_add_word .nil pass0 (qa_cons (qe_meth0 (qv 0) cC M_bracketed G_bracketed hr b_bracketed .nil pass0) qa_nil)))) (qss_one (qs_expr (qe_meth (qv 0) cC M_add_word G_add_word hr b_add_word .nil pass0 (qa_cons (qe_call G_word_of hr rfl m_word_of F_word_of.kp b_word_of .nil pass0 (qa_cons (qv 1) qa_nil)) qa_nil))))))))))))),?_⟩
 have nmq:∀ H,SqT K H a_NAMES namesV:=fun H=>by rw [← names_tx]; exact q_NAMES H
 have noE:∀ {R P:Addr}{nm:List Nat},(fl R P nm).lookup ("enter":Str)=none:=fl_no (by decide +kernel) (by decide +kernel) (by decide +kernel)
 have noA:∀ {R P:Addr}{nm:List Nat},(fl R P nm).lookup ("add_word":Str)=none:=fl_no (by decide +kernel) (by decide +kernel) (by decide +kernel)
 have noB:∀ {R P:Addr}{nm:List Nat},(fl R P nm).lookup ("bracketed":Str)=none:=fl_no (by decide +kernel) (by decide +kernel) (by decide +kernel)
 obtain⟨dx,R,P,ys,h⟩:=h
 cases hs with
 | @openF st pl =>
  dsimp only at h
  refine⟨_,rfl,rfl,_,rfl,o,C,dx,_,_,rfl,h.ob,cC,nN,fl_named,rfl,rfl,_,rfl,?_⟩
  rw [dec_txs _ [91] tx_lb,dec_txs _ [] tx_nil]
  refine iteFb (by decide) ?_
  refine⟨_,rfl,rfl,_,rfl,?_⟩
  rw [dec_txs _ [91] tx_lb]
  refine iteTb (by decide) ?_
  refine⟨_,rfl,o,dx,_,rfl,h.ob,noE,_,rfl,o,C,dx,_,_,rfl,h.ob,cC,nN,fl_named,a_NAMES,_,7,_,rfl,rfl,nmq _,name_at (k:=7) (by decide),rfl,_,rfl,?_⟩
  rw [dec_txs _ (nmC 7) rfl]
  refine iteTb (by decide) ⟨o,yesC,H₀,st,pl,_,(by show [V.ref o,V.str (PySem.Str.ofString "yes")]=_; rw [tx_yes]),⟨dx,R,P,ys,h⟩,za.st,za.pl,fun H1 k1 h1=>?_⟩
  obtain⟨dx1,R1,P1,ys1,h1⟩:=h1
  refine⟨_,rfl,o,C,dx1,_,rfl,h1.ob,cC,nN,fl_len,?_⟩
  exact q _ (k1.trans (Kt.ins h1.ob)) ⟨dx1,R1,P1,ys1,by rw [tx_nil,fl_put]; exact h1.name []⟩
 | @openW st pl =>
  dsimp only at h
  refine⟨_,rfl,rfl,_,rfl,o,C,dx,_,_,rfl,h.ob,cC,nN,fl_named,rfl,rfl,_,rfl,?_⟩
  rw [dec_txs _ [91] tx_lb,dec_txs _ [] tx_nil]
  refine iteFb (by decide) ?_
  refine⟨_,rfl,rfl,_,rfl,?_⟩
  rw [dec_txs _ [91] tx_lb]
  refine iteTb (by decide) ?_
  refine⟨_,rfl,o,dx,_,rfl,h.ob,noE,_,rfl,o,C,dx,_,_,rfl,h.ob,cC,nN,fl_named,a_NAMES,_,7,_,rfl,rfl,nmq _,name_at (k:=7) (by decide),rfl,_,rfl,?_⟩
  rw [dec_txs _ (nmC 7) rfl]
  refine iteFb (by decide) ⟨o,bodyC,H₀,st,pl,_,(by show [V.ref o,V.str (PySem.Str.ofString "body")]=_; rw [tx_body]),⟨dx,R,P,ys,h⟩,za.st,za.pl,fun H1 k1 h1=>?_⟩
  obtain⟨dx1,R1,P1,ys1,h1⟩:=h1
  refine⟨_,rfl,o,C,dx1,_,rfl,h1.ob,cC,nN,fl_len,?_⟩
  exact q _ (k1.trans (Kt.ins h1.ob)) ⟨dx1,R1,P1,ys1,by rw [tx_nil,fl_put]; exact h1.name []⟩
 | @name st pl k hk =>
  rcases hk with rfl | rfl
  all_goals
   dsimp only at h
   refine⟨_,rfl,rfl,_,rfl,o,C,dx,_,_,rfl,h.ob,cC,nN,fl_named,rfl,rfl,_,rfl,?_⟩
   rw [dec_txs _ [91] tx_lb,dec_txs _ [] tx_nil]
   refine iteFb (by decide) ?_
   refine⟨_,rfl,rfl,_,rfl,?_⟩
   rw [dec_txs _ [91] tx_lb]
   refine iteFb (by decide) ?_
   refine⟨_,rfl,a_NAMES,_,7,_,rfl,rfl,nmq _,name_at (k:=7) (by decide),a_NAMES,_,8,_,rfl,rfl,nmq _,name_at (k:=8) (by decide),(by show 2≤sizeLine; decide),fun q1 g1=>⟨q1,_,rfl,.inr (SqT.of upd_same),rfl,rfl,_,rfl,?_⟩⟩
   rw [show (if false=true then !inV (.str (tx (_))) [.str (tx (nmC 7)),.str (tx (nmC 8))] else inV (.str (tx (_))) [.str (tx (nmC 7)),.str (tx (nmC 8))])=(decide (nmC 7=_) || decide (nmC 8=_)) from in_two _ _ _]
   have S1:=same_new g1 (.tup [.str (tx (nmC 7)),.str (tx (nmC 8))])
   have h':=h.grow S1
   refine iteTb (by decide) ?_
   refine⟨_,rfl,_,rfl,o,C,dx,_,rfl,h'.ob,cC,nN,fl_len,?_⟩
   exact q _ ((Kt.of S1).trans (Kt.ins h'.ob)) ⟨dx,R,P,ys,by rw [fl_put]; exact h'.name _⟩
 | @bar st pl =>
  dsimp only at h
  refine⟨_,rfl,rfl,_,rfl,o,C,dx,_,_,rfl,h.ob,cC,nN,fl_named,rfl,rfl,_,rfl,?_⟩
  rw [dec_txs _ [91] tx_lb,dec_txs _ [] tx_nil]
  refine iteFb (by decide) ?_
  refine⟨_,rfl,rfl,_,rfl,?_⟩
  rw [dec_txs _ [91] tx_lb]
  refine iteFb (by decide) ?_
  refine⟨_,rfl,a_NAMES,_,7,_,rfl,rfl,nmq _,name_at (k:=7) (by decide),a_NAMES,_,8,_,rfl,rfl,nmq _,name_at (k:=8) (by decide),(by show 2≤sizeLine; decide),fun q1 g1=>⟨q1,_,rfl,.inr (SqT.of upd_same),rfl,rfl,_,rfl,?_⟩⟩
  rw [show (if false=true then !inV (.str (tx [124])) [.str (tx (nmC 7)),.str (tx (nmC 8))] else inV (.str (tx [124])) [.str (tx (nmC 7)),.str (tx (nmC 8))])=(decide (nmC 7=[124]) || decide (nmC 8=[124])) from in_two _ _ _]
  have S1:=same_new g1 (.tup [.str (tx (nmC 7)),.str (tx (nmC 8))])
  have h':=h.grow S1
  refine iteFb (by decide) ?_
  refine⟨_,rfl,rfl,_,rfl,?_⟩
  rw [dec_txs _ [124] tx_bar]
  refine iteTb (by decide) ⟨_,rfl,o,C,dx,_,_,rfl,h'.ob,cC,nP,fl_places,1,rfl,P,_,_,_,rfl,rfl,SqL.of h'.at_,(by rw [plV_cons]; exact at_last),rfl,_,rfl,?_⟩
  rw [dec_txs _ yesC tx_yes]
  refine iteTb (by decide) ?_
  exact⟨_,rfl,o,dx,_,rfl,h'.ob,noE,o,noC,H₀,st,yesC::pl,_,(by show [V.ref o,V.str (PySem.Str.ofString "no")]=_; rw [tx_no]),⟨dx,R,P,ys,h'⟩,za.st,za.pl,fun H1 k1 h1=>q _ ((Kt.of S1).trans k1) h1⟩
 | @shutW r s' st pl =>
  dsimp only at h
  refine⟨_,rfl,rfl,_,rfl,o,C,dx,_,_,rfl,h.ob,cC,nN,fl_named,rfl,rfl,_,rfl,?_⟩
  rw [dec_txs _ [91] tx_lb,dec_txs _ [] tx_nil]
  refine iteFb (by decide) ?_
  refine⟨_,rfl,rfl,_,rfl,?_⟩
  rw [dec_txs _ [91] tx_lb]
  refine iteFb (by decide) ?_
  refine⟨_,rfl,a_NAMES,_,7,_,rfl,rfl,nmq _,name_at (k:=7) (by decide),a_NAMES,_,8,_,rfl,rfl,nmq _,name_at (k:=8) (by decide),(by show 2≤sizeLine; decide),fun q1 g1=>⟨q1,_,rfl,.inr (SqT.of upd_same),rfl,rfl,_,rfl,?_⟩⟩
  rw [show (if false=true then !inV (.str (tx [93])) [.str (tx (nmC 7)),.str (tx (nmC 8))] else inV (.str (tx [93])) [.str (tx (nmC 7)),.str (tx (nmC 8))])=(decide (nmC 7=[93]) || decide (nmC 8=[93])) from in_two _ _ _]
  have S1:=same_new g1 (.tup [.str (tx (nmC 7)),.str (tx (nmC 8))])
  have h':=h.grow S1
  refine iteFb (by decide) ?_
  refine⟨_,rfl,rfl,_,rfl,?_⟩
  rw [dec_txs _ [124] tx_bar]
  refine iteFb (by decide) (iteF ?_)
  refine⟨_,rfl,rfl,_,rfl,?_⟩
  rw [dec_txs _ [93] tx_rb]
  refine iteTb (by decide) ?_
  refine⟨_,rfl,o,dx,_,rfl,h'.ob,noA,_,rfl,o,dx,_,rfl,h'.ob,noB,o,H₀,_,_,_,_,_,_,rfl,⟨dx,R,P,ys,h'⟩,.inl ⟨r,rfl,rfl,rfl,(za.each r List.mem_cons_self).le (by lia) (by lia)⟩,fun x H2 k2 h2 t2=>⟨o,x,_,H₀,s',st,pl,[],rfl,t2,h2,(by have:=(za.each s' (by simp)).len; lia),fun H3 k3 h3=>q _ ((Kt.of S1).trans (k2.trans k3)) h3⟩⟩
 | @shutF n y s' st pl =>
  dsimp only at h
  refine⟨_,rfl,rfl,_,rfl,o,C,dx,_,_,rfl,h.ob,cC,nN,fl_named,rfl,rfl,_,rfl,?_⟩
  rw [dec_txs _ [91] tx_lb,dec_txs _ [] tx_nil]
  refine iteFb (by decide) ?_
  refine⟨_,rfl,rfl,_,rfl,?_⟩
  rw [dec_txs _ [91] tx_lb]
  refine iteFb (by decide) ?_
  refine⟨_,rfl,a_NAMES,_,7,_,rfl,rfl,nmq _,name_at (k:=7) (by decide),a_NAMES,_,8,_,rfl,rfl,nmq _,name_at (k:=8) (by decide),(by show 2≤sizeLine; decide),fun q1 g1=>⟨q1,_,rfl,.inr (SqT.of upd_same),rfl,rfl,_,rfl,?_⟩⟩
  rw [show (if false=true then !inV (.str (tx [93])) [.str (tx (nmC 7)),.str (tx (nmC 8))] else inV (.str (tx [93])) [.str (tx (nmC 7)),.str (tx (nmC 8))])=(decide (nmC 7=[93]) || decide (nmC 8=[93])) from in_two _ _ _]
  have S1:=same_new g1 (.tup [.str (tx (nmC 7)),.str (tx (nmC 8))])
  have h':=h.grow S1
  refine iteFb (by decide) ?_
  refine⟨_,rfl,rfl,_,rfl,?_⟩
  rw [dec_txs _ [124] tx_bar]
  refine iteFb (by decide) (iteF ?_)
  refine⟨_,rfl,rfl,_,rfl,?_⟩
  rw [dec_txs _ [93] tx_rb]
  refine iteTb (by decide) ?_
  refine⟨_,rfl,o,dx,_,rfl,h'.ob,noA,_,rfl,o,dx,_,rfl,h'.ob,noB,o,H₀,_,_,_,_,_,_,rfl,⟨dx,R,P,ys,h'⟩,.inr ⟨n,y,rfl,rfl,rfl,(za.each n List.mem_cons_self).le (by lia) (by lia),(za.each y (by simp)).le (by lia) (by lia)⟩,fun x H2 k2 h2 t2=>⟨o,x,_,H₀,s',st,pl,[],rfl,t2,h2,(by have:=(za.each s' (by simp)).len; lia),fun H3 k3 h3=>q _ ((Kt.of S1).trans (k2.trans k3)) h3⟩⟩
 | @word w p s' st pl ho =>
  obtain⟨n1,n2,n3,n4,n5⟩:=one_ne ho
  dsimp only at h
  refine⟨_,rfl,rfl,_,rfl,o,C,dx,_,_,rfl,h.ob,cC,nN,fl_named,rfl,rfl,_,rfl,?_⟩
  rw [dec_txs _ [91] tx_lb,dec_txs _ [] tx_nil]
  refine iteFb (by rw [decide_eq_false n1]; decide) ?_
  refine⟨_,rfl,rfl,_,rfl,?_⟩
  rw [dec_txs _ [91] tx_lb]
  refine iteFb (decide_eq_false n1) ?_
  refine⟨_,rfl,a_NAMES,_,7,_,rfl,rfl,nmq _,name_at (k:=7) (by decide),a_NAMES,_,8,_,rfl,rfl,nmq _,name_at (k:=8) (by decide),(by show 2≤sizeLine; decide),fun q1 g1=>⟨q1,_,rfl,.inr (SqT.of upd_same),rfl,rfl,_,rfl,?_⟩⟩
  rw [show (if false=true then !inV (.str (tx p)) [.str (tx (nmC 7)),.str (tx (nmC 8))] else inV (.str (tx p)) [.str (tx (nmC 7)),.str (tx (nmC 8))])=(decide (nmC 7=p) || decide (nmC 8=p)) from in_two _ _ _]
  have S1:=same_new g1 (.tup [.str (tx (nmC 7)),.str (tx (nmC 8))])
  have h':=h.grow S1
  refine iteFb (by rw [decide_eq_false (Ne.symm n2),decide_eq_false (Ne.symm n3)]; rfl) ?_
  refine⟨_,rfl,rfl,_,rfl,?_⟩
  rw [dec_txs _ [124] tx_bar]
  refine iteFb (decide_eq_false n4) (iteF ?_)
  refine⟨_,rfl,rfl,_,rfl,?_⟩
  rw [dec_txs _ [93] tx_rb]
  refine iteFb (decide_eq_false n5) ?_
  have bw:B 400 100000 w:=B_mem (zb.each _ List.mem_cons_self) (by simp)
  exact⟨_,rfl,o,dx,_,rfl,h'.ob,noA,_,rfl,p,w,rfl,ho,bw,fun x H2 S2 t2=>⟨o,x,w,H₀,s',st,pl,[],rfl,t2,⟨dx,R,P,ys,h'.grow S2⟩,(by have:=(za.each s' List.mem_cons_self).len; lia),fun H3 k3 h3=>q _ ((Kt.of (S1.trans S2)).trans k3) h3⟩⟩
end
end Sw75
namespace Sw75
open PySem PySem.Spec PyProof.Rows L2 Sw
section
variable {P:Program}{w:World}{K:PySem.W.Frag}{mg:Str→Option Value}{base:Heap}{f:Addr}{fd:FuncData}
theorem ok_pieces_of
  (F:Fun K "pieces_of" "pieces_of" s_pieces_of f fd):FnOk P w K mg base CX0 31 f fd ["signs"] (spPieces K):=by
 refine okQ F sc_pieces_of (fun vs H Q E h=>?_) (fun cdv A outer s H vs Q E hr h=>?_)
 ·obtain⟨ps,rfl,_⟩:=h
  rfl
 obtain⟨ps,rfl,hok,hlen,q⟩:=h
 refine⟨_,(qss_cons (qs_if (qt_cmpR op_eq (qv 0) qe_str (nomark _)) (qss_one (qs_ret (qe_lst qa_nil))) qss_nil)
   (qss_one (qs_ret (qe_bm PySem.F.plainAttrs_str PySem.F.slot_str_split PySem.F.type_str_split mt_split (qv 0) (qa_cons qe_str qa_nil))))),?_⟩
 refine⟨_,rfl,rfl,_,rfl,?_⟩
 rw [dec_txs _ [] tx_nil]
 refine ite2 (fun e=>?_) (fun e=>?_)
 ·have e0:=join_nil (fun p hp=>(hok p hp).1) (of_decide_eq_true e)
  subst e0
  exact⟨Nat.zero_le _,fun D gD=>q D gD⟩
 ·have hne:ps≠[]:=fun z=>e (by rw [z]; rfl)
  refine⟨_,rfl,rfl,_,32,rfl,(by rw [tx_blank]),hlen,fun D ls gD hj hl hc=>?_⟩
  rw [join_uniq hl hne hc (fun p hp=>(hok p hp).2) hj]
  exact q D gD
theorem ok_read {C:Addr} (cC:Cls K C) (nR:NoAttr K C "rows") (nP:NoAttr K C "places") (nN:NoAttr K C "named") (m_isinstance:mg "isinstance"=none) (m_str:mg "str"=none)
  {a_pieces_of:Addr}{d_pieces_of:FuncData} (F_pieces_of:Fun K "pieces_of" "pieces_of" s_pieces_of a_pieces_of d_pieces_of) (G_pieces_of:FnOk P w K mg base CX0 42 a_pieces_of d_pieces_of ["signs"] (spPieces K)) (b_pieces_of:Binds K d_pieces_of ["signs"] []) (m_pieces_of:mg "pieces_of"=some (.ref a_pieces_of))
  {a___init__:Addr}{d___init__:FuncData} (MK:Mk K C a___init__) (G___init__:FnOk P w K mg base CX0 41 a___init__ d___init__ ["self"] (spInit K C)) (b___init__:Binds K d___init__ ["self"] []) (m_Reading:mg "Reading"=some (.ref C))
  {a_take:Addr}{d_take:FuncData} (M_take:Meth K C "take" a_take) (G_take:FnOk P w K mg base CX0 42 a_take d_take ["self","piece"] (spTake K C)) (b_take:Binds K d_take ["self","piece"] [])
  {a_whole:Addr}{d_whole:FuncData} (M_whole:Meth K C "whole" a_whole) (G_whole:FnOk P w K mg base CX0 42 a_whole d_whole ["self"] (spWhole K C)) (b_whole:Binds K d_whole ["self"] [])
  (F:Fun K "read" "read" s_read f fd):FnOk P w K mg base CX0 43 f fd ["signs"] (spReadX K):=by
 refine okQ F sc_read (fun vs H Q E h=>?_) (fun cdv A outer s H vs Q E hr h=>?_)
 ·obtain⟨ws,ps,rfl,_⟩:=h
  rfl
 obtain⟨ws,ps,rfl,hts,hb,q⟩:=h
 refine⟨_,(qss_cons (qs_if (qt_not (qt_val (qe_callB call_isinst rfl m_isinstance bt_isinstance (qa_cons (qv 0) (qa_cons (qe_bltn (v:=.ty "str") rfl m_str bt_str rfl) qa_nil))))) (qss_one qs_never) qss_nil)
   (qss_cons (qs_set (i:=1) sc_read.nd rfl (Or.inl rfl) (qe_make0 MK G___init__ hr rfl m_Reading b___init__ .nil pass0))
   (qss_cons (qs_for PassesOwn.never rfl (qi_list (qe_call G_pieces_of hr rfl m_pieces_of F_pieces_of.kp b_pieces_of .nil pass0 (qa_cons (qv 0) qa_nil))) (qg_name (i:=2) sc_read.nd rfl (Or.inl rfl)) (qss_one (qs_expr (qe_meth (qv 1) cC M_take G_take hr b_take .nil pass0 (qa_cons (qv 2) qa_nil)))))
   (qss_one (qs_ret (qe_meth0 (qv 1) cC M_whole G_whole hr b_whole .nil pass0)))))),?_⟩
 have hsz:=ts_sz hts
 have hpl:T.partsL ws<80000:=by have:=hb.2; rw [T.parts_node] at this; lia
 have hdl:T.deepL ws≤400:=by have:=hb.1; rw [T.deep_node] at this; exact this
 have hlen:(joinL [32] ps).length≤8000000:=by
  have:=joinL_len [32] ps
  unfold szP at hsz
  simp only [List.length_singleton,Nat.mul_one] at this
  lia
 have noT:∀ {R P:Addr}{nm:List Nat},(fl R P nm).lookup ("take":Str)=none:=fl_no (by decide +kernel) (by decide +kernel) (by decide +kernel)
 have noW:∀ {R P:Addr}{nm:List Nat},(fl R P nm).lookup ("whole":Str)=none:=fl_no (by decide +kernel) (by decide +kernel) (by decide +kernel)
 have run:=ts_sb hts [] [] [textC] (by rw [List.nil_append]; exact hb.le (by lia) (by lia)) (fun _ z=>by simp at z) (by show 0+_≤_; lia) (by show 1+_≤_; lia)
 rw [List.nil_append] at run
 refine⟨_,rfl,.str _,"str",.type "str",true,rfl,TyOf.str _,by rfl,_,rfl,iteF ?_⟩
 refine fun o dx no ndx nex=>⟨o,dx,H,rfl,(same_new ndx _).trans (same_new (by rw [upd_ne (Ne.symm nex)]; exact no) _),no,upd_same,fun H1 k1 h1=>⟨rfl,?_⟩⟩
 obtain⟨dx1,R1,P1,ys1,h1⟩:=h1
 refine⟨_,rfl,ps,rfl,ts_ok hts,hlen,fun D gD=>⟨D,rfl,⟨_,SqL.of upd_same⟩,?_⟩⟩
 have hD:H D=none:=h1.rows.same.free gD
 refine for_list (xs:=ps.map fun p=>V.str (tx p)) (fun i σ' H'=>∃ (o2:Option V) (sa:Rst),σ'=[some (.str (tx (joinL [32] ps))),some (.ref o),o2]∧RdAt K C (upd H D (.lst (ps.map fun p=>V.str (tx p)))) H' o sa.st sa.pl sa.nm∧SB sa (ps.drop i) ⟨[ws],[textC],[]⟩) ?_ ?_ ?_ ?_
 ·exact⟨_,⟨[[]],[textC],[]⟩,rfl,⟨dx1,R1,P1,ys1,h1.base gD _⟩,run⟩
 ·rintro i σ' H' _ ⟨o2,sa,rfl,h,_⟩
  exact SqL.of (h.same _ _ upd_same)
 ·rintro i x σ' H' hx ⟨o2,sa,rfl,h,hs⟩
  rw [List.getElem?_map] at hx
  cases hi:ps[i]? with
  | none=>rw [hi] at hx; cases hx
  | some p =>
   rw [hi] at hx
   have hx:V.str (tx p)=x:=Option.some.inj hx
   subst hx
   have hlt:i<ps.length:=(List.getElem?_eq_some_iff.mp hi).1
   have ed:ps.drop i=p::ps.drop (i+1):=by
    rw [List.drop_eq_getElem_cons hlt]
    rw [List.getElem?_eq_getElem hlt] at hi
    rw [Option.some.inj hi]
   rw [ed] at hs
   cases hs with
   | @cons _ sb _ _ _ z z' hst hg =>
   have h0:=h
   obtain⟨dx2,R2,P2,ys2,h2⟩:=h
   refine⟨_,rfl,o,dx2,_,rfl,h2.ob,noT,_,rfl,o,p,_,sa,sb,rfl,h0,hst,z,z',fun H3 k3 h3=>?_⟩
   exact⟨_,sb,rfl,h3,hg⟩
 ·rintro σ' H' ⟨o2,sa,rfl,h,hs⟩
  rw [List.length_map,List.drop_length] at hs
  cases hs
  have h0:=h
  obtain⟨dx2,R2,P2,ys2,h2⟩:=h
  exact⟨_,rfl,o,dx2,_,rfl,h2.ob,noW,o,_,ws,[textC],rfl,h0,fun y H2 S2 t2=>q _ _ ((same_new hD _).trans S2) t2⟩
end
end Sw75
namespace Sw75
open PySem PySem.Spec PyProof.Rows L2 Sw
section
variable {P:Program}{w:World}{K:PySem.W.Frag}{mg:Str→Option Value}{base:Heap}{f:Addr}{fd:FuncData}
theorem ok_tree_of
  {a_read_tree:Addr}{d_read_tree:FuncData} (F_read_tree:Fun K "read_tree" "read_tree" s_read_tree a_read_tree d_read_tree) (G_read_tree:FnOk P w K mg base CX0 31 a_read_tree d_read_tree ["text"] (spTreeOf K)) (b_read_tree:Binds K d_read_tree ["text"] []) (m_read_tree:mg "read_tree"=some (.ref a_read_tree))
  (F:Fun K "tree_of" "tree_of" s_tree_of f fd):FnOk P w K mg base CX0 32 f fd ["signs"] (spTreeOf K):=by
 refine okQ F sc_tree_of (fun vs H Q E h=>?_) (fun cdv A outer s H vs Q E hr h=>?_)
 ·obtain⟨t,rfl,_⟩:=h
  rfl
 obtain⟨t,rfl,hp,q⟩:=h
 refine⟨_,(qss_one (qs_tryOk (fun _=>(qss_one (qs_ret (qe_call G_read_tree hr rfl m_read_tree F_read_tree.kp b_read_tree .nil pass0 (qa_cons (qv 0) qa_nil))))))),?_⟩
 exact⟨_,rfl,t,rfl,hp,fun y H' S ty=>q _ _ S ty⟩
theorem ok_word_of {a_NAMES:Addr} (m_NAMES:mg "NAMES"=some (.ref a_NAMES)) (q_NAMES:∀ H,SqT K H a_NAMES [.str (PySem.Str.ofString "lay"),.str (PySem.Str.ofString "drop"),.str (PySem.Str.ofString "twin"),.str (PySem.Str.ofString "swap"),.str (PySem.Str.ofString "front"),.str (PySem.Str.ofString "part"),.str (PySem.Str.ofString "turn"),.str (PySem.Str.ofString "fork"),.str (PySem.Str.ofString "while")]) {u_DROP:Value} (m_DROP:mg "DROP"=some u_DROP) (r_DROP:RelV (.int 1) u_DROP) {u_TURN:Value} (m_TURN:mg "TURN"=some u_TURN) (r_TURN:RelV (.int 6) u_TURN)
  {a_plain:Addr}{d_plain:FuncData} (F_plain:Fun K "plain" "plain" s_plain a_plain d_plain) (G_plain:FnOk P w K mg base CX0 33 a_plain d_plain ["sort"] (spPlain K)) (b_plain:Binds K d_plain ["sort"] []) (m_plain:mg "plain"=some (.ref a_plain))
  {a_lay:Addr}{d_lay:FuncData} (F_lay:Fun K "lay" "lay" s_lay a_lay d_lay) (G_lay:FnOk P w K mg base CX0 33 a_lay d_lay ["tree"] (spLay K)) (b_lay:Binds K d_lay ["tree"] []) (m_lay:mg "lay"=some (.ref a_lay))
  {a_tree_of:Addr}{d_tree_of:FuncData} (F_tree_of:Fun K "tree_of" "tree_of" s_tree_of a_tree_of d_tree_of) (G_tree_of:FnOk P w K mg base CX0 33 a_tree_of d_tree_of ["signs"] (spTreeOf K)) (b_tree_of:Binds K d_tree_of ["signs"] []) (m_tree_of:mg "tree_of"=some (.ref a_tree_of))
  {a_odd:Addr}{d_odd:FuncData} (F_odd:Fun K "odd" "odd" s_odd a_odd d_odd) (G_odd:FnOk P w K mg base CX0 33 a_odd d_odd ["word"] (spOdd K)) (b_odd:Binds K d_odd ["word"] []) (m_odd:mg "odd"=some (.ref a_odd))
  (t_NAMES:∃ ob,K.lookup a_NAMES=some ob∧ob.cls=.type "tuple"∧ob.dict=none)
  (F:Fun K "word_of" "word_of" s_word_of f fd):FnOk P w K mg base CX0 34 f fd ["piece"] (spWordOf K):=by
 refine okQ F sc_word_of (fun vs H Q E h=>?_) (fun cdv A outer s H vs Q E hr h=>?_)
 ·obtain⟨p,w,rfl,_⟩:=h
  rfl
 obtain⟨p,w,rfl,ho,hb,q⟩:=h
 refine⟨_,(qss_cons (qs_if (qt_cmpR op_in_seq (qv 0) (qe_slice sl_tupA (qe_glob (v:=.ref a_NAMES) rfl m_NAMES rfl) (qo_some (qe_glob (v:=.int 1) rfl m_DROP r_DROP)) (qo_some (qe_op op_add (qe_glob (v:=.int 6) rfl m_TURN r_TURN) qe_int))) rfl) (qss_one (qs_ret (qe_call G_plain hr rfl m_plain F_plain.kp b_plain .nil pass0 (qa_cons (qe_bm PySem.F.plainAttrs_tuple PySem.F.slot_tuple_index PySem.F.type_tuple_index mt_index (qe_glob (v:=.ref a_NAMES) rfl m_NAMES rfl) (qa_cons (qv 0) qa_nil)) qa_nil)))) qss_nil)
   (qss_cons (qs_if (qt_val (qe_bm PySem.F.plainAttrs_str PySem.F.slot_str_startswith PySem.F.type_str_startswith mt_starts (qv 0) (qa_cons qe_str qa_nil))) (qss_one (qs_ret (qe_call G_lay hr rfl m_lay F_lay.kp b_lay .nil pass0 (qa_cons (qe_call G_tree_of hr rfl m_tree_of F_tree_of.kp b_tree_of .nil pass0 (qa_cons (qe_slice sl_str (qv 0) (qo_some qe_int) qo_none) qa_nil)) qa_nil)))) qss_nil)
   (qss_cons (qs_if (qt_val (qe_bm PySem.F.plainAttrs_str PySem.F.slot_str_startswith PySem.F.type_str_startswith mt_starts (qv 0) (qa_cons qe_str qa_nil))) (qss_cons (qs_set (i:=1) sc_word_of.nd rfl (Or.inl rfl) (qe_call G_tree_of hr rfl m_tree_of F_tree_of.kp b_tree_of .nil pass0 (qa_cons (qe_slice sl_str (qv 0) (qo_some qe_int) qo_none) qa_nil)))
   (qss_one (qs_if (qt_val (qe_call G_odd hr rfl m_odd F_odd.kp b_odd .nil pass0 (qa_cons (qv 1) qa_nil))) (qss_one (qs_ret (qv 1))) qss_nil))) qss_nil)
   (qss_one qs_never)))),?_⟩
 have hp:=hb.2
 have hd:=hb.1
 have nmq:∀ H,SqT K H a_NAMES namesV:=fun H=>by rw [← names_tx]; exact q_NAMES H
 refine⟨_,rfl,1,rfl,_,_,rfl,rfl,7,rfl,a_NAMES,_,rfl,nmq _,fun p1 H1 S1 q1=>?_⟩
 rw [cut17] at q1
 refine⟨p1,_,rfl,.inr q1,rfl,rfl,_,rfl,?_⟩
 rw [show (if false=true then !inV (.str (tx p)) sixV else inV (.str (tx p)) sixV)=[1,2,3,4,5,6].any fun k=>decide (nmC k=p) from in_six p]
 cases ho with
 | plain h h1 h6 =>
  refine iteTb (six_yes h1 h6) ?_
  obtain⟨f1,f2⟩:=nm_first (k:=sortT w) (by lia)
  refine⟨.inr (.inl ⟨rfl,t_NAMES⟩),_,rfl,a_NAMES,_,_,sortT w,rfl,rfl,(by rw [← names_map]; exact nmq _),f1,f2,sortT w,rfl,h1,h6,fun y H2 S2 t2=>q _ _ (S1.trans S2) ?_⟩
  rw [← plain_of h h1 h6] at t2
  exact t2
 | lay h hs =>
  refine iteFb (six_no (by lia)) ?_
  have hlp:(loadT w).parts≤100000:=by have:=load_lt w; have:=T.parts_kids (loadT w); lia
  have hld:=load_deep w
  refine⟨_,rfl,rfl,_,39,rfl,(by rw [tx_tick]),_,rfl,iteTb rfl ?_⟩
  refine⟨_,rfl,1,rfl,_,rfl,?_,loadT w,?_,hlp,fun y H2 S2 t2=>⟨y,loadT w,rfl,t2,by lia,by lia,fun z H3 S3 t3=>q _ _ (S1.trans (S2.trans S3)) ?_⟩⟩
  ·rw [List.length_cons,T.wr_len]
   exact small (by lia)
  ·rw [cut_tail]
   rfl
  ·rw [← lay_of h hs] at t3
   exact t3
 | odd h =>
  refine iteFb (six_no (by lia)) ?_
  refine⟨_,rfl,rfl,_,39,rfl,(by rw [tx_tick]),_,rfl,iteFb rfl ?_⟩
  refine⟨_,rfl,rfl,_,33,rfl,(by rw [tx_bang]),_,rfl,iteTb rfl ?_⟩
  refine⟨_,rfl,1,rfl,_,rfl,?_,w,?_,hp,fun y H2 S2 t2=>⟨_,rfl,y,w,rfl,t2,hb,fun H3 S3=>⟨_,rfl,iteTb h ⟨_,rfl,q _ _ (S1.trans (S2.trans S3)) (t2.mono (.of S3))⟩⟩⟩⟩
  ·rw [List.length_cons,T.wr_len]
   exact small (by lia)
  ·rw [cut_tail]
   rfl
end
end Sw75
namespace Sw75
open PySem PySem.Spec PyProof.Rows L2 Sw
section
variable {P:Program}{w:World}{K:PySem.W.Frag}{mg:Str→Option Value}{base:Heap}{f g1 g2:Addr}{fd gd1 gd2:FuncData}
def WaitR (K:PySem.W.Frag) (H:Hp):Option T→V→Prop
 | none,x=>x=.non
 | some t,x=>TR K H t x
theorem WaitR.mono {H H':Hp} (S:Kt H H'):∀ {o:Option T}{x:V},WaitR K H o x→WaitR K H' o x
 | none,_,h=>h
 | some _,_,h=>TR.mono S h
def WShow (K:PySem.W.Frag) (H:Hp) (x:V) (w:List Nat) (p1 p2:Addr):Nat→Sg→Hp→Prop:=fun m σ H'=>∃ (ys:List V) (os:List (Option T)) (cs:List Nat) (o:Option V),
 σ=[some x,some (.ref p1),some (.ref p2),o]∧Same H H'∧H' p1=some (.lst (cs.map fun c=>V.str (tx [c])))∧H' p2=some (.lst ys)∧All2 (WaitR K H') os ys∧cs++T.out os=w∧m=(T.out os).length
theorem wait_kids {H:Hp}:∀ {ts:List T}{xs:List V},TRs K H ts xs→All2 (WaitR K H) (ts.map some) xs
 | [],xs,h=>by rw [TRs_nil] at h; rw [h]; exact .nil
 | t::ts,xs,h=>by
  obtain⟨x,r,rfl,h1,h2⟩:=TRs_cons.mp h
  exact .cons h1 (wait_kids h2)
theorem ok_show_tree (m_list:mg "list"=none) (m_reversed:mg "reversed"=none) (F:Fun K "show_tree" "show_tree" s_show_tree f fd):FnOk P w K mg base CX0 31 f fd ["tree"] (spShowT K):=by
 refine F.ok sc_show_tree (fun vs H Q E h=>?_) (fun cdv A outer s H vs Q E hr h=>?_)
 ·obtain⟨x,t,rfl,_⟩:=h
  rfl
 obtain⟨x,t,rfl,ht,hz,q⟩:=h
 refine⟨_,(pss_cons (ps_set (i:=1) sc_show_tree.nd rfl (Or.inl rfl) (pe_lst pa_nil))
   (pss_cons (ps_set (i:=2) sc_show_tree.nd rfl (Or.inl rfl) (pe_lst (pa_cons (pv 0) pa_nil)))
   (pss_cons (ps_while PassesOwn.never (pt_truth (pv 2) (fun _=>rfl)) (pss_cons (ps_set (i:=3) sc_show_tree.nd rfl (Or.inl rfl) (pe_bm0 PySem.F.plainAttrs_list PySem.F.slot_list_pop PySem.F.type_list_pop mt_pop (pv 2)))
   (pss_one (ps_if (pt_cmpR op_isN (pv 3) pe_non (nomark _)) (pss_one (ps_expr (pe_bm PySem.F.plainAttrs_list PySem.F.slot_list_append PySem.F.type_list_append mt_append (pv 1) (pa_cons pe_str pa_nil)))) (pss_cons (ps_expr (pe_bm PySem.F.plainAttrs_list PySem.F.slot_list_append PySem.F.type_list_append mt_append (pv 1) (pa_cons pe_str pa_nil)))
   (pss_cons (ps_expr (pe_bm PySem.F.plainAttrs_list PySem.F.slot_list_append PySem.F.type_list_append mt_append (pv 2) (pa_cons pe_non pa_nil)))
   (pss_one (ps_expr (pe_bm PySem.F.plainAttrs_list PySem.F.slot_list_extend PySem.F.type_list_extend mt_extend (pv 2) (pa_cons (SwR.pe_listRev rfl rfl m_list m_reversed rfl (pv 3)) pa_nil))))))))))
   (pss_one (ps_ret (pe_bm PySem.F.plainAttrs_str PySem.F.slot_str_join PySem.F.type_str_join mt_join pe_str (pa_cons (pv 1) pa_nil))))))),?_⟩
 refine⟨Nat.zero_le _,fun p1 hp1=>?_⟩
 refine⟨_,rfl,(by show 1≤sizeLine; decide),fun p2 hp2=>?_⟩
 have n12:p1≠p2:=fun z=>by rw [← z,upd_same] at hp2; cases hp2
 have hp2':H p2=none:=(same_new hp1 _).free hp2
 have hlen:=T.wr_len t
 refine⟨WShow K H x t.wr p1 p2,⟨_,[x],[some t],[],none,rfl,(same_new hp1 _).trans (same_new hp2 _),by rw [upd_ne n12]; exact upd_same,upd_same,All2.one (show TR K _ t x from (ht.mono (Kt.new hp1)).mono (Kt.new hp2)),by rw [T.out_one]; rfl,rfl⟩,?_⟩
 rintro m σ H' ⟨ys,os,cs,o,rfl,S,h1,h2,hw,hc,rfl⟩
 have hl:=hw.length
 have hol:=T.out_len os
 have hcl:cs.length+(T.out os).length=t.wr.length:=by rw [← hc,List.length_append]
 refine⟨_,rfl,!ys.isEmpty,.inl ⟨ys,SqL.of h2,rfl⟩,?_⟩
 refine ite2 (fun hb=>?_) (fun hb=>?_)
 ·have hne:ys≠[]:=by rintro rfl; exact absurd hb (by decide)
  obtain⟨y,hy⟩:=last_of hne
  obtain⟨oo,hoo,hwy⟩:=hw.get hy
  rw [hl] at hoo
  have eos:=drop_last hoo
  have eout:T.out os=T.outO oo++T.out os.dropLast:=by
   have e:=congrArg T.out eos
   rw [T.out_append,T.out_one] at e
   exact e
  have hdl:=T.out_len os.dropLast
  have hpos:=T.outO_pos oo
  refine⟨fun σ' H'=>∃ m',m'<(T.out os).length∧WShow K H x t.wr p1 p2 m' σ' H',fun _ _ h=>h,?_⟩
  refine⟨_,rfl,.inl ⟨rfl,_,SqL.of h2⟩,p2,ys,_,rfl,rfl,h2,hy,?_⟩
  have hwd:=(All2.dropLast hw).imp (S:=WaitR K (upd H' p2 (.lst ys.dropLast))) fun _ _=>WaitR.mono (Kt.lst h2)
  have S2:Same H (upd H' p2 (.lst ys.dropLast)):=same_upd S hp2'
  have h12:upd H' p2 (.lst ys.dropLast) p1=some (.lst (cs.map fun c=>V.str (tx [c]))):=by rw [upd_ne n12]; exact h1
  have h22:upd H' p2 (.lst ys.dropLast) p2=some (.lst ys.dropLast):=upd_same
  have hyk:WaitR K (upd H' p2 (.lst ys.dropLast)) oo y:=WaitR.mono (Kt.lst h2) hwy
  generalize upd H' p2 (.lst ys.dropLast)=H2 at hwd S2 h12 h22 hyk
  have hcl2:cs.length<1000000:=by lia
  cases oo with
  | none =>
   have ey:y=.non:=hyk
   subst ey
   refine⟨_,rfl,rfl,_,rfl,iteT ?_⟩
   refine⟨_,rfl,.inl ⟨rfl,_,SqL.of h12⟩,p1,_,_,rfl,rfl,h12,smallL (by rw [List.length_map]; lia),?_⟩
   refine⟨_,?_,ys.dropLast,os.dropLast,cs++[41],_,rfl,same_upd S2 hp1,?_,by rw [upd_ne (Ne.symm n12)]; exact h22,hwd.imp fun _ _=>WaitR.mono (Kt.lst h12),?_,rfl⟩
   ·rw [eout,List.length_append]
    show _<1+_
    lia
   ·rw [upd_same,List.map_append]
    rw [show Str.ofString ")"=tx [41] from tx_rp]
    rfl
   ·rw [← hc,eout,List.append_assoc]
    rfl
  | some u =>
   obtain⟨a,zs,rfl,g1,g2⟩:=TR_of (show TR K H2 u y from hyk)
   refine⟨_,rfl,rfl,_,rfl,iteF ?_⟩
   refine⟨_,rfl,.inl ⟨rfl,_,SqL.of h12⟩,p1,_,_,rfl,rfl,h12,smallL (by rw [List.length_map]; lia),?_⟩
   have k3:Kt H2 (upd H2 p1 (.lst ((cs.map fun c=>V.str (tx [c]))++[.str (Str.ofString "(")]))):=Kt.lst h12
   have h23:upd H2 p1 (.lst ((cs.map fun c=>V.str (tx [c]))++[.str (Str.ofString "(")])) p2=some (.lst ys.dropLast):=by rw [upd_ne (Ne.symm n12)]; exact h22
   have h13:upd H2 p1 (.lst ((cs.map fun c=>V.str (tx [c]))++[.str (Str.ofString "(")])) p1=some (.lst ((cs++[40]).map fun c=>V.str (tx [c]))):=by
    rw [upd_same,List.map_append,tx_lp]
    rfl
   have S3:Same H (upd H2 p1 (.lst ((cs.map fun c=>V.str (tx [c]))++[.str (Str.ofString "(")]))):=same_upd S2 hp1
   generalize upd H2 p1 (.lst ((cs.map fun c=>V.str (tx [c]))++[.str (Str.ofString "(")]))=H3 at k3 h23 h13 S3
   have hlo:ys.dropLast.length≤1000000:=by rw [List.length_dropLast]; lia
   refine⟨_,rfl,.inl ⟨rfl,_,SqL.of h23⟩,p2,_,_,rfl,rfl,h23,smallL hlo,?_⟩
   have k4:Kt H3 (upd H3 p2 (.lst (ys.dropLast++[.non]))):=Kt.lst h23
   have h14:upd H3 p2 (.lst (ys.dropLast++[.non])) p1=some (.lst ((cs++[40]).map fun c=>V.str (tx [c]))):=by rw [upd_ne n12]; exact h13
   have h24:upd H3 p2 (.lst (ys.dropLast++[.non])) p2=some (.lst (ys.dropLast++[.non])):=upd_same
   have S4:Same H (upd H3 p2 (.lst (ys.dropLast++[.non]))):=same_upd S3 hp2'
   generalize upd H3 p2 (.lst (ys.dropLast++[.non]))=H4 at k4 h14 h24 S4
   have g14:=sqT_mono k4 (sqT_mono k3 g1)
   have hul:=T.len_le_parts u.kids
   have hup:=T.parts_kids u
   have huw:=T.wr_len u
   have hzl:=g2.length
   have eoL:(T.outO (some u)).length=u.wr.length:=rfl
   have eol:(T.out os).length=u.wr.length+(T.out os.dropLast).length:=by rw [eout,List.length_append]; rfl
   refine⟨_,rfl,.inl ⟨rfl,_,SqL.of h24⟩,_,rfl,a,zs,rfl,g14,fun l hl5=>?_⟩
   have n2l:p2≠l:=ne_of_none h24 hl5
   have n1l:p1≠l:=ne_of_none h14 hl5
   refine⟨p2,l,ys.dropLast++[.non],zs.reverse,rfl,rfl,by rw [upd_ne n2l]; exact h24,upd_same,small (by rw [List.length_append,List.length_reverse,List.length_singleton,List.length_dropLast]; lia),?_⟩
   have k5:Kt H4 (upd H4 l (.lst zs.reverse)):=Kt.new hl5
   have h25:upd H4 l (.lst zs.reverse) p2=some (.lst (ys.dropLast++[.non])):=by rw [upd_ne n2l]; exact h24
   have k6:Kt H2 (upd (upd H4 l (.lst zs.reverse)) p2 (.lst (ys.dropLast++[.non]++zs.reverse))):=k3.trans (k4.trans (k5.trans (Kt.lst h25)))
   refine⟨_,?_,ys.dropLast++[.non]++zs.reverse,os.dropLast++[none]++u.kids.reverse.map some,cs++[40],_,rfl,same_upd (S4.trans (same_new hl5 _)) hp2',?_,upd_same,?_,?_,rfl⟩
   ·rw [T.out_append,T.out_append,T.out_one,T.out_kids,List.length_append,List.length_append,eol,T.wr_kids u]
    simp only [List.length_cons,List.length_append,List.length_singleton,List.length_nil,T.outO]
    lia
   ·rw [upd_ne n12,upd_ne n1l]
    exact h14
   ·refine All2.append (All2.append (hwd.imp fun _ _=>WaitR.mono k6) (All2.one (show (V.non:V)=.non from rfl))) ?_
    rw [List.map_reverse]
    exact All2.rev (wait_kids (g2.mono k6))
   ·rw [T.out_append,T.out_append,T.out_one,T.out_kids,← hc,eout,T.outO,T.outO,T.wr_kids u,List.append_assoc]
    simp
 ·have hys:ys=[]:=by
   cases ys with
   | nil=>rfl
   | cons _ _=>exact absurd rfl hb
  subst hys
  have hos:os=[]:=List.length_eq_zero_iff.mp hl.symm
  subst hos
  rw [T.out_nil,List.append_nil] at hc
  subst hc
  refine⟨rfl,_,rfl,p1,t.wr.map fun c=>[c],(by rw [show Str.ofString ""=tx [] from tx_nil]),rfl,SqL.of (by rw [h1,List.map_map]; rfl),?_,?_⟩
  ·have:(t.wr.map fun c=>[c]).flatten=t.wr:=single_flat _
   rw [this]
   lia
  ·have:(t.wr.map fun c=>[c]).flatten=t.wr:=single_flat _
   rw [this]
   exact q _ S
def spReadL (K:PySem.W.Frag):Sp:=fun vs H Q _=>∃ l t,vs=[.str (tx l)]∧T.rd [[]] l=some [[t]]∧l.length≤400000∧∀ x H',Same H H'→TR K H' t x→Q x H'
def PvRead (K:PySem.W.Frag) (H:Hp) (l:List Nat) (p:Addr) (i:Nat) (σ:Sg) (H':Hp):Prop:=∃ (st:List (List T)) (ys:List V) (o2 o3:Option V),
 σ=[some (.str (tx l)),some (.ref p),o2,o3]∧T.rd [[]] (l.take i)=some st∧RowsR K H H' p st ys∧T.partsL st.flatten+st.length≤i+1
theorem ok_read_treeL (m_isinstance:mg "isinstance"=none) (m_str:mg "str"=none) (m_len:mg "len"=none) (m_tuple:mg "tuple"=none) (F:Fun K "read_tree" "read_tree" s_read_tree f fd):FnOk P w K mg base CX0 31 f fd ["text"] (spReadL K):=by
 refine F.ok sc_read_tree (fun vs H Q E h=>?_) (fun cdv A outer s H vs Q E hr h=>?_)
 ·obtain⟨l,t,rfl,_⟩:=h
  rfl
 obtain⟨l,t,rfl,hrd,hz,q⟩:=h
 refine⟨_,(pss_cons (ps_if (pt_not (pt_val (pe_callB call_isinst rfl m_isinstance bt_isinstance (pa_cons (pv 0) (pa_cons (pe_bltn (v:=.ty "str") rfl m_str bt_str rfl) pa_nil))))) (pss_one ps_never) pss_nil)
   (pss_cons (ps_set (i:=1) sc_read_tree.nd rfl (Or.inl rfl) (pe_lst (pa_cons (pe_lst pa_nil) pa_nil)))
   (pss_cons (ps_for PassesOwn.never rfl (pi_str (pv 0)) (pg_name (i:=2) sc_read_tree.nd rfl (Or.inl rfl)) (pss_one (ps_if (pt_cmpR op_eq (pv 2) pe_str (nomark _)) (pss_one (ps_expr (pe_bm PySem.F.plainAttrs_list PySem.F.slot_list_append PySem.F.type_list_append mt_append (pv 1) (pa_cons (pe_lst pa_nil) pa_nil)))) (pss_one (ps_if (PW.pt (pw_and (pt_cmpR op_eq (pv 2) pe_str (nomark _)) (pw_and1 (pt_cmpR op_gt (pe_callB call_len_seq rfl m_len bt_len (pa_cons (pv 1) pa_nil)) pe_int (nomark _))))) (pss_cons (ps_set (i:=3) sc_read_tree.nd rfl (Or.inl rfl) (pe_bm0 PySem.F.plainAttrs_list PySem.F.slot_list_pop PySem.F.type_list_pop mt_pop (pv 1)))
   (pss_one (ps_expr (pe_bm PySem.F.plainAttrs_list PySem.F.slot_list_append PySem.F.type_list_append mt_append (pe_ix ix_list (pv 1) (pe_un un_neg pe_int) (fun _ _=>rfl)) (pa_cons (pe_callTy call_tuple_of rfl m_tuple bt_tuple (pa_cons (pv 3) pa_nil)) pa_nil))))) (pss_one ps_never))))))
   (pss_cons (ps_if (PW.pt (pw_or (pt_cmpR op_ne (pe_callB call_len_seq rfl m_len bt_len (pa_cons (pv 1) pa_nil)) pe_int (nomark _)) (pw_or1 (pt_cmpR op_ne (pe_callB call_len_seq rfl m_len bt_len (pa_cons (pe_ix ix_list (pv 1) pe_int (fun _ _=>rfl)) pa_nil)) pe_int (nomark _))))) (pss_one ps_never) pss_nil)
   (pss_one (ps_ret (pe_ix ix_list (pe_ix ix_list (pv 1) pe_int (fun _ _=>rfl)) pe_int (fun _ _=>rfl)))))))),?_⟩
 refine⟨_,rfl,.str (tx l),"str",.type "str",true,rfl,TyOf.str _,by rfl,_,rfl,iteF ?_⟩
 refine⟨Nat.zero_le _,fun q0 hq0=>⟨(by show 1≤sizeLine; decide),fun p hp=>?_⟩⟩
 have npq:p≠q0:=fun z=>by rw [z,upd_same] at hp; cases hp
 have hpH:H p=none:=by rw [upd_ne npq] at hp; exact hp
 refine⟨_,rfl,_,rfl,?_⟩
 refine for_str (l:=l) (PvRead K H l p) ?_ ?_ ?_
 ·refine⟨[[]],[.ref q0],_,_,rfl,rfl,⟨hpH,(same_new hq0 _).trans (same_new hp _),upd_same,?_,?_⟩,by rw [List.flatten_cons,List.flatten_nil,List.append_nil,T.partsL_nil]; simp⟩
  ·exact All2.one ⟨q0,[],rfl,hq0,(same_new hp _) _ _ upd_same,TRs_nil.mpr rfl⟩
  ·simp [npq]
 ·rintro i c σ' H' hc ⟨st,ys,o2,o3,rfl,hi,R,hsz⟩
  have hlt:i<l.length:=(List.getElem?_eq_some_iff.mp hc).1
  obtain⟨st2,hs1,hs2⟩:=T.rd_take hrd hi hc
  have hyl:ys.length=st.length:=by rw [R.rows.length,List.length_reverse]
  rcases T.rd1_cases hs1 with⟨rfl,r,rs,rfl,rfl⟩ | ⟨rfl,r,r',rs,rfl,rfl⟩
  ·
   refine⟨_,rfl,rfl,_,rfl,ite2 (fun _=>?_) (fun hb=>absurd (by rw [tx_lp]; exact decide_eq_true rfl) hb)⟩
   refine⟨_,rfl,.inl ⟨rfl,_,SqL.of R.at_⟩,Nat.zero_le _,fun q2 hq2=>?_⟩
   have npq2:p≠q2:=ne_of_none R.at_ hq2
   refine⟨p,ys,.ref q2,rfl,rfl,by rw [upd_ne npq2]; exact R.at_,smallL (by lia),?_⟩
   refine⟨[]::r::rs,ys++[.ref q2],_,_,rfl,hs2,rows_open R hq2,?_⟩
   rw [List.flatten_cons,List.nil_append,List.length_cons]
   lia
  ·
   have e1:decide (V.str (tx [41])=V.str (Str.ofString "("))=false:=by rw [tx_lp,dec_tx]; rfl
   refine⟨_,rfl,rfl,_,rfl,ite2 (fun hb=>absurd (e1.symm.trans hb) Bool.false_ne_true) (fun _=>?_)⟩
   refine⟨_,rfl,rfl,_,rfl,ite2 (fun _=>?_) (fun hb=>absurd (by rw [tx_rp]; exact decide_eq_true rfl) hb)⟩
   refine⟨_,rfl,p,ys,rfl,.inl (SqL.of R.at_),_,_,rfl,rfl,_,rfl,ite2 (fun _=>?_) (fun hb=>absurd (decide_eq_true (by rw [hyl]; simp only [List.length_cons]; lia)) hb)⟩
   obtain⟨ys0,a',a,xs',xs,rfl,ha,ha',npa,npa',lx,lx',next⟩:=rows_shut R
   refine⟨_,rfl,.inl ⟨rfl,_,SqL.of R.at_⟩,p,_,.ref a,rfl,rfl,R.at_,by simp,?_⟩
   rw [List.dropLast_concat]
   refine⟨_,rfl,_,rfl,p,_,-1,.ref a',rfl,rfl,SqL.of upd_same,at_last,.inl ⟨rfl,xs',SqL.of (by rw [upd_ne (Ne.symm npa')]; exact ha')⟩,?_⟩
   refine⟨_,rfl,a,xs,rfl,.inl ⟨SqL.of (by rw [upd_ne (Ne.symm npa)]; exact ha),fun b hb=>?_⟩⟩
   have nab:a'≠b:=fun z=>by
    rw [← z,upd_ne (Ne.symm npa'),ha'] at hb
    cases hb
   have hpr:T.partsL r'≤T.partsL (r::r'::rs).flatten:=by
    rw [List.flatten_cons,List.flatten_cons,T.partsL_append,T.partsL_append]
    lia
   have hlr:=T.len_le_parts r'
   refine⟨a',xs',.ref b,rfl,rfl,by rw [upd_ne nab,upd_ne (Ne.symm npa')]; exact ha',smallL (by lia),?_⟩
   refine⟨(r'++[.node r])::rs,ys0++[.ref a'],_,_,rfl,hs2,next b hb,?_⟩
   rw [List.flatten_cons,List.flatten_cons,T.partsL_append,T.partsL_append,List.length_cons,List.length_cons] at hsz
   rw [List.flatten_cons,T.partsL_append,T.partsL_append,T.partsL_cons,T.partsL_nil,T.parts_node,List.length_cons]
   lia
 ·rintro σ' H' ⟨st,ys,o2,o3,rfl,hi,R,hsz⟩
  rw [List.take_of_length_le (Nat.le_refl _),hrd] at hi
  have est:=Option.some.inj hi
  subst est
  have hr:=R.rows
  cases hr with
  | cons r0 r1 =>
   cases r1
   obtain⟨a,xs,rfl,_,ha,hta⟩:=r0
   obtain⟨x,r2,rfl,hx,hnil⟩:=TRs_cons.mp hta
   rw [TRs_nil] at hnil
   subst hnil
   refine⟨_,rfl,p,_,rfl,.inl (SqL.of R.at_),rfl,_,rfl,ite2 (fun hb=>absurd hb (by simp)) (fun _=>?_)⟩
   refine⟨_,rfl,p,_,0,.ref a,rfl,rfl,SqL.of R.at_,atI_nat (j:=0) rfl,a,[x],rfl,.inl (SqL.of ha),rfl,_,rfl,ite2 (fun hb=>absurd hb (by simp)) (fun _=>?_)⟩
   exact⟨_,rfl,p,_,0,.ref a,rfl,rfl,SqL.of R.at_,atI_nat (j:=0) rfl,a,[x],0,x,rfl,rfl,SqL.of ha,atI_nat (j:=0) rfl,q x _ R.same hx⟩
theorem weakRead {K:PySem.W.Frag} (vs:List V) (H:Hp) (Q:VK) (E:XK) (h:spTreeOf K vs H Q E):spReadL K vs H Q E:=by
 obtain⟨t,rfl,hp,q⟩:=h
 exact⟨_,t,rfl,T.rd_whole t,by rw [T.wr_len]; lia,q⟩
end
end Sw75
namespace Sw75
open PySem PySem.Spec PyProof.Rows L2 Sw
section
variable {P:Program}{w:World}{K:PySem.W.Frag}{mg:Str→Option Value}{base:Heap}{f:Addr}{fd:FuncData}
theorem iteN {c:Bool}{A B:Prop} (h:c=false) (k:B):if c=true then A else B:=by subst h; exact k
theorem iteY {c:Bool}{A B:Prop} (h:c=true) (k:A):if c=true then A else B:=by subst h; exact k
theorem ifJoin {tc:TT}{tb te:TS}{u:TS}{D:Ends}{σ:L2.St}{H:Hp} (P:L2.St→Hp→Prop) (k:∀ σ' H',P σ' H'→u D σ' H') (h:∀ N:L2.St→Hp→Prop,(∀ σ' H',P σ' H'→N σ' H')→tIfS tc tb te { D with nx:=N } σ H):tSeq (tIfS tc tb te) u D σ H:=h _ k
def spWhole:Sp:=fun vs H Q _=>∃ i:Int,vs=[.int i]∧∀ H',Same H H'→Q (.bl true) H'
def spTells (K:PySem.W.Frag):Sp:=fun vs H Q _=>∃ (x:V) (u:T),vs=[x]∧TR K H u x∧B 10 20000 u∧∀ H',Same H H'→Q (.bl true) H'
theorem teller_ts:∃ ps,Ts tTeller ps:=by
 refine⟨_,.cons (.lay (by decide +kernel) (by decide +kernel)) (.cons (.plain (by decide +kernel) (by decide +kernel) (by decide +kernel)) (.cons (.lay (by decide +kernel) (by decide +kernel)) (.cons (.plain (by decide +kernel) (by decide +kernel) (by decide +kernel)) (.cons (.plain (by decide +kernel) (by decide +kernel) (by decide +kernel)) .nil))))⟩
theorem ok__law_deck (m_range:mg "range"=none) (m_len:mg "len"=none)
  (F:Fun K "_law_deck" "_law_deck" s__law_deck f fd):FnOk P w K mg base CX0 32 f fd ["_law_script"] (spDeck K):=by
 refine okQ F sc__law_deck (fun vs H Q E h=>?_) (fun cdv A outer s H vs Q E hr h=>?_)
 ·obtain⟨a,ns,rfl,_⟩:=h
  rfl
 obtain⟨a,ns,rfl,hl,h63,q⟩:=h
 refine⟨_,(qss_cons (qs_setLC (i:=1) sc__law_deck.nd rfl (Or.inl rfl) rfl (lc_free (fr:=[]) (js:=[]) (sc:=defScope s__law_deck) rfl rfl rfl (by decide +kernel) (by decide +kernel) (by decide +kernel) (by decide +kernel) (by exact trivial) (by decide +kernel) (fun y hy=>cell_has hy)) (qi_list (qe_slice sl_list (qv 0) qo_none (qo_some qe_int))) (fun _ _ _ _ _=>(qe_op op_mod (qv 0) qe_int)))
   (qss_cons (qs_set (i:=2) sc__law_deck.nd rfl (Or.inl rfl) (qe_lst qa_nil))
   (qss_cons (qs_for PassesOwn.never rfl (qi_range1 rfl m_range (qa_cons qe_int qa_nil)) (qg_name (i:=3) sc__law_deck.nd rfl (Or.inl rfl)) (qss_cons (qs_set (i:=4) sc__law_deck.nd rfl (Or.inl rfl) (qe_op op_add (qe_op op_mul qe_int (qv 3)) qe_int))
   (qss_cons (qs_if (qt_cmpR op_gt (qe_callB call_len_seq rfl m_len bt_len (qa_cons (qv 1) qa_nil)) qe_int (nomark _)) (qss_one (qs_set (i:=4) sc__law_deck.nd rfl (Or.inl rfl) (qe_op op_add (qe_op op_mul (qe_ix ix_list (qv 1) (qe_op op_mod (qv 3) (qe_callB call_len_seq rfl m_len bt_len (qa_cons (qv 1) qa_nil))) (fun _ _=>rfl)) (qe_op op_add qe_int (qe_op op_mul qe_int (qe_op op_fdiv (qv 3) (qe_callB call_len_seq rfl m_len bt_len (qa_cons (qv 1) qa_nil)))))) (qe_op op_mul qe_int (qv 3))))) qss_nil)
   (qss_one (qs_expr (qe_bm PySem.F.plainAttrs_list PySem.F.slot_list_append PySem.F.type_list_append mt_append (qv 2) (qa_cons (qe_op op_fdiv (qe_op op_mod (qe_op op_add (qe_op op_add (qe_op op_mul (qv 4) qe_int) (qe_op op_mul (qe_op op_mul qe_int (qv 3)) (qv 3))) qe_int) qe_int) qe_int) qa_nil)))))))
   (qss_one (qs_ret (qv 2)))))),?_⟩
 have hz63:(ns.take 63).length≤63:=by rw [List.length_take]; lia
 have ecut:cutV (ns.map V.int) none (some 63)=(ns.take 63).map V.int:=by
  rw [show (some (63:Int))=some ((63:Nat):Int) from rfl,cut_to,List.map_take]
 generalize ns.take 63=ms at hz63 ecut
 have big:(2 ^ 64:Int)=18446744073709551616:=by decide
 refine⟨_,rfl,63,rfl,a,_,rfl,hl,fun p1 hp1=>?_⟩
 have h1:upd H p1 (.lst (cutV (ns.map V.int) none (some 63))) p1=some (.lst (ms.map V.int)):=by rw [upd_same,ecut]
 have S1:Same H (upd H p1 (.lst (cutV (ns.map V.int) none (some 63)))):=same_new hp1 _
 generalize upd H p1 (.lst (cutV (ns.map V.int) none (some 63)))=H1 at h1 S1
 refine⟨p1,rfl,⟨_,SqL.of h1⟩,lc_list (fun i y=>∃ n:Int,y=.int n∧0≤n∧n<2147483647) (SqL.of h1) (small (by rw [List.length_map]; lia)) (fun i x H' R hx S hR=>?_) (fun D ys hD ly py=>?_)⟩
 ·obtain⟨z,rfl⟩:∃ z,x=.int z:=by
   rw [List.getElem?_map] at hx
   cases hh:ms[i]? with
   | none=>rw [hh] at hx; cases hx
   | some z=>rw [hh] at hx; exact⟨z,(Option.some.inj hx).symm⟩
  exact⟨_,rfl,_,_,rfl,rfl,(by show (0:Int)<1000000007; decide),hR _ ⟨_,rfl,Int.emod_nonneg _ (by decide),Int.lt_trans (Int.emod_lt_of_pos _ (by decide)) (by decide)⟩⟩
 obtain⟨cs,rfl,hcs⟩:=ints_ex py
 rw [List.length_map,List.length_map] at ly
 have hDl:upd H1 D (.lst (cs.map V.int)) D=some (.lst (cs.map V.int)):=upd_same
 have S2:=S1.trans (same_new hD (.lst (cs.map V.int)))
 generalize upd H1 D (.lst (cs.map V.int))=H2 at hDl S2
 refine⟨Nat.zero_le _,fun p3 hp3=>?_⟩
 have hp3H:H p3=none:=S2.free hp3
 have n3:D≠p3:=ne_of_none hDl hp3
 refine⟨140,rfl,by decide,by decide,?_⟩
 refine for_range (n:=140) (fun i σ' H'=>∃ (ds:List Int) (o3 o4:Option V),σ'=[some (.ref a),some (.ref D),some (.ref p3),o3,o4]∧Same H H'∧H' D=some (.lst (cs.map V.int))∧H' p3=some (.lst (ds.map V.int))∧ds.length=i) ?_ ?_ ?_
 ·exact⟨[],_,_,rfl,S2.trans (same_new hp3 _),by rw [upd_ne n3]; exact hDl,upd_same,rfl⟩
 ·rintro i σ' H' hi ⟨ds,o3,o4,rfl,S,hd,h3,hlen⟩
  have hi2:(0:Int)+(i:Int)<140:=by lia
  have app:∀ z:Int,∃ (es:List Int) (o3 o4:Option V),[some (.ref a),some (.ref D),some (.ref p3),some (.int (0+(i:Int))),some (.int z)]=[some (.ref a),some (.ref D),some (.ref p3),o3,o4]∧Same H (upd H' p3 (.lst (ds.map V.int++[.int ((z * 16807+7907 * (0+(i:Int)) * (0+(i:Int))+29) % 2147483647 / 3)]))) ∧
    upd H' p3 (.lst (ds.map V.int++[.int ((z * 16807+7907 * (0+(i:Int)) * (0+(i:Int))+29) % 2147483647 / 3)])) D=some (.lst (cs.map V.int))∧upd H' p3 (.lst (ds.map V.int++[.int ((z * 16807+7907 * (0+(i:Int)) * (0+(i:Int))+29) % 2147483647 / 3)])) p3=some (.lst (es.map V.int))∧es.length=i+1:=fun z =>
   ⟨ds++[(z * 16807+7907 * (0+(i:Int)) * (0+(i:Int))+29) % 2147483647 / 3],_,_,rfl,same_upd S hp3H,by rw [upd_ne n3]; exact hd,by rw [upd_same,List.map_append]; rfl,by rw [List.length_append,hlen]; rfl⟩
  have tail:∀ z:Int,-(2 ^ 60)<z→z<2 ^ 60→∀ R:Prop,((-(2 ^ 64)<z∧z<2 ^ 64)→(-(2 ^ 64)<(7907:Int)∧(7907:Int)<2 ^ 64)→(-(2 ^ 64)<7907 * (0+(i:Int))∧7907 * (0+(i:Int))<2 ^ 64)→R)→R:=fun z h1 h2 R k =>
   k ⟨by have:(2:Int) ^ 60=1152921504606846976:=(by decide); lia,by have:(2:Int) ^ 60=1152921504606846976:=(by decide); lia⟩ ⟨by decide,by decide⟩ ⟨by lia,by lia⟩
  refine⟨_,rfl,_,_,rfl,rfl,.inl ⟨by decide,by decide⟩,_,_,rfl,rfl,?_⟩
  refine⟨_,rfl,D,_,rfl,.inl (SqL.of hd),_,_,rfl,rfl,_,rfl,?_⟩
  refine ite2 (fun hb=>?_) (fun _=>?_)
  ·have hpos:0<cs.length:=by
    have:=of_decide_eq_true hb
    rw [List.length_map] at this
    lia
   have hpos':(0:Int)<((cs.map V.int).length:Int):=by rw [List.length_map]; lia
   have hj0:0≤(0+(i:Int)) % ((cs.map V.int).length:Int):=Int.emod_nonneg _ (by lia)
   have hj1:(0+(i:Int)) % ((cs.map V.int).length:Int)<((cs.map V.int).length:Int):=Int.emod_lt_of_pos _ hpos'
   obtain⟨c,hc,ec⟩:∃ c∈cs,atI (cs.map V.int) ((0+(i:Int)) % ((cs.map V.int).length:Int))=some (.int c):=by
    generalize (0+(i:Int)) % ((cs.map V.int).length:Int)=j at hj0 hj1
    have hk:j.toNat<cs.length:=by rw [List.length_map] at hj1; lia
    have e:(cs.map V.int)[j.toNat]?=some (.int cs[j.toNat]):=by rw [List.getElem?_map,List.getElem?_eq_getElem hk]; rfl
    have:=atI_nat e
    rw [show ((j.toNat:Nat):Int)=j by lia] at this
    exact⟨_,List.getElem_mem hk,this⟩
   obtain⟨c0,c1⟩:=hcs c hc
   refine⟨_,rfl,_,rfl,_,rfl,D,_,rfl,.inl (SqL.of hd),_,_,rfl,rfl,hpos',D,_,_,_,rfl,rfl,SqL.of hd,ec,?_⟩
   refine⟨_,rfl,_,rfl,D,_,rfl,.inl (SqL.of hd),_,_,rfl,rfl,⟨hpos',by rw [List.length_map]; lia⟩,_,_,rfl,rfl,.inl ⟨by decide,by decide⟩,_,_,rfl,rfl,_,_,rfl,rfl,.inl ⟨by lia,by lia⟩,_,rfl,_,_,rfl,rfl,.inl ⟨by decide,by decide⟩,_,_,rfl,rfl,?_⟩
   have hq0:0≤(0+(i:Int)) / ((cs.map V.int).length:Int):=Int.ediv_nonneg (by lia) (by lia)
   have hq1:(0+(i:Int)) / ((cs.map V.int).length:Int)≤0+(i:Int):=Int.ediv_le_self _ (by lia)
   have hz0:0≤c * (1+2 * ((0+(i:Int)) / ((cs.map V.int).length:Int))):=Int.mul_nonneg c0 (by lia)
   have hz1:c * (1+2 * ((0+(i:Int)) / ((cs.map V.int).length:Int)))≤2147483647 * 281:=Int.mul_le_mul (by lia) (by lia) (by lia) (by decide)
   have z60:(2:Int) ^ 60=1152921504606846976:=by decide
   generalize ez:c * (1+2 * ((0+(i:Int)) / ((cs.map V.int).length:Int)))=zc at hz0 hz1
   have hz2:-(2 ^ 60)<zc+17 * (0+(i:Int)):=by lia
   have hz3:zc+17 * (0+(i:Int))<2 ^ 60:=by lia
   refine tail (zc+17 * (0+(i:Int))) hz2 hz3 _ fun t1 t2 t3=>?_
   refine⟨_,rfl,.inl ⟨rfl,_,SqL.of h3⟩,_,rfl,_,_,rfl,rfl,.inl t1,_,rfl,_,_,rfl,rfl,.inl t2,_,rfl,_,_,rfl,rfl,.inl t3,_,_,rfl,rfl,_,_,rfl,rfl,_,_,rfl,rfl,(by show (0:Int)<2147483647; decide),_,_,rfl,rfl,⟨by decide,by decide⟩,p3,_,_,rfl,rfl,h3,smallL (by rw [List.length_map]; lia),?_⟩
   exact app (zc+17 * (0+(i:Int)))
  ·have z60:(2:Int) ^ 60=1152921504606846976:=by decide
   refine tail (41 * (0+(i:Int))+3) (by lia) (by lia) _ fun t1 t2 t3=>?_
   refine⟨_,rfl,.inl ⟨rfl,_,SqL.of h3⟩,_,rfl,_,_,rfl,rfl,.inl t1,_,rfl,_,_,rfl,rfl,.inl t2,_,rfl,_,_,rfl,rfl,.inl t3,_,_,rfl,rfl,_,_,rfl,rfl,_,_,rfl,rfl,(by show (0:Int)<2147483647; decide),_,_,rfl,rfl,⟨by decide,by decide⟩,p3,_,_,rfl,rfl,h3,smallL (by rw [List.length_map]; lia),?_⟩
   exact app (41 * (0+(i:Int))+3)
 ·rintro σ' H' ⟨ds,o3,o4,rfl,S,hd,h3,hlen⟩
  exact⟨_,rfl,q p3 H' S hp3H ⟨ds,h3⟩⟩
theorem ok__law_next (m_len:mg "len"=none)
  (F:Fun K "_law_next" "_law_next" s__law_next f fd):FnOk P w K mg base CX0 31 f fd ["_law_deck_here","_law_many"] spNext:=by
 refine okQ F sc__law_next (fun vs H Q E h=>?_) (fun cdv A outer s H vs Q E hr h=>?_)
 ·obtain⟨p,m,rfl,_⟩:=h
  rfl
 obtain⟨p,m,rfl,hm,hd,q⟩:=h
 refine⟨_,(qss_cons (qs_if (qt_cmpR op_eq (qe_callB call_len_seq rfl m_len bt_len (qa_cons (qv 0) qa_nil)) qe_int (nomark _)) (qss_one (qs_ret qe_int)) qss_nil)
   (qss_one (qs_ret (qe_op op_mod (qe_bm PySem.F.plainAttrs_list PySem.F.slot_list_pop PySem.F.type_list_pop mt_popAt (qv 0) (qa_cons qe_int qa_nil)) (qv 1))))),?_⟩
 obtain⟨ns,hp⟩:=hd
 refine⟨_,rfl,p,_,rfl,.inl (SqL.of hp),rfl,_,rfl,?_⟩
 refine ite2 (fun _=>?_) (fun hb=>?_)
 ·exact q 0 H (by lia) hm (Dr.refl ⟨ns,hp⟩)
 ·cases ns with
  | nil=>exact absurd (decide_eq_true rfl) hb
  | cons n ns =>
   refine⟨_,rfl,.inl ⟨rfl,_,SqL.of hp⟩,p,_,0,0,_,rfl,rfl,hp,by decide,by decide,?_,rfl,?_⟩
   ·rw [seqIndex_of (by decide) (by rw [List.length_map,List.length_cons]; lia)]
    rfl
   ·refine⟨_,rfl,_,_,rfl,rfl,hm,q _ _ (Int.emod_nonneg _ (by lia)) (Int.emod_lt_of_pos _ hm) ⟨fun b o nb e=>?_,⟨ns,?_⟩⟩⟩
    ·rw [upd_ne nb]; exact e
    ·rw [upd_same]; rfl
theorem ok__law_leaves
  (F:Fun K "_law_leaves" "_law_leaves" s__law_leaves f fd):FnOk P w K mg base CX0 31 f fd ["_law_many"] (spLeaves K):=by
 refine okQ F sc__law_leaves (fun vs H Q E h=>?_) (fun cdv A outer s H vs Q E hr h=>?_)
 ·obtain⟨n,rfl,_⟩:=h
  rfl
 obtain⟨n,rfl,hn,q⟩:=h
 refine⟨_,(qss_one (qs_ret (qe_op op_repTA (qe_tup (qa_cons (qe_tup qa_nil) qa_nil)) (qv 0)))),?_⟩
 refine⟨Nat.zero_le _,fun p1 hp1=>⟨(by show 1≤sizeLine; decide),fun p2 hp2=>?_⟩⟩
 have k1:upd (upd H p1 (.tup [])) p2 (.tup [.ref p1]) p1=some (.tup []):=(same_new hp2 _) _ _ upd_same
 have hbig:(2:Int) ^ 62=4611686018427387904:=by decide
 refine⟨_,rfl,p2,_,_,rfl,rfl,SqT.of upd_same,by lia,by lia,?_,fun p3 H3 S3 h3=>?_⟩
 ·rw [Int.toNat_natCast,List.length_singleton]
  exact small (by lia)
 ·rw [rep_one] at h3
  exact q _ _ (((same_new hp1 _).trans (same_new hp2 _)).trans S3) (TR_mk h3 (trs_rep (leaf_tr (S3 _ _ k1)) n))
theorem okN_tree (m_tuple:mg "tuple"=none) (m_range:mg "range"=none)
  {a__law_next:Addr}{d__law_next:FuncData} (F__law_next:Fun K "_law_next" "_law_next" s__law_next a__law_next d__law_next) (G0__law_next:FnOk P w K mg base CX0 31 a__law_next d__law_next ["_law_deck_here","_law_many"] spNext) (b__law_next:Binds K d__law_next ["_law_deck_here","_law_many"] []) (m__law_next:mg "_law_next"=some (.ref a__law_next))
  {a_t:Addr}{d_t:FuncData} (F__law_tree:Fun K "_law_tree" "_law_tree" s__law_tree a_t d_t) (b__law_tree:Binds K d_t ["_law_deck_here","_law_deep"] []) (m__law_tree:mg "_law_tree"=some (.ref a_t)) :
  ∀ n:Nat,FnOk P w K mg base CX0 (32+n) a_t d_t ["_law_deck_here","_law_deep"] (spTree K n):=by
 intro n
 induction n with
 | zero =>
  refine okQ (k:=31) F__law_tree sc__law_tree (fun vs H Q E h=>?_) (fun cdv A outer s H vs Q E hr h=>?_)
  ·obtain⟨p,d,rfl,_⟩:=h
   rfl
  obtain⟨p,d,rfl,hd,hk,q⟩:=h
  refine⟨_,qss_cons (qs_if (qt_cmpR op_eq (qv 1) qe_int (nomark _)) (qss_one (qs_ret (qe_tup qa_nil))) qss_nil) (qss_one qs_never),?_⟩
  have e:d=0:=by lia
  subst e
  refine⟨_,rfl,rfl,_,rfl,ite2 (fun _=>⟨Nat.zero_le _,fun p1 hp1=>?_⟩) (fun hb=>absurd (decide_eq_true rfl) hb)⟩
  exact q _ _ _ ((Dr.refl hk).same (same_new hp1 _)) (leaf_tr upd_same) ⟨by rw [T.deep_node,T.deepL_nil]; lia,by rw [T.parts_node,T.partsL_nil]; decide⟩
 | succ n ih =>
  have G__law_tree:=ih
  have G__law_next:=G0__law_next.mono (show 31≤32+n by lia)
  refine okQ (k:=32+n) F__law_tree sc__law_tree (fun vs H Q E h=>?_) (fun cdv A outer s H vs Q E hr h=>?_)
  ·obtain⟨p,d,rfl,_⟩:=h
   rfl
  obtain⟨p,d,rfl,hd,hk,q⟩:=h
  refine⟨_,(qss_cons (qs_if (qt_cmpR op_eq (qv 1) qe_int (nomark _)) (qss_one (qs_ret (qe_tup qa_nil))) qss_nil)
   (qss_one (qs_ret (qe_callTy call_tuple_of rfl m_tuple bt_tuple (qa_cons (qe_lc rfl (lc_free (fr:=["_law_deck_here","_law_deep"]) (js:=[0,1]) (sc:=defScope s__law_tree) rfl rfl rfl (by decide +kernel) (by decide +kernel) (by decide +kernel) (by decide +kernel) (by exact⟨⟨rfl,rfl,rfl⟩,⟨⟨rfl,rfl,rfl⟩,trivial⟩⟩) (by decide +kernel) (fun y hy=>cell_has hy)) (qi_range1 rfl m_range (qa_cons (qe_call G__law_next hr rfl m__law_next F__law_next.kp b__law_next .nil pass0 (qa_cons (qv 0) (qa_cons qe_int qa_nil))) qa_nil)) (fun _ _ _ _ _=>(qe_call G__law_tree hr rfl m__law_tree F__law_tree.kp b__law_tree .nil pass0 (qa_cons (qv 1) (qa_cons (qe_op op_sub (qv 2) qe_int) qa_nil))))) qa_nil))))),?_⟩
  refine⟨_,rfl,rfl,_,rfl,ite2 (fun hb=>?_) (fun hb=>?_)⟩
  ·have e:d=0:=by
    have:=of_decide_eq_true hb
    have:=V.int.inj this
    lia
   subst e
   refine⟨Nat.zero_le _,fun p1 hp1=>?_⟩
   exact q _ _ _ ((Dr.refl hk).same (same_new hp1 _)) (leaf_tr upd_same) ⟨by rw [T.deep_node,T.deepL_nil]; lia,by rw [T.parts_node,T.partsL_nil]; decide⟩
  ·have hd0:d≠0:=fun z=>hb (by subst z; exact decide_eq_true rfl)
   obtain⟨e,rfl⟩:∃ e,d=e+1:=⟨d - 1,by lia⟩
   refine⟨_,rfl,p,4,rfl,by decide,hk,fun m H1 hm0 hm1 D1=>?_⟩
   refine⟨m,rfl,by lia,by lia,?_⟩
   have hk1:=D1.deck
   refine lc_rangeI (fun D i ys H'=>D≠p∧H1 D=none∧Dr p H1 H'∧H' D=some (.lst ys)∧ys.length=i∧∃ ts,TRs K H' ts ys∧∀ t∈ts,ShT e t) (small (by lia)) (fun D hD=>?_) (fun D i ys H' j=>⟨j.2.2.2.1,j.2.2.2.2.1⟩) (fun D i ys H' R hi j hR=>?_) (fun D ys H' j=>?_)
   ·have hne:D≠p:=fun z=>by
     obtain⟨ns,e1⟩:=hk1
     rw [z,e1] at hD; cases hD
    exact⟨hne,hD,(Dr.refl hk1).upd hD hne,upd_same,rfl,[],TRs_nil.mpr rfl,fun _ h=>by simp at h⟩
   ·obtain⟨hne,hD,Dh,h1,hl,ts,htr,hsh⟩:=j
    refine⟨_,rfl,_,rfl,_,_,rfl,rfl,p,e,(by show [V.ref p,V.int (((e+1:Nat):Int) - 1)]=_; rw [show ((e+1:Nat):Int) - 1=(e:Int) by lia]),by lia,Dh.deck,fun y t H3 D3 ht hs=>?_⟩
    have h3:=D3.keep D _ hne h1
    refine hR y H3 h3 ⟨hne,hD,(Dh.trans D3).upd hD hne,upd_same,by rw [List.length_append,hl]; rfl,ts++[t],?_,fun u hu=>?_⟩
    ·exact TRs.append ((htr.mono (D3.kt Dh.deck)).mono (Kt.lst h3)) (TRs_cons.mpr ⟨y,[],rfl,ht.mono (Kt.lst h3),TRs_nil.mpr rfl⟩)
    ·rcases List.mem_append.mp hu with z | z
     ·exact hsh u z
     ·rw [List.mem_singleton.mp z]; exact hs
   ·obtain⟨hne,hD,Dh,h1,hl,ts,htr,hsh⟩:=j
    refine⟨D,ys,rfl,.inl ⟨SqL.of h1,fun p5 hp5=>?_⟩⟩
    have hlt:ts.length≤3:=by rw [← htr.length,hl]; lia
    refine q _ (.node ts) _ ((D1.trans Dh).same (same_new hp5 _)) (TR_mk (SqT.of upd_same) (htr.mono (Kt.new hp5))) ⟨?_,?_⟩
    ·rw [T.deep_node]
     exact T.deepL_le_of fun u hu=>by have:=(hsh u hu).1; lia
    ·rw [T.parts_node]
     have:=partsL_le (b:=pbT e) hlt fun u hu=>(hsh u hu).2
     show _≤1+3 * pbT e
     lia
def spTrees (K:PySem.W.Frag) (n:Nat):Sp:=fun vs H Q _=>∃ x t,vs=[x]∧TR K H t x∧t.deep≤n∧t.parts≤1000000∧∀ H',Same H H'→Q (.bl true) H'
theorem okN_trees (m_isinstance:mg "isinstance"=none) (m_tuple:mg "tuple"=none) (m_all:mg "all"=none)
  {a_t:Addr}{d_t:FuncData} (F__law_trees:Fun K "_law_trees" "_law_trees" s__law_trees a_t d_t) (b__law_trees:Binds K d_t ["_law_found"] []) (m__law_trees:mg "_law_trees"=some (.ref a_t)) :
  ∀ n:Nat,FnOk P w K mg base CX0 (32+n) a_t d_t ["_law_found"] (spTrees K n):=by
 have step:∀ n:Nat,∀ (sp:Sp),FnOk P w K mg base CX0 (31+n) a_t d_t ["_law_found"] sp→(∀ x t H Q E,TR K H t x→t.deep+1≤n→t.parts≤1000000→(∀ H',Same H H'→Q (.bl true) H')→sp [x] H Q E)→FnOk P w K mg base CX0 (32+n) a_t d_t ["_law_found"] (spTrees K n):=by
  intro n sp G__law_trees hsp
  have e32:32+n=(31+n)+1:=by lia
  rw [e32]
  refine okQ (k:=31+n) F__law_trees sc__law_trees (fun vs H Q E h=>?_) (fun cdv A outer s H vs Q E hr h=>?_)
  ·obtain⟨x,t,rfl,_⟩:=h
   rfl
  obtain⟨x,t,rfl,ht,hd,hp,q⟩:=h
  refine⟨_,(qss_cons (qs_if (qt_not (qt_val (qe_callB call_isinstT rfl m_isinstance bt_isinstance (qa_cons (qv 0) (qa_cons (qe_bltn (v:=.ty "tuple") rfl m_tuple bt_tuple rfl) qa_nil))))) (qss_one (qs_ret qe_bl)) qss_nil)
   (qss_one (qs_ret (qe_callB (call_all rfl) rfl m_all bt_all (qa_cons (qe_lc rfl (lc_free (fr:=[]) (js:=[]) (sc:=defScope s__law_trees) rfl rfl rfl (by decide +kernel) (by decide +kernel) (by decide +kernel) (by decide +kernel) (by exact trivial) (by decide +kernel) (fun y hy=>cell_has hy)) (qi_tup (qv 0)) (fun _ _ _ _ _=>(qe_call G__law_trees hr rfl m__law_trees F__law_trees.kp b__law_trees .nil pass0 (qa_cons (qv 0) qa_nil)))) qa_nil))))),?_⟩
  cases t with
  | node ts =>
  obtain⟨a,xs,rfl,ha,ra⟩:=TR_node.mp ht
  have hl:=ra.length
  have hlp:=T.len_le_parts ts
  rw [T.parts_node] at hp
  refine⟨_,rfl,a,xs,"tuple",true,rfl,ha,by rfl,_,rfl,iteF ?_⟩
  refine⟨_,rfl,a,rfl,⟨xs,ha⟩,?_⟩
  refine lc_tupI (K:=K) (xs:=xs) (fun D i ys H'=>H D=none∧Same H H'∧H' D=some (.lst ys)∧ys=List.replicate i (.bl true)) (small (by lia)) (fun D hD=>⟨hD,same_new hD _,upd_same,rfl⟩) (fun D i ys H' j=>⟨j.2.2.1,by rw [j.2.2.2,List.length_replicate],sqT_mono (.of j.2.1) ha⟩) (fun D i x ys H' R hx j hR=>?_) (fun D ys H' j=>?_)
  ·obtain⟨hD,S,h1,h2⟩:=j
   obtain⟨u,hu,hxu⟩:=ra.get hx
   have hm:=List.mem_of_getElem? hu
   have hud:=T.mem_deep hm
   have hup:=T.mem_parts hm
   rw [T.deep_node] at hd
   refine⟨_,rfl,hsp x u H' _ _ (hxu.mono (.of S)) (by lia) (by lia) fun H3 S3=>?_⟩
   refine hR _ _ (S3 _ _ h1) ⟨hD,same_upd (S.trans S3) hD,upd_same,?_⟩
   rw [h2,← List.replicate_succ']
  ·obtain⟨hD,S,h1,h2⟩:=j
   refine⟨D,List.replicate xs.length true,rfl,SqL.of (by rw [h1,h2,List.map_replicate]),?_⟩
   rw [show (List.replicate xs.length true).all id=true from by rw [List.all_eq_true]; intro b hb; rw [List.eq_of_mem_replicate hb]; rfl]
   exact q _ S
 intro n
 induction n with
 | zero =>
  refine step 0 (fun _ _ _ _=>False) ?_ (fun x t H Q E _ h=>absurd h (by lia))
  refine okQ (k:=30) F__law_trees sc__law_trees (fun vs H Q E h=>h.elim) (fun cdv A outer s H vs Q E hr h=>h.elim)
 | succ n ih =>
  refine step (n+1) (spTrees K n) ?_ (fun x t H Q E h1 h2 h3 h4=>⟨x,t,rfl,h1,by lia,h3,h4⟩)
  have e:31+(n+1)=32+n:=by lia
  rw [e]
  exact ih
theorem ok__law_whole (m_isinstance:mg "isinstance"=none) (m_bool:mg "bool"=none) (m_int:mg "int"=none)
  (F:Fun K "_law_whole" "_law_whole" s__law_whole f fd):FnOk P w K mg base CX0 31 f fd ["_law_found"] spWhole:=by
 refine okQ F sc__law_whole (fun vs H Q E h=>?_) (fun cdv A outer s H vs Q E hr h=>?_)
 ·obtain⟨i,rfl,_⟩:=h
  rfl
 obtain⟨i,rfl,q⟩:=h
 refine⟨_,(qss_one (qs_ret (qe_and (qe_callB call_isinstA rfl m_isinstance bt_isinstance (qa_cons (qv 0) (qa_cons (qe_bltn (v:=.ty "int") rfl m_int bt_int rfl) qa_nil))) (qe_one (qe_not (qe_callB call_isinstA rfl m_isinstance bt_isinstance (qa_cons (qv 0) (qa_cons (qe_bltn (v:=.ty "bool") rfl m_bool bt_bool rfl) qa_nil)))))))),?_⟩
 refine⟨_,rfl,.inl ⟨.int i,"int",.type "int",true,rfl,TyOf.int _,by rfl,_,rfl,iteT ?_⟩⟩
 exact⟨_,rfl,.inl ⟨.int i,"bool",.type "int",false,rfl,TyOf.int _,by rfl,_,rfl,q _ (Same.refl _)⟩⟩
end
end Sw75
namespace Sw75
open PySem PySem.Spec PyProof.Rows L2 Sw
section
variable {P:Program}{w:World}{K:PySem.W.Frag}{mg:Str→Option Value}{base:Heap}{f:Addr}{fd:FuncData}
theorem ok__law_tells
  {a_run:Addr}{d_run:FuncData} (F_run:Fun K "run" "run" s_run a_run d_run) (G_run:FnOk P w K mg base CX0 55 a_run d_run ["text","tree","budget"] (spRun K)) (b_run:Binds K d_run ["text","tree","budget"] []) (m_run:mg "run"=some (.ref a_run))
  {a_selfteller:Addr}{d_selfteller:FuncData} (F_selfteller:Fun K "selfteller" "selfteller" s_selfteller a_selfteller d_selfteller) (G_selfteller:FnOk P w K mg base CX0 55 a_selfteller d_selfteller [] (spTxt K tTeller)) (b_selfteller:Binds K d_selfteller [] []) (m_selfteller:mg "selfteller"=some (.ref a_selfteller))
  {a__law_trees:Addr}{d__law_trees:FuncData} (F__law_trees:Fun K "_law_trees" "_law_trees" s__law_trees a__law_trees d__law_trees) (G__law_trees:FnOk P w K mg base CX0 55 a__law_trees d__law_trees ["_law_found"] (spTrees K 20)) (b__law_trees:Binds K d__law_trees ["_law_found"] []) (m__law_trees:mg "_law_trees"=some (.ref a__law_trees))
  {a__law_whole:Addr}{d__law_whole:FuncData} (F__law_whole:Fun K "_law_whole" "_law_whole" s__law_whole a__law_whole d__law_whole) (G__law_whole:FnOk P w K mg base CX0 55 a__law_whole d__law_whole ["_law_found"] spWhole) (b__law_whole:Binds K d__law_whole ["_law_found"] []) (m__law_whole:mg "_law_whole"=some (.ref a__law_whole))
  (F:Fun K "_law_tells" "_law_tells" s__law_tells f fd):FnOk P w K mg base CX0 56 f fd ["_law_tree_here"] (spTells K):=by
 refine okQ F sc__law_tells (fun vs H Q E h=>?_) (fun cdv A outer s H vs Q E hr h=>?_)
 ·obtain⟨x,u,rfl,_⟩:=h
  rfl
 obtain⟨x,u,rfl,hx,bu,q⟩:=h
 have hE:=hr.un
 have hE:(A.deeper (envOfC "_law_tells" (defScope s__law_tells) s.heap.objs.size f cdv)).units+401<cLine:=by lia
 refine⟨_,(qss_cons (qs_set (i:=1) sc__law_tells.nd rfl (Or.inl rfl) (qe_call G_run hr rfl m_run F_run.kp b_run .nil pass0 (qa_cons (qe_call0 G_selfteller hr rfl m_selfteller F_selfteller.kp b_selfteller .nil pass0) (qa_cons (qv 0) (qa_cons qe_int qa_nil)))))
   (qss_cons (qs_if (QW.pt (qw_or (qt_cmpR op_ne (qe_ix ix_tup (qv 1) qe_int (fun _ _=>rfl)) qe_str (nomark _)) (qw_or (qt_cmpR (op_neTr hE) (qe_ix ix_tup (qv 1) qe_int (fun _ _=>rfl)) (qe_call0 G_selfteller hr rfl m_selfteller F_selfteller.kp b_selfteller .nil pass0) (nomark _)) (qw_or1 (qt_not (qt_val (qe_call G__law_trees hr rfl m__law_trees F__law_trees.kp b__law_trees .nil pass0 (qa_cons (qe_ix ix_tup (qv 1) qe_int (fun _ _=>rfl)) qa_nil)))))))) (qss_one (qs_ret qe_bl)) qss_nil)
   (qss_one (qs_ret (qe_and (qe_call G__law_whole hr rfl m__law_whole F__law_whole.kp b__law_whole .nil pass0 (qa_cons (qe_ix ix_tup (qv 1) qe_int (fun _ _=>rfl)) qa_nil)) (qe_one (qe_chain op_lt op_le qe_int (qe_ix ix_tup (qv 1) qe_int (fun _ _=>rfl)) qe_int))))))),?_⟩
 obtain⟨bt,hmp⟩:=teller_small
 have btd:=bt.1
 have btp:=bt.2
 have bud:=bu.1
 have bup:=bu.2
 obtain⟨a1,a2,a3⟩:=wk_told (run_teller u) (show 5+(T.node (tMaker [])).parts≤2000 by lia)
 have hs:=wk_sane (run_teller u) rfl 20 (by lia) ⟨by show (T.node [.node tTeller]).deep≤20; rw [T.deep_node,T.deepL_cons,T.deepL_nil]; lia,by show (T.node [u]).deep≤20; rw [T.deep_node,T.deepL_cons,T.deepL_nil]; lia⟩ (by lia) (by
  show T.partsL [.node tTeller]+T.partsL [u]+_≤_
  rw [T.partsL_cons,T.partsL_nil,T.partsL_cons,T.partsL_nil]; lia) 2000
 refine setQ (fun v=>[some x,some v]) (fun _=>rfl) (fun v H'=>∃ p v',v=.ref p∧Same H H'∧SqT K H' p [.str toldS,v',nv (5+(T.node (tMaker [])).parts)]∧TR K H' (.node tTeller) v') (fun R r=>⟨rfl,fun y3 H3 S3 t3=>⟨_,rfl,y3,x,.node tTeller,u,2000,rfl,t3,hx.mono (.of S3),hs,fun p v H4 S4 hp tv=>r _ _ ⟨p,v,rfl,S3.trans S4,?_,?_⟩⟩⟩) (fun v3 H4 h4=>?_)
 ·rw [a1,a3] at hp; exact hp
 ·rw [a2] at tv; exact tv
 obtain⟨p,v',rfl,S4,hp,tv⟩:=h4
 refine⟨_,rfl,p,_,_,_,rfl,rfl,hp,rfl,rfl,_,rfl,iteN (congrArg not (decide_eq_true rfl)) ?_⟩
 refine⟨_,rfl,p,_,_,_,rfl,rfl,hp,rfl,rfl,fun y5 H5 S5 t5=>⟨_,_,tv.mono (.of S5),t5,by lia,_,rfl,?_⟩⟩
 rw [T.beq_self]
 refine iteF ?_
 have hp5:=sqT_mono (.of S5) hp
 refine⟨_,rfl,p,_,_,_,rfl,rfl,hp5,rfl,v',_,rfl,tv.mono (.of S5),by lia,by lia,fun H6 S6=>⟨_,rfl,iteF ?_⟩⟩
 have hp6:=sqT_mono (.of S6) hp5
 refine⟨_,rfl,p,_,_,_,rfl,rfl,hp6,rfl,_,rfl,fun H7 S7=>⟨_,rfl,iteT ?_⟩⟩
 have hp7:=sqT_mono (.of S7) hp6
 refine⟨_,rfl,p,_,_,_,rfl,rfl,hp7,rfl,_,_,rfl,rfl,_,rfl,iteY (decide_eq_true (by lia)) ?_⟩
 refine⟨_,_,rfl,rfl,?_⟩
 show Q (.bl (decide (((5+(T.node (tMaker [])).parts:Nat):Int)≤2000))) _
 rw [decide_eq_true (show ((5+(T.node (tMaker [])).parts:Nat):Int)≤2000 by lia)]
 exact q _ (S4.trans (S5.trans (S6.trans S7)))
theorem ok_law (m_tuple:mg "tuple"=none)
  {a__law_deck:Addr}{d__law_deck:FuncData} (F__law_deck:Fun K "_law_deck" "_law_deck" s__law_deck a__law_deck d__law_deck) (G__law_deck:FnOk P w K mg base CX0 59 a__law_deck d__law_deck ["_law_script"] (spDeck K)) (b__law_deck:Binds K d__law_deck ["_law_script"] []) (m__law_deck:mg "_law_deck"=some (.ref a__law_deck))
  {a__law_tree:Addr}{d__law_tree:FuncData} (F__law_tree:Fun K "_law_tree" "_law_tree" s__law_tree a__law_tree d__law_tree) (G__law_tree:FnOk P w K mg base CX0 59 a__law_tree d__law_tree ["_law_deck_here","_law_deep"] (spTree K 3)) (b__law_tree:Binds K d__law_tree ["_law_deck_here","_law_deep"] []) (m__law_tree:mg "_law_tree"=some (.ref a__law_tree))
  {a__law_next:Addr}{d__law_next:FuncData} (F__law_next:Fun K "_law_next" "_law_next" s__law_next a__law_next d__law_next) (G__law_next:FnOk P w K mg base CX0 59 a__law_next d__law_next ["_law_deck_here","_law_many"] spNext) (b__law_next:Binds K d__law_next ["_law_deck_here","_law_many"] []) (m__law_next:mg "_law_next"=some (.ref a__law_next))
  {a__law_leaves:Addr}{d__law_leaves:FuncData} (F__law_leaves:Fun K "_law_leaves" "_law_leaves" s__law_leaves a__law_leaves d__law_leaves) (G__law_leaves:FnOk P w K mg base CX0 59 a__law_leaves d__law_leaves ["_law_many"] (spLeaves K)) (b__law_leaves:Binds K d__law_leaves ["_law_many"] []) (m__law_leaves:mg "_law_leaves"=some (.ref a__law_leaves))
  {a__law_tells:Addr}{d__law_tells:FuncData} (F__law_tells:Fun K "_law_tells" "_law_tells" s__law_tells a__law_tells d__law_tells) (G__law_tells:FnOk P w K mg base CX0 59 a__law_tells d__law_tells ["_law_tree_here"] (spTells K)) (b__law_tells:Binds K d__law_tells ["_law_tree_here"] []) (m__law_tells:mg "_law_tells"=some (.ref a__law_tells))
  {a_selfteller:Addr}{d_selfteller:FuncData} (F_selfteller:Fun K "selfteller" "selfteller" s_selfteller a_selfteller d_selfteller) (G_selfteller:FnOk P w K mg base CX0 59 a_selfteller d_selfteller [] (spTxt K tTeller)) (b_selfteller:Binds K d_selfteller [] []) (m_selfteller:mg "selfteller"=some (.ref a_selfteller))
  {a_read_tree:Addr}{d_read_tree:FuncData} (F_read_tree:Fun K "read_tree" "read_tree" s_read_tree a_read_tree d_read_tree) (G_read_tree:FnOk P w K mg base CX0 59 a_read_tree d_read_tree ["text"] (spTreeOf K)) (b_read_tree:Binds K d_read_tree ["text"] []) (m_read_tree:mg "read_tree"=some (.ref a_read_tree))
  {a_show_tree:Addr}{d_show_tree:FuncData} (F_show_tree:Fun K "show_tree" "show_tree" s_show_tree a_show_tree d_show_tree) (G_show_tree:FnOk P w K mg base CX0 59 a_show_tree d_show_tree ["tree"] (spShowT K)) (b_show_tree:Binds K d_show_tree ["tree"] []) (m_show_tree:mg "show_tree"=some (.ref a_show_tree))
  {a_read:Addr}{d_read:FuncData} (F_read:Fun K "read" "read" s_read a_read d_read) (G_read:FnOk P w K mg base CX0 59 a_read d_read ["signs"] (spReadX K)) (b_read:Binds K d_read ["signs"] []) (m_read:mg "read"=some (.ref a_read))
  {a_show:Addr}{d_show:FuncData} (F_show:Fun K "show" "show" s_show a_show d_show) (G_show:FnOk P w K mg base CX0 59 a_show d_show ["text"] (spShowX K)) (b_show:Binds K d_show ["text"] []) (m_show:mg "show"=some (.ref a_show))
  (F:Fun K "law" "law" s_law f fd):FnOk P w K mg base CX0 60 f fd ["_law_script"] (spLaw K):=by
 refine okQ F sc_law (fun vs H Q E h=>?_) (fun cdv A outer s H vs Q E hr h=>?_)
 ·obtain⟨a,ns,rfl,_⟩:=h
  rfl
 obtain⟨a,ns,rfl,hl,h63,q⟩:=h
 have hE:=hr.un
 have hE:(A.deeper (envOfC "law" (defScope s_law) s.heap.objs.size f cdv)).units+401<cLine:=by lia
 refine⟨_,(qss_cons (qs_set (i:=1) sc_law.nd rfl (Or.inl rfl) (qe_call G__law_deck hr rfl m__law_deck F__law_deck.kp b__law_deck .nil pass0 (qa_cons (qv 0) qa_nil)))
   (qss_cons (qs_set (i:=2) sc_law.nd rfl (Or.inl rfl) (qe_call G__law_tree hr rfl m__law_tree F__law_tree.kp b__law_tree .nil pass0 (qa_cons (qv 1) (qa_cons qe_int qa_nil))))
   (qss_cons (qs_if (qt_cmpR op_eq (qe_call G__law_next hr rfl m__law_next F__law_next.kp b__law_next .nil pass0 (qa_cons (qv 1) (qa_cons qe_int qa_nil))) qe_int (nomark _)) (qss_one (qs_set (i:=2) sc_law.nd rfl (Or.inl rfl) (qe_op op_catTA (qv 2) (qe_callTy call_tuple_of rfl m_tuple bt_tuple (qa_cons (qe_lc rfl (lc_free (fr:=[]) (js:=[]) (sc:=defScope s_law) rfl rfl rfl (by decide +kernel) (by decide +kernel) (by decide +kernel) (by decide +kernel) (by exact trivial) (by decide +kernel) (fun y hy=>cell_has hy)) (qi_list (qe_slice sl_list (qv 0) qo_none (qo_some qe_int))) (fun _ _ _ _ _=>(qe_call G__law_leaves hr rfl m__law_leaves F__law_leaves.kp b__law_leaves .nil pass0 (qa_cons (qe_op op_mod (qv 0) qe_int) qa_nil)))) qa_nil))))) qss_nil)
   (qss_cons (qs_if (QW.pt (qw_or (qt_not (qt_val (qe_call G__law_tells hr rfl m__law_tells F__law_tells.kp b__law_tells .nil pass0 (qa_cons (qv 2) qa_nil)))) (qw_or (qt_not (qt_val (qe_call G__law_tells hr rfl m__law_tells F__law_tells.kp b__law_tells .nil pass0 (qa_cons (qe_call0 G_selfteller hr rfl m_selfteller F_selfteller.kp b_selfteller .nil pass0) qa_nil)))) (qw_or1 (qt_not (qt_val (qe_call G__law_tells hr rfl m__law_tells F__law_tells.kp b__law_tells .nil pass0 (qa_cons (qe_call G__law_tree hr rfl m__law_tree F__law_tree.kp b__law_tree .nil pass0 (qa_cons (qv 1) (qa_cons qe_int qa_nil))) qa_nil)))))))) (qss_one (qs_ret qe_bl)) qss_nil)
   (qss_cons (qs_set (i:=3) sc_law.nd rfl (Or.inl rfl) (qe_call0 G_selfteller hr rfl m_selfteller F_selfteller.kp b_selfteller .nil pass0))
   (qss_one (qs_ret (qe_and (qe_cmpR (op_eqTr hE) (qe_call G_read hr rfl m_read F_read.kp b_read .nil pass0 (qa_cons (qe_call G_show hr rfl m_show F_show.kp b_show .nil pass0 (qa_cons (qv 3) qa_nil)) qa_nil)) (qv 3) (nomark _)) (qe_one (qe_cmpR (op_eqTr hE) (qe_call G_read_tree hr rfl m_read_tree F_read_tree.kp b_read_tree .nil pass0 (qa_cons (qe_call G_show_tree hr rfl m_show_tree F_show_tree.kp b_show_tree .nil pass0 (qa_cons (qv 3) qa_nil)) qa_nil)) (qv 3) (nomark _))))))))))),?_⟩
 obtain⟨bt,hmp⟩:=teller_small
 have btd:=bt.1
 have btp:=bt.2
 obtain⟨ps,hts⟩:=teller_ts
 refine setQ (fun v=>[some (.ref a),some v,none,none]) (fun _=>rfl) (fun v H'=>∃ p,v=.ref p∧Same H H'∧H p=none∧DkAt H' p) (fun R r=>⟨_,rfl,a,ns,rfl,hl,h63,fun p H1 S1 hp0 hk=>r _ _ ⟨p,rfl,S1,hp0,hk⟩⟩) (fun v1 H1 h1=>?_)
 obtain⟨p,rfl,S1,hp0,hk⟩:=h1
 have sd:∀ {H2:Hp},Dr p H1 H2→Same H H2:=fun D b o e=>D.keep b o (fun z=>by rw [z,hp0] at e; cases e) (S1 b o e)
 refine setQ (fun v=>[some (.ref a),some (.ref p),some v,none]) (fun _=>rfl) (fun v H'=>∃ u,Dr p H1 H'∧TR K H' (.node u) v∧B 9 100 (.node u)) (fun R r=>⟨_,rfl,p,3,rfl,by decide,hk,fun y t H2 D2 t2 s2=>r _ _ ?_⟩) (fun v2 H2 h2=>?_)
 ·cases t with
  | node g=>exact⟨g,D2,t2,s2.b.le (by decide) (by decide)⟩
 obtain⟨u,D2,t2,bu⟩:=h2
 refine ifJoin (fun σ' H'=>∃ (v:V) (g:T),σ'=[some (.ref a),some (.ref p),some v,none]∧Dr p H1 H'∧TR K H' g v∧B 10 20000 g) (fun σ8 H8 h8=>?_) (fun N hN=>?_)
 rotate_left
 ·refine⟨_,rfl,p,4,rfl,by decide,D2.deck,fun i H3 i0 i1 D3=>⟨rfl,_,rfl,ite2 (fun _=>?_) (fun _=>?_)⟩⟩
  rotate_left
  ·exact hN _ _ ⟨v2,.node u,rfl,D2.trans D3,t2.mono (D3.kt D2.deck),bu.le (by lia) (by lia)⟩
  have D23:=D2.trans D3
  have t23:=t2.mono (K:=K) (D3.kt D2.deck)
  have hl3:=(sd D23).seq hl
  refine⟨_,rfl,_,rfl,60,rfl,a,_,rfl,hl3,fun p4 g4=>?_⟩
  have ecut:cutV (ns.map V.int) none (some 60)=(ns.take 60).map V.int:=by
   rw [show (some (60:Int))=some ((60:Nat):Int) from rfl,cut_to,List.map_take]
  rw [ecut]
  have hcl:((ns.take 60).map V.int).length≤60:=by rw [List.length_map,List.length_take]; lia
  have hint:∀ x∈(ns.take 60).map V.int,∃ z,x=.int z:=fun x hx=>by
   obtain⟨z,_,rfl⟩:=List.mem_map.mp hx
   exact⟨z,rfl⟩
  generalize (ns.take 60).map V.int=cs at hcl hint
  have S4:=same_new g4 (.lst cs)
  have h4:=upd_same (H:=H3) (a:=p4) (o:=.lst cs)
  generalize upd H3 p4 (.lst cs)=H4 at S4 h4
  refine⟨p4,rfl,⟨_,SqL.of h4⟩,?_⟩
  refine lc_listI (K:=K) (xs:=cs) (fun D i ys H'=>H4 D=none∧Same H4 H'∧H' D=some (.lst ys)∧∃ ts,TRs K H' ts ys∧ts.length=i∧B 2 (1+6 * i) (.node ts)) (small (by lia)) (fun D hD=>⟨hD,same_new hD _,upd_same,[],TRs_nil.mpr rfl,rfl,B_nil.le (by lia) (by lia)⟩) (fun D i ys H' j=>?_) (fun D i x ys H' R hx j hR=>?_) (fun D ys H' j=>?_)
  ·obtain⟨hD,S,h1,ts,e1,e2,e3⟩:=j
   exact⟨h1,by rw [e1.length]; exact e2,SqL.of (S _ _ h4)⟩
  ·obtain⟨hD,S,h1,ts,e1,e2,e3⟩:=j
   obtain⟨z,rfl⟩:=hint x (List.mem_of_getElem? hx)
   have z5:=Int.emod_nonneg z (show (5:Int)≠0 by decide)
   have z5':=Int.emod_lt_of_pos z (show (0:Int)<5 by decide)
   refine⟨_,rfl,_,_,rfl,rfl,(by show (0:Int)<5; decide),(z % 5).toNat,(by show [V.int (z % 5)]=_; rw [Int.toNat_of_nonneg z5]),by lia,fun y5 H5 S5 t5=>?_⟩
   have h5:=S5 _ _ h1
   refine hR _ _ h5 ⟨hD,same_upd (S.trans S5) hD,upd_same,ts++[leavesT (z % 5).toNat],?_,by rw [List.length_append,e2]; rfl,(B_cat (B_tup1 (B_leaves (z % 5).toNat)) e3).le (by lia) (by lia)⟩
   exact TRs.append ((e1.mono (.of S5)).mono (Kt.lst h5)) (TRs_cons.mpr ⟨_,_,rfl,t5.mono (Kt.lst h5),TRs_nil.mpr rfl⟩)
  ·obtain⟨hD,S,h1,ts,e1,e2,e3⟩:=j
   have e3l:=e3.len
   have bul:=bu.len
   refine⟨D,ys,rfl,.inl ⟨SqL.of h1,fun l6 g6=>?_⟩⟩
   have S6:=same_new g6 (.tup ys)
   have t6:TR K _ (.node ts) (.ref l6):=TR_mk (SqT.of upd_same) (e1.mono (.of S6))
   have S46:=S4.trans (S.trans S6)
   refine nCat (t23.mono (.of S46)) t6 (small (by lia)) (fun y7 H7 S7 t7=>hN _ _ ⟨y7,_,rfl,D23.same (S46.trans S7),t7,(B_cat e3 bu).le (by lia) (by lia)⟩)
 obtain⟨v,g,rfl,D8,t8,b8⟩:=h8
 refine⟨_,rfl,v,g,rfl,t8,b8,fun H9 S9=>⟨_,rfl,iteF ?_⟩⟩
 refine⟨rfl,fun y10 H10 S10 t10=>⟨y10,_,rfl,t10,bt.le (by lia) (by lia),fun H11 S11=>⟨_,rfl,iteF ?_⟩⟩⟩
 have D11:=D8.same (S9.trans (S10.trans S11))
 refine⟨_,rfl,p,2,rfl,by decide,D11.deck,fun y12 u12 H12 D12 t12 s12=>⟨y12,u12,rfl,t12,s12.b.le (by decide) (by decide),fun H13 S13=>⟨_,rfl,iteF ?_⟩⟩⟩
 dsimp only [tNext]
 refine setQ (fun v'=>[some (.ref a),some (.ref p),some v,some v']) (fun _=>rfl) (fun v H'=>TR K H' (.node tTeller) v) (fun R r=>⟨rfl,fun y14 H14 S14 t14=>r _ _ t14⟩) (fun v14 H14 t14=>?_)
 refine⟨_,rfl,v14,tTeller,ps,rfl,t14,hts,bt.le (by lia) (by lia),fun H15 S15=>⟨tTeller,ps,rfl,hts,bt.le (by lia) (by lia),fun y16 H16 S16 t16=>⟨_,rfl,_,_,t16,t14.mono (.of (S15.trans S16)),by lia,_,rfl,?_⟩⟩⟩
 rw [T.beq_self]
 refine iteT ?_
 have t17:=t14.mono (K:=K) (.of (S15.trans S16))
 refine⟨_,rfl,v14,.node tTeller,rfl,t17,by lia,fun H17 S17=>⟨.node tTeller,rfl,by lia,fun y18 H18 S18 t18=>⟨_,rfl,_,_,t18,t17.mono (.of (S17.trans S18)),by lia,?_⟩⟩⟩
 rw [T.beq_self]
 exact q _
end
end Sw75
namespace Sw75
open PySem PySem.Spec PyProof.Rows L2 Sw
abbrev s_Fronted___init__:Stmt:=inClass (top 60) 0
abbrev s_Later___init__:Stmt:=inClass (top 61) 0
abbrev s_Word___init__:Stmt:=inClass (top 71) 0
abbrev s_Word_body_parts:Stmt:=inClass (top 71) 1
abbrev s_Text___init__:Stmt:=inClass (top 72) 0
abbrev s_Text_word_at:Stmt:=inClass (top 72) 1
abbrev s_Going___init__:Stmt:=inClass (top 73) 0
abbrev s_Walk___init__:Stmt:=inClass (top 74) 0
abbrev s_Walk_at_end:Stmt:=inClass (top 74) 1
abbrev s_Walk_top:Stmt:=inClass (top 74) 2
abbrev s_Walk_tally:Stmt:=inClass (top 74) 3
abbrev s_Walk_step:Stmt:=inClass (top 74) 5
abbrev s_Walk_move:Stmt:=inClass (top 74) 6
theorem sc_Fronted___init__:FnScope ["self","item","behind"] ["self","item","behind"] (defScope s_Fronted___init__):=⟨rfl,rfl,rfl,by decide +kernel,rfl,by decide +kernel,by decide +kernel⟩
theorem sc_Later___init__:FnScope ["self","tree","place"] ["self","tree","place"] (defScope s_Later___init__):=⟨rfl,rfl,rfl,by decide +kernel,rfl,by decide +kernel,by decide +kernel⟩
theorem sc_Word___init__:FnScope ["self","tree"] ["self","tree"] (defScope s_Word___init__):=⟨rfl,rfl,rfl,by decide +kernel,rfl,by decide +kernel,by decide +kernel⟩
theorem sc_Word_body_parts:FnScope ["self"] ["self"] (defScope s_Word_body_parts):=⟨rfl,rfl,rfl,by decide +kernel,rfl,by decide +kernel,by decide +kernel⟩
theorem sc_Text___init__:FnScope ["self","tree"] ["self","tree"] (defScope s_Text___init__):=⟨rfl,rfl,rfl,by decide +kernel,rfl,by decide +kernel,by decide +kernel⟩
theorem sc_Text_word_at:FnScope ["self","place"] ["self","place"] (defScope s_Text_word_at):=⟨rfl,rfl,rfl,by decide +kernel,rfl,by decide +kernel,by decide +kernel⟩
theorem sc_Going___init__:FnScope ["self","text"] ["self","text"] (defScope s_Going___init__):=⟨rfl,rfl,rfl,by decide +kernel,rfl,by decide +kernel,by decide +kernel⟩
theorem sc_Walk___init__:FnScope ["self","stand","budget"] ["self","stand","budget"] (defScope s_Walk___init__):=⟨rfl,rfl,rfl,by decide +kernel,rfl,by decide +kernel,by decide +kernel⟩
theorem sc_Walk_at_end:FnScope ["self"] ["self"] (defScope s_Walk_at_end):=⟨rfl,rfl,rfl,by decide +kernel,rfl,by decide +kernel,by decide +kernel⟩
theorem sc_Walk_top:FnScope ["self"] ["self"] (defScope s_Walk_top):=⟨rfl,rfl,rfl,by decide +kernel,rfl,by decide +kernel,by decide +kernel⟩
theorem sc_Walk_tally:FnScope ["self"] ["self"] (defScope s_Walk_tally):=⟨rfl,rfl,rfl,by decide +kernel,rfl,by decide +kernel,by decide +kernel⟩
theorem sc_Walk_step:FnScope ["self","going","word","step","taken"] ["self"] (defScope s_Walk_step):=⟨rfl,rfl,rfl,by decide +kernel,rfl,by decide +kernel,by decide +kernel⟩
theorem sc_Walk_move:FnScope ["self","step","going","word"] ["self","step","going","word"] (defScope s_Walk_move):=⟨rfl,rfl,rfl,by decide +kernel,rfl,by decide +kernel,by decide +kernel⟩
end Sw75
namespace Sw75
open PySem PySem.Spec PyProof.Rows L2 Sw
section
variable {P:Program}{w:World}{K:PySem.W.Frag}{mg:Str→Option Value}{base:Heap}{f:Addr}{fd:FuncData}{CFronted CLater CWord CText CGoing CWalk:Addr}
theorem ok_Fronted___init__ (O:Own K CFronted CLater CWord CText CGoing CWalk)
  (F:Fun K "__init__" "Fronted.__init__" s_Fronted___init__ f fd):FnOk P w K mg base CX0 31 f fd ["self","item","behind"] (spFrInit CFronted):=by
 refine okQ F sc_Fronted___init__ (fun vs H Q E h=>?_) (fun cdv A outer s H vs Q E hr h=>?_)
 ·obtain⟨o,dx,y,z,rfl,_⟩:=h
  rfl
 obtain⟨o,dx,y,z,rfl,ho,q⟩:=h
 refine⟨_,(qss_cons (qs_fld (qv 0) (qv 1) rfl)
   (qss_one (qs_fld (qv 0) (qv 2) rfl))),?_⟩
 refine⟨_,rfl,_,rfl,o,CFronted,dx,_,rfl,ho,O.rF.cl,O.fi,by show 0<1000; decide,?_⟩
 refine⟨_,rfl,_,rfl,o,CFronted,dx,_,rfl,upd_same,O.rF.cl,O.fb,by show 1<1000; decide,?_⟩
 have e:upd (upd H o (.ins CFronted dx (putF "item" y []))) o (.ins CFronted dx (putF "behind" z (putF "item" y [])))=upd H o (.ins CFronted dx (fF y z)):=by
  rw [updU,putTwo (by decide +kernel)]
  rfl
 exact e ▸ q
theorem ok_Later___init__ (O:Own K CFronted CLater CWord CText CGoing CWalk)
  (F:Fun K "__init__" "Later.__init__" s_Later___init__ f fd):FnOk P w K mg base CX0 31 f fd ["self","tree","place"] (spLaInit CLater):=by
 refine okQ F sc_Later___init__ (fun vs H Q E h=>?_) (fun cdv A outer s H vs Q E hr h=>?_)
 ·obtain⟨o,dx,v,p,rfl,_⟩:=h
  rfl
 obtain⟨o,dx,v,p,rfl,ho,q⟩:=h
 refine⟨_,(qss_cons (qs_fld (qv 0) (qv 1) rfl)
   (qss_one (qs_fld (qv 0) (qv 2) rfl))),?_⟩
 refine⟨_,rfl,_,rfl,o,CLater,dx,_,rfl,ho,O.rL.cl,O.lt,by show 0<1000; decide,?_⟩
 refine⟨_,rfl,_,rfl,o,CLater,dx,_,rfl,upd_same,O.rL.cl,O.lp,by show 1<1000; decide,?_⟩
 have e:upd (upd H o (.ins CLater dx (putF "tree" v []))) o (.ins CLater dx (putF "place" (.int (p:Int)) (putF "tree" v [])))=upd H o (.ins CLater dx (fL v p)):=by
  rw [updU,putTwo (by decide +kernel)]
  rfl
 exact e ▸ q
theorem ok_Going___init__ (O:Own K CFronted CLater CWord CText CGoing CWalk)
  (F:Fun K "__init__" "Going.__init__" s_Going___init__ f fd):FnOk P w K mg base CX0 31 f fd ["self","text"] (spGoInit CGoing):=by
 refine okQ F sc_Going___init__ (fun vs H Q E h=>?_) (fun cdv A outer s H vs Q E hr h=>?_)
 ·obtain⟨o,dx,a,rfl,_⟩:=h
  rfl
 obtain⟨o,dx,a,rfl,ho,q⟩:=h
 refine⟨_,(qss_cons (qs_fld (qv 0) (qv 1) rfl)
   (qss_one (qs_fld (qv 0) qe_int rfl))),?_⟩
 refine⟨_,rfl,_,rfl,o,CGoing,dx,_,rfl,ho,O.cGoing,O.gt,by show 0<1000; decide,?_⟩
 refine⟨_,rfl,o,CGoing,dx,_,rfl,upd_same,O.cGoing,O.gp,by show 1<1000; decide,?_⟩
 have e:upd (upd H o (.ins CGoing dx (putF "text" (.ref a) []))) o (.ins CGoing dx (putF "place" (.int 0) (putF "text" (.ref a) [])))=upd H o (.ins CGoing dx (fG a 0)):=by
  rw [updU,putTwo (by decide +kernel)]
  rfl
 exact e ▸ q
theorem ok_Text___init__ (O:Own K CFronted CLater CWord CText CGoing CWalk)
  (F:Fun K "__init__" "Text.__init__" s_Text___init__ f fd):FnOk P w K mg base CX0 31 f fd ["self","tree"] (spTxInit CText):=by
 refine okQ F sc_Text___init__ (fun vs H Q E h=>?_) (fun cdv A outer s H vs Q E hr h=>?_)
 ·obtain⟨o,dx,v,rfl,_⟩:=h
  rfl
 obtain⟨o,dx,v,rfl,ho,q⟩:=h
 refine⟨_,(qss_cons (qs_fld (qv 0) (qv 1) rfl)
   (qss_one (qs_fld (qv 0) (qe_lst qa_nil) rfl))),?_⟩
 refine⟨_,rfl,_,rfl,o,CText,dx,_,rfl,ho,O.cText,O.tt,by show 0<1000; decide,?_⟩
 refine⟨Nat.zero_le _,fun W g=>⟨_,rfl,o,CText,dx,putF "tree" v [],rfl,?_,O.cText,O.tw,by show 1<1000; decide,?_⟩⟩
 ·have nW:o≠W:=ne_of_none (h:=upd_same) g
  rw [upd_ne nW,upd_same]
 ·have nW:o≠W:=ne_of_none (h:=upd_same) g
  have hW:H W=none:=by rw [upd_ne (Ne.symm nW)] at g; exact g
  have e:upd (upd (upd H o (.ins CText dx (putF "tree" v []))) W (.lst [])) o (.ins CText dx (putF "words" (.ref W) (putF "tree" v [])))=upd (upd H W (.lst [])) o (.ins CText dx (fT v W)):=by
   rw [updC nW (H:=H),updU,putTwo (by decide +kernel)]
   rfl
  exact e ▸ q W hW
theorem ok_first_of (O:Own K CFronted CLater CWord CText CGoing CWalk) (m_isinstance:mg "isinstance"=none)
  {a_first:Addr}{d_first:FuncData} (F_first:Fun K "first" "first" s_first a_first d_first) (G_first:FnOk P w K mg base CX0 31 a_first d_first ["tree"] (spFirst K)) (b_first:Binds K d_first ["tree"] []) (m_first:mg "first"=some (.ref a_first))
  (m_Fronted:mg "Fronted"=some (.ref CFronted))
  (m_Later:mg "Later"=some (.ref CLater))
  (F:Fun K "first_of" "first_of" s_first_of f fd):FnOk P w K mg base CX0 32 f fd ["row"] (spFirstOf K CFronted CLater CWord CText):=by
 refine okQ F sc_first_of (fun vs H Q E h=>?_) (fun cdv A outer s H vs Q E hr h=>?_)
 ·obtain⟨x,t,M,H₀,rfl,_⟩:=h
  rfl
 obtain⟨x,t,M,H₀,rfl,g,hx,hd,q⟩:=h
 refine⟨_,(qss_cons (qs_if (qt_val (qe_callB call_isinstO rfl m_isinstance bt_isinstance (qa_cons (qv 0) (qa_cons (qe_glob (v:=.ref CFronted) rfl m_Fronted rfl) qa_nil)))) (qss_one (qs_ret (qe_fld (qv 0) rfl))) qss_nil)
   (qss_cons (qs_if (qt_val (qe_callB call_isinstO rfl m_isinstance bt_isinstance (qa_cons (qv 0) (qa_cons (qe_glob (v:=.ref CLater) rfl m_Later rfl) qa_nil)))) (qss_one (qs_ret (qe_ix ix_tup (qe_fld (qv 0) rfl) (qe_fld (qv 0) rfl) (fun _ _=>rfl)))) qss_nil)
   (qss_one (qs_ret (qe_call G_first hr rfl m_first F_first.kp b_first .nil pass0 (qa_cons (qv 0) qa_nil)))))),?_⟩
 rcases hx.cases g with hu | ⟨a,dx,y,z,u,ts,rfl,ha,rfl,hy,hz⟩
 ·rcases hu with ht | ⟨a,dx,v,ts,p,rfl,ha,hv,hp,hl,rfl⟩
  ·obtain⟨b,ys,rfl,hb,_⟩:=TR_kids' ht
   refine⟨_,rfl,_,CFronted,false,rfl,.inr ⟨b,ys,rfl,hb,O.iTF⟩,_,rfl,iteF ?_⟩
   refine⟨_,rfl,_,CLater,false,rfl,.inr ⟨b,ys,rfl,hb,O.iTL⟩,_,rfl,iteF ?_⟩
   exact⟨_,rfl,_,t,rfl,ht,hd,fun y H' S h=>q y H' S (.inl h)⟩
  ·refine⟨_,rfl,_,CFronted,false,rfl,.inl ⟨_,O.rL.ty ha,O.iLF⟩,_,rfl,iteF ?_⟩
   refine⟨_,rfl,_,CLater,true,rfl,.inl ⟨_,O.rL.ty ha,O.iLL⟩,_,rfl,iteT ?_⟩
   obtain⟨b,ys,rfl,hb,hys⟩:=TR_node.mp hv
   obtain⟨w',ew⟩:∃ w',ts[p]?=some w':=⟨_,List.getElem?_eq_getElem hp⟩
   obtain⟨x',ex,tx'⟩:=hys.at ew
   refine⟨_,rfl,a,CLater,dx,_,_,rfl,ha,O.rL.cl,O.lt,lk_eq _ _ _,_,rfl,a,CLater,dx,_,_,rfl,ha,O.rL.cl,O.lp,(lk_ne (by decide +kernel) _ _).trans (lk_eq _ _ _),b,ys,p,x',rfl,rfl,hb,atI_nat ex,q _ _ (Same.refl _) (.inl ?_)⟩
   have:ats (T.node (ts.drop p)).kids 0=w':=by
    show ((ts.drop p)[0]?).getD leaf=w'
    rw [List.getElem?_drop,Nat.add_zero,ew]
    rfl
   rw [this]
   exact tx'
 ·refine⟨_,rfl,_,CFronted,true,rfl,.inl ⟨_,O.rF.ty ha,O.iFF⟩,_,rfl,iteT ?_⟩
  exact⟨_,rfl,a,CFronted,dx,_,_,rfl,ha,O.rF.cl,O.fi,lk_eq _ _ _,q _ _ (Same.refl _) hy⟩
theorem ok_later (O:Own K CFronted CLater CWord CText CGoing CWalk) (m_len:mg "len"=none)
  (m_Later:mg "Later"=some (.ref CLater))
  {a_Later___init__:Addr}{d_Later___init__:FuncData} (MK_Later:Mk K CLater a_Later___init__) (G_Later___init__:FnOk P w K mg base CX0 31 a_Later___init__ d_Later___init__ ["self","tree","place"] (spLaInit CLater)) (b_Later___init__:Binds K d_Later___init__ ["self","tree","place"] [])
  (F:Fun K "later" "later" s_later f fd):FnOk P w K mg base CX0 33 f fd ["tree","place"] (spLater K CFronted CLater CWord CText):=by
 refine okQ F sc_later (fun vs H Q E h=>?_) (fun cdv A outer s H vs Q E hr h=>?_)
 ·obtain⟨x,ts,p,M,H₀,rfl,_⟩:=h
  rfl
 obtain⟨x,ts,p,M,H₀,rfl,g,ht,hl,q⟩:=h
 refine⟨_,(qss_one (qs_ret (qe_ifExp (qt_cmpR op_lt (qv 1) (qe_callB call_len_seq rfl m_len bt_len (qa_cons (qv 0) qa_nil)) (nomark _)) (qe_make MK_Later G_Later___init__ hr rfl m_Later b_Later___init__ .nil pass0 (qa_cons (qv 0) (qa_cons (qv 1) qa_nil))) (qe_tup qa_nil)))),?_⟩
 obtain⟨b,ys,rfl,hb,hys⟩:=TR_node.mp ht
 have hyl:=hys.length
 refine⟨_,rfl,_,rfl,b,ys,rfl,.inr hb,_,_,rfl,rfl,_,rfl,ite2 (fun h=>?_) (fun h=>?_)⟩
 ·have hp:p<ts.length:=by have:=of_decide_eq_true h; lia
  refine⟨_,rfl,_,rfl,fun o dx ho hd ne=>⟨o,dx,_,p,rfl,mk_at,?_⟩⟩
  have S:=mk_same (C:=CLater) (fs:=fL (.ref b) p) ho hd ne
  have e:upd (mkO H o dx CLater []) o (.ins CLater dx (fL (.ref b) p))=mkO H o dx CLater (fL (.ref b) p):=mk_put
  have fin:Q (.ref o) (mkO H o dx CLater (fL (.ref b) p)):=q _ (setM M o (.row (.node (ts.drop p)))) _ S (.role g S ho ⟨_,mk_at⟩ (.inr ⟨dx,_,ts,p,mk_at,ht.mono (.of S),hp,hl,rfl⟩)) (.inr ⟨o,rfl,setM_same⟩)
  exact⟨rfl,e ▸ fin⟩
 ·have hp:ts.length≤p:=by
   have:¬ ((p:Int)<(ys.length:Int)):=fun z=>h (decide_eq_true z)
   lia
  refine⟨Nat.zero_le _,fun p1 g1=>?_⟩
  obtain⟨S1,t1⟩:=tupN (K:=K) (ts:=[]) g1 (TRs_nil.mpr rfl)
  refine q _ M _ S1 (.grow g S1) (.inl ?_)
  rw [List.drop_eq_nil_of_le hp]
  exact t1
theorem ok_rest_of (O:Own K CFronted CLater CWord CText CGoing CWalk) (m_isinstance:mg "isinstance"=none)
  {a_later:Addr}{d_later:FuncData} (F_later:Fun K "later" "later" s_later a_later d_later) (G_later:FnOk P w K mg base CX0 33 a_later d_later ["tree","place"] (spLater K CFronted CLater CWord CText)) (b_later:Binds K d_later ["tree","place"] []) (m_later:mg "later"=some (.ref a_later))
  (m_Fronted:mg "Fronted"=some (.ref CFronted))
  (m_Later:mg "Later"=some (.ref CLater))
  (F:Fun K "rest_of" "rest_of" s_rest_of f fd):FnOk P w K mg base CX0 34 f fd ["row"] (spRestOf K CFronted CLater CWord CText):=by
 refine okQ F sc_rest_of (fun vs H Q E h=>?_) (fun cdv A outer s H vs Q E hr h=>?_)
 ·obtain⟨x,t,M,H₀,rfl,_⟩:=h
  rfl
 obtain⟨x,t,M,H₀,rfl,g,hx,hd,hk,q⟩:=h
 refine⟨_,(qss_cons (qs_if (qt_val (qe_callB call_isinstO rfl m_isinstance bt_isinstance (qa_cons (qv 0) (qa_cons (qe_glob (v:=.ref CFronted) rfl m_Fronted rfl) qa_nil)))) (qss_one (qs_ret (qe_fld (qv 0) rfl))) qss_nil)
   (qss_cons (qs_if (qt_val (qe_callB call_isinstO rfl m_isinstance bt_isinstance (qa_cons (qv 0) (qa_cons (qe_glob (v:=.ref CLater) rfl m_Later rfl) qa_nil)))) (qss_one (qs_ret (qe_call G_later hr rfl m_later F_later.kp b_later .nil pass0 (qa_cons (qe_fld (qv 0) rfl) (qa_cons (qe_op op_add (qe_fld (qv 0) rfl) qe_int) qa_nil))))) qss_nil)
   (qss_one (qs_ret (qe_call G_later hr rfl m_later F_later.kp b_later .nil pass0 (qa_cons (qv 0) (qa_cons qe_int qa_nil))))))),?_⟩
 rcases hx.cases g with hu | ⟨a,dx,y,z,u,ts,rfl,ha,rfl,hy,hz⟩
 ·rcases hu with ht | ⟨a,dx,v,ts,p,rfl,ha,hv,hp,hl,rfl⟩
  ·obtain⟨b,ys,rfl,hb,_⟩:=TR_kids' ht
   refine⟨_,rfl,_,CFronted,false,rfl,.inr ⟨b,ys,rfl,hb,O.iTF⟩,_,rfl,iteF ?_⟩
   refine⟨_,rfl,_,CLater,false,rfl,.inr ⟨b,ys,rfl,hb,O.iTL⟩,_,rfl,iteF ?_⟩
   exact⟨_,rfl,_,t.kids,1,M,H₀,rfl,g,TR_kids ht,hk,fun y M' H' S G h=>q y M' H' S G h⟩
  ·refine⟨_,rfl,_,CFronted,false,rfl,.inl ⟨_,O.rL.ty ha,O.iLF⟩,_,rfl,iteF ?_⟩
   refine⟨_,rfl,_,CLater,true,rfl,.inl ⟨_,O.rL.ty ha,O.iLL⟩,_,rfl,iteT ?_⟩
   refine⟨_,rfl,a,CLater,dx,_,_,rfl,ha,O.rL.cl,O.lt,lk_eq _ _ _,_,rfl,a,CLater,dx,_,_,rfl,ha,O.rL.cl,O.lp,(lk_ne (by decide +kernel) _ _).trans (lk_eq _ _ _),_,_,rfl,rfl,v,ts,p+1,M,H₀,rfl,g,hv,hl,fun y M' H' S G h=>q y M' H' S G ?_⟩
   have:loadT (T.node (ts.drop p))=.node (ts.drop (p+1)):=by
    show T.node ((ts.drop p).drop 1)=_
    rw [List.drop_drop]
   rw [this]
   exact h
 ·refine⟨_,rfl,_,CFronted,true,rfl,.inl ⟨_,O.rF.ty ha,O.iFF⟩,_,rfl,iteT ?_⟩
  exact⟨_,rfl,a,CFronted,dx,_,_,rfl,ha,O.rF.cl,O.fb,(lk_ne (by decide +kernel) _ _).trans (lk_eq _ _ _),q _ M _ (Same.refl _) (.refl g) hz⟩
theorem ok_unfronted (O:Own K CFronted CLater CWord CText CGoing CWalk) (m_isinstance:mg "isinstance"=none)
  (m_Later:mg "Later"=some (.ref CLater))
  (F:Fun K "unfronted" "unfronted" s_unfronted f fd):FnOk P w K mg base CX0 31 f fd ["row"] (spUnfr K CLater):=by
 refine okQ F sc_unfronted (fun vs H Q E h=>?_) (fun cdv A outer s H vs Q E hr h=>?_)
 ·obtain⟨x,t,rfl,_⟩:=h
  rfl
 obtain⟨x,t,rfl,hu,q⟩:=h
 refine⟨_,(qss_cons (qs_if (qt_val (qe_callB call_isinstO rfl m_isinstance bt_isinstance (qa_cons (qv 0) (qa_cons (qe_glob (v:=.ref CLater) rfl m_Later rfl) qa_nil)))) (qss_one (qs_ret (qe_slice sl_tupA (qe_fld (qv 0) rfl) (qo_some (qe_fld (qv 0) rfl)) qo_none))) qss_nil)
   (qss_one (qs_ret (qv 0)))),?_⟩
 rcases hu with ht | ⟨a,dx,v,ts,p,rfl,ha,hv,hp,hl,rfl⟩
 ·obtain⟨b,ys,rfl,hb,_⟩:=TR_kids' ht
  refine⟨_,rfl,_,CLater,false,rfl,.inr ⟨b,ys,rfl,hb,O.iTL⟩,_,rfl,iteF ?_⟩
  exact⟨_,rfl,q _ _ (Same.refl _) ht⟩
 ·refine⟨_,rfl,_,CLater,true,rfl,.inl ⟨_,O.rL.ty ha,O.iLL⟩,_,rfl,iteT ?_⟩
  obtain⟨b,ys,rfl,hb,hys⟩:=TR_node.mp hv
  refine⟨_,rfl,a,CLater,dx,_,_,rfl,ha,O.rL.cl,O.lt,lk_eq _ _ _,_,rfl,a,CLater,dx,_,_,rfl,ha,O.rL.cl,O.lp,(lk_ne (by decide +kernel) _ _).trans (lk_eq _ _ _),(p:Int),rfl,b,ys,rfl,hb,fun p1 H1 S1 h1=>q _ _ S1 (TR_mk h1 ?_)⟩
  rw [cut_from]
  exact (hys.drop p).mono (.of S1)
theorem ok_parts_within (O:Own K CFronted CLater CWord CText CGoing CWalk) (m_isinstance:mg "isinstance"=none)
  {a_unfronted:Addr}{d_unfronted:FuncData} (F_unfronted:Fun K "unfronted" "unfronted" s_unfronted a_unfronted d_unfronted) (G_unfronted:FnOk P w K mg base CX0 31 a_unfronted d_unfronted ["row"] (spUnfr K CLater)) (b_unfronted:Binds K d_unfronted ["row"] []) (m_unfronted:mg "unfronted"=some (.ref a_unfronted))
  (m_Fronted:mg "Fronted"=some (.ref CFronted))
  (F:Fun K "parts_within" "parts_within" s_parts_within f fd):FnOk P w K mg base CX0 32 f fd ["row","most"] (spPartsW K CFronted CLater CWord CText):=by
 refine okQ F sc_parts_within (fun vs H Q E h=>?_) (fun cdv A outer s H vs Q E hr h=>?_)
 ·obtain⟨x,t,M,H₀,m,rfl,_⟩:=h
  rfl
 obtain⟨x,t,M,H₀,m,rfl,g,hx,hz,q⟩:=h
 refine⟨_,(qss_cons (qs_set (i:=2) sc_parts_within.nd rfl (Or.inl rfl) (qe_lst (qa_cons (qv 0) qa_nil)))
   (qss_cons (qs_set (i:=3) sc_parts_within.nd rfl (Or.inl rfl) qe_int)
   (qss_cons (qs_while PassesOwn.never (QW.pt (qw_and (qt_truth (qv 2) (fun _=>rfl)) (qw_and1 (qt_cmpR op_le (qv 3) (qv 1) (nomark _))))) (qss_cons (qs_set (i:=4) sc_parts_within.nd rfl (Or.inl rfl) (qe_bm0 PySem.F.plainAttrs_list PySem.F.slot_list_pop PySem.F.type_list_pop mt_pop (qv 2)))
   (qss_one (qs_if (qt_val (qe_callB call_isinstO rfl m_isinstance bt_isinstance (qa_cons (qv 4) (qa_cons (qe_glob (v:=.ref CFronted) rfl m_Fronted rfl) qa_nil)))) (qss_cons (qs_expr (qe_bm PySem.F.plainAttrs_list PySem.F.slot_list_append PySem.F.type_list_append mt_append (qv 2) (qa_cons (qe_fld (qv 4) rfl) qa_nil)))
   (qss_one (qs_expr (qe_bm PySem.F.plainAttrs_list PySem.F.slot_list_append PySem.F.type_list_append mt_append (qv 2) (qa_cons (qe_fld (qv 4) rfl) qa_nil))))) (qss_cons (qs_aug (i:=3) sc_parts_within.nd rfl (Or.inl rfl) qe_int ip_add)
   (qss_one (qs_expr (qe_bm PySem.F.plainAttrs_list PySem.F.slot_list_extend PySem.F.type_list_extend mt_extT (qv 2) (qa_cons (qe_call G_unfronted hr rfl m_unfronted F_unfronted.kp b_unfronted .nil pass0 (qa_cons (qv 4) qa_nil)) qa_nil)))))))))
   (qss_one (qs_ret (qv 3)))))),?_⟩
 refine⟨_,rfl,(by show 1≤sizeLine; decide),fun p hp=>?_⟩
 refine⟨WPW K M H x m t.parts p,⟨_,[x],[t],0,none,rfl,same_new hp _,upd_same,All2.one (hx.mono (Kt.new hp) fun _ _ z=>z),by rw [T.partsL_cons,T.partsL_nil]; lia,rfl⟩,?_⟩
 rintro μ σ H' ⟨ys,ts,c,o,rfl,S,hl,ha,hc,rfl⟩
 refine⟨_,rfl,!ys.isEmpty,.inl ⟨ys,SqL.of hl,rfl⟩,ite2 (fun hb=>?_) (fun hb=>?_)⟩
 ·refine⟨_,rfl,_,rfl,_,_,rfl,rfl,_,rfl,ite2 (fun hle=>?_) (fun hle=>?_)⟩
  ·have hne:ys≠[]:=by rintro rfl; exact absurd hb (by decide)
   obtain⟨u,ts0,y,rfl,hy,ha0,hu⟩:=all_lastD ha hne
   have hyl:=ha0.length
   rw [List.length_reverse] at hyl
   have hpp:=T.partsL_cons u ts0
   have hlp:=T.len_le_parts ts0
   have hup:=T.parts_pos u
   refine⟨fun σ' H'=>∃ m',m'<2 * T.partsL (u::ts0) - (u::ts0).length∧WPW K M H x m t.parts p m' σ' H',fun _ _ h=>h,?_⟩
   refine⟨_,rfl,.inl ⟨rfl,_,SqL.of hl⟩,p,ys,y,rfl,rfl,hl,hy,?_⟩
   have k1:=Ki.lst (o:=.lst ys.dropLast) hl
   have g1:=g.grow S
   rcases hu.cases g1 with hu | ⟨a,dx,y1,z1,u1,ts1,rfl,ha1,rfl,hy1,hz1⟩
   ·have hu1:=hu.mono k1
    refine⟨_,rfl,y,CFronted,false,rfl,hu1.notF O,_,rfl,iteF ?_⟩
    refine⟨_,rfl,_,_,rfl,rfl,?_⟩
    refine⟨_,rfl,.inl ⟨rfl,_,SqL.of upd_same⟩,_,rfl,y,u,rfl,hu1,fun y2 H2 S2 t2=>?_⟩
    obtain⟨b2,zs2,rfl,hb2,hz2⟩:=TR_kids' t2
    have hzl:=hz2.length
    have hk:=T.parts_kids u
    have hlk:=T.len_le_parts u.kids
    have h2:=S2 _ _ (upd_same (H:=H') (a:=p) (o:=.lst ys.dropLast))
    refine⟨p,b2,ys.dropLast,zs2,rfl,rfl,h2,hb2,smallM (by lia),?_⟩
    refine⟨_,?_,ys.dropLast++zs2,u.kids.reverse++ts0,c+1,_,rfl,?_,upd_same,?_,?_,rfl⟩
    ·rw [T.partsL_append,partsL_rev,List.length_append,List.length_reverse,hpp]
     show _<2 * _ - (ts0.length+1)
     lia
    ·exact same_upd ((same_upd S hp).trans S2) hp
    ·rw [List.reverse_append,List.reverse_reverse]
     exact All2.append (all_row (k1.kt.trans ((Kt.of S2).trans (Kt.lst h2))) ha0) (all_row (Kt.lst h2) (trs_all hz2))
    ·rw [T.partsL_append,partsL_rev]
     lia
   ·refine⟨_,rfl,_,CFronted,true,rfl,.inl ⟨_,O.rF.ty (k1.ins _ _ _ _ ha1),O.iFF⟩,_,rfl,iteT ?_⟩
    refine⟨_,rfl,.inl ⟨rfl,_,SqL.of upd_same⟩,_,rfl,a,CFronted,dx,_,_,rfl,k1.ins _ _ _ _ ha1,O.rF.cl,O.fi,lk_eq _ _ _,p,_,_,rfl,rfl,upd_same,smallM' (by lia),?_⟩
    rw [updU]
    have k2:=Ki.lst (o:=.lst (ys.dropLast++[y1])) hl
    refine⟨_,rfl,.inl ⟨rfl,_,SqL.of upd_same⟩,_,rfl,a,CFronted,dx,_,_,rfl,k2.ins _ _ _ _ ha1,O.rF.cl,O.fb,(lk_ne (by decide +kernel) _ _).trans (lk_eq _ _ _),p,_,_,rfl,rfl,upd_same,smallM' (by rw [List.length_append,List.length_singleton]; lia),?_⟩
    rw [updU]
    have k3:=Ki.lst (o:=.lst (ys.dropLast++[y1]++[z1])) hl
    have e1:=T.parts_node (u1::ts1)
    have e2:=T.partsL_cons u1 ts1
    have e3:=T.parts_node ts1
    refine⟨_,?_,ys.dropLast++[y1]++[z1],.node ts1::u1::ts0,c,_,rfl,same_upd S hp,upd_same,?_,?_,rfl⟩
    ·rw [T.partsL_cons,T.partsL_cons,hpp]
     show _ - (ts0.length+1+1)<_ - (ts0.length+1)
     lia
    ·rw [List.reverse_cons,List.reverse_cons]
     exact All2.append (All2.append (all_row k3.kt ha0) (All2.one (hy1.mono k3.kt fun _ _ z=>z))) (All2.one (hz1.mono k3.kt fun _ _ z=>z))
    ·rw [T.partsL_cons,T.partsL_cons]
     lia
  ·have hle':m<c:=by
    have:¬ ((c:Int)≤(m:Int)):=fun z=>hle (decide_eq_true z)
    lia
   exact⟨_,rfl,q c _ S (fun z=>by lia) (fun _=>hle')⟩
 ·have hys:ys=[]:=by
   cases ys with
   | nil=>rfl
   | cons _ _=>exact absurd rfl hb
  subst hys
  have hts:=all_nil ha
  subst hts
  rw [T.partsL_nil] at hc
  exact iteF ⟨_,rfl,q c _ S (fun _=>by lia) (fun _=>by lia)⟩
theorem ok_as_tree (O:Own K CFronted CLater CWord CText CGoing CWalk) (m_isinstance:mg "isinstance"=none) (m_tuple:mg "tuple"=none)
  {a_unfronted:Addr}{d_unfronted:FuncData} (F_unfronted:Fun K "unfronted" "unfronted" s_unfronted a_unfronted d_unfronted) (G_unfronted:FnOk P w K mg base CX0 31 a_unfronted d_unfronted ["row"] (spUnfr K CLater)) (b_unfronted:Binds K d_unfronted ["row"] []) (m_unfronted:mg "unfronted"=some (.ref a_unfronted))
  (m_Fronted:mg "Fronted"=some (.ref CFronted))
  (F:Fun K "as_tree" "as_tree" s_as_tree f fd):FnOk P w K mg base CX0 32 f fd ["row"] (spAsTree K CFronted CLater CWord CText):=by
 refine okQ F sc_as_tree (fun vs H Q E h=>?_) (fun cdv A outer s H vs Q E hr h=>?_)
 ·obtain⟨x,t,M,H₀,rfl,_⟩:=h
  rfl
 obtain⟨x,t,M,H₀,rfl,g,hx,hz,q⟩:=h
 refine⟨_,(qss_cons (qs_set (i:=1) sc_as_tree.nd rfl (Or.inl rfl) (qe_lst (qa_cons (qv 0) qa_nil)))
   (qss_cons (qs_set (i:=2) sc_as_tree.nd rfl (Or.inl rfl) (qe_lst (qa_cons (qe_lst qa_nil) qa_nil)))
   (qss_one (qs_while PassesOwn.never (qt_val qe_bl) (qss_cons (qs_set (i:=3) sc_as_tree.nd rfl (Or.inl rfl) (qe_ix ix_list (qv 1) (qe_un un_neg qe_int) (fun _ _=>rfl)))
   (qss_cons (qs_if (qt_val (qe_callB call_isinstO rfl m_isinstance bt_isinstance (qa_cons (qv 3) (qa_cons (qe_glob (v:=.ref CFronted) rfl m_Fronted rfl) qa_nil)))) (qss_cons (qs_asg (qe_fld (qv 3) rfl) (qg_sub (qv 1) (qe_un un_neg qe_int) set_list))
   (qss_cons (qs_expr (qe_bm PySem.F.plainAttrs_list PySem.F.slot_list_append PySem.F.type_list_append mt_append (qv 1) (qa_cons (qe_fld (qv 3) rfl) qa_nil)))
   (qss_cons (qs_expr (qe_bm PySem.F.plainAttrs_list PySem.F.slot_list_append PySem.F.type_list_append mt_append (qv 2) (qa_cons (qe_lst qa_nil) qa_nil)))
   (qss_one qs_continue)))) qss_nil)
   (qss_cons (qs_expr (qe_bm0 PySem.F.plainAttrs_list PySem.F.slot_list_pop PySem.F.type_list_pop mt_pop (qv 1)))
   (qss_cons (qs_set (i:=4) sc_as_tree.nd rfl (Or.inl rfl) (qe_op op_catTA (qe_callTy call_tuple_of rfl m_tuple bt_tuple (qa_cons (qe_bm0 PySem.F.plainAttrs_list PySem.F.slot_list_pop PySem.F.type_list_pop mt_pop (qv 2)) qa_nil)) (qe_call G_unfronted hr rfl m_unfronted F_unfronted.kp b_unfronted .nil pass0 (qa_cons (qv 3) qa_nil))))
   (qss_cons (qs_if (qt_not (qt_truth (qv 1) (fun _=>rfl))) (qss_one (qs_ret (qv 4))) qss_nil)
   (qss_one (qs_expr (qe_bm PySem.F.plainAttrs_list PySem.F.slot_list_append PySem.F.type_list_append mt_append (qe_ix ix_list (qv 2) (qe_un un_neg qe_int) (fun _ _=>rfl)) (qa_cons (qv 4) qa_nil))))))))))))),?_⟩
 refine⟨_,rfl,(by show 1≤sizeLine; decide),fun pa ga=>?_⟩
 refine⟨Nat.zero_le _,fun pq gq=>⟨(by show 1≤sizeLine; decide),fun pt gt=>?_⟩⟩
 have Sa:=same_new ga (.lst [x])
 have Sq:=same_new gq (.lst [])
 have St:=same_new gt (.lst [V.ref pq])
 have n1:pa≠pq:=ne_of_none (h:=upd_same) gq
 have hpa:upd (upd H pa (.lst [x])) pq (.lst []) pa=some (.lst [x]):=by rw [upd_ne n1,upd_same]
 have n2:pa≠pt:=ne_of_none hpa gt
 have n3:pq≠pt:=ne_of_none (h:=upd_same) gt
 have a0:AsT K H (upd (upd (upd H pa (.lst [x])) pq (.lst [])) pt (.lst [V.ref pq])) pt pa [V.ref pq] [[]] [x]:=by
  have hq0:H pq=none:=Sa.free gq
  have ht0:H pt=none:=(Sa.trans Sq).free gt
  refine⟨⟨ht0,(Sa.trans Sq).trans St,upd_same,All2.one ⟨pq,[],rfl,hq0,by rw [upd_ne n3,upd_same],TRs_nil.mpr rfl⟩,?_⟩,ga,by rw [upd_ne n2]; exact hpa,?_⟩
  ·simp [Ne.symm n3]
  ·simp [n1,n2]
 have S0:=(Sa.trans Sq).trans St
 generalize upd (upd (upd H pa (.lst [x])) pq (.lst [])) pt (.lst [V.ref pq])=Hs at a0 S0
 refine⟨fun μ σ H'=>∃ (ys zs:List V) (st:List (List T)) (as:List T) (o3 o4:Option V),σ=[some x,some (.ref pa),some (.ref pt),o3,o4]∧AsT K H H' pt pa ys st zs∧All2 (RV K M H') as.reverse zs∧as≠[]∧st.length=as.length∧valT st as=t∧T.partsL as+(st.map List.length).sum≤t.parts∧μ=2 * T.partsL as - as.length,⟨_,[.ref pq],[x],[[]],[t],none,none,rfl,a0,All2.one (hx.mono (.of S0) fun _ _ z=>z),by simp,rfl,by show T.node ([]++t.kids)=t; cases t; rfl,by rw [T.partsL_cons,T.partsL_nil]; show _+0≤_; lia,rfl⟩,?_⟩
 rintro μ σ H1 ⟨ys,zs,st,as,o3,o4,rfl,A1,ha,hne,hlen,hval,hsum,rfl⟩
 refine⟨_,rfl,iteT ?_⟩
 have hzne:zs≠[]:=by
  rintro rfl
  exact hne (all_nil ha)
 obtain⟨u,as0,zs0,y,rfl,rfl,ha0,hu⟩:=all_last ha hzne
 have hzl:=ha0.length
 rw [List.length_reverse] at hzl
 have hpp:=T.partsL_cons u as0
 have hlp:=T.len_le_parts as0
 have hup:=T.parts_pos u
 have g1:=g.grow A1.rows.same
 refine⟨fun σ' H'=>∃ m',m'<2 * T.partsL (u::as0) - (u::as0).length∧∃ (ys zs:List V) (st:List (List T)) (as:List T) (o3 o4:Option V),σ'=[some x,some (.ref pa),some (.ref pt),o3,o4]∧AsT K H H' pt pa ys st zs∧All2 (RV K M H') as.reverse zs∧as≠[]∧st.length=as.length∧valT st as=t∧T.partsL as+(st.map List.length).sum≤t.parts∧m'=2 * T.partsL as - as.length,fun _ _ h=>h,?_⟩
 refine⟨_,rfl,1,rfl,pa,_,_,_,rfl,rfl,SqL.of A1.at_,at_last,?_⟩
 rcases hu.cases g1 with hu | ⟨a,dx,y1,z1,u1,ts1,rfl,ha1,rfl,hy1,hz1⟩
 ·refine⟨_,rfl,y,CFronted,false,rfl,hu.notF O,_,rfl,iteF ?_⟩
  have hk:=T.parts_kids u
  refine⟨_,rfl,.inl ⟨rfl,_,SqL.of A1.at_⟩,pa,_,_,rfl,rfl,A1.at_,last_snoc _ _,?_⟩
  rw [drop_snoc]
  have k1:=Ki.lst (o:=.lst zs0) A1.at_
  have A2:AsT K H (upd H1 pa (.lst zs0)) pt pa ys st zs0:=A1.place
  generalize upd H1 pa (.lst zs0)=H2 at k1 A2
  have hu2:=hu.mono k1
  have ha2:=all_row k1.kt ha0
  obtain⟨l,st0,rfl⟩:∃ l st0,st=l::st0:=by
   cases st with
   | nil=>exact absurd hlen (by simp)
   | cons l st0=>exact⟨l,st0,rfl⟩
  obtain⟨ys0,b,xs,rfl,nRb,hb,hxs,A3⟩:=A2.shut
  refine⟨_,rfl,.inl ⟨rfl,_,SqL.of A2.rows.at_⟩,pt,_,_,rfl,rfl,A2.rows.at_,last_snoc _ _,?_⟩
  rw [drop_snoc]
  have k3:=Ki.lst (o:=.lst ys0) A2.rows.at_
  have hb3:upd H2 pt (.lst ys0) b=some (.lst xs):=by rw [upd_ne (Ne.symm nRb)]; exact hb
  have hxs3:=hxs.mono k3.kt
  generalize upd H2 pt (.lst ys0)=H3 at k3 A3 hb3 hxs3
  refine⟨b,xs,rfl,.inl ⟨SqL.of hb3,fun p4 g4=>?_⟩⟩
  obtain⟨S4,t4⟩:=tupN (K:=K) g4 hxs3
  have hu4:=(hu2.mono k3).mono (Ki.of S4)
  have hsl:(List.map List.length (l::st0)).sum=l.length+(List.map List.length st0).sum:=rfl
  refine⟨_,rfl,y,u,rfl,hu4,fun y5 H5 S5 t5=>?_⟩
  have t5':TR K H5 (.node u.kids) y5:=TR_kids t5
  have hlk:=T.len_le_parts u.kids
  refine nCat (t4.mono (.of S5)) t5' (smallM (by lia)) (fun z6 H6 S6 t6=>?_)
  have S36:=S4.trans (S5.trans S6)
  have A6:=A3.grow S36
  refine⟨_,rfl,!zs0.isEmpty,.inl ⟨zs0,SqL.of A6.at_,rfl⟩,ite2 (fun he=>?_) (fun he=>?_)⟩
  ·have hz0:zs0=[]:=by
    cases zs0 with
    | nil=>rfl
    | cons _ _=>exact absurd he (by simp)
   subst hz0
   have:=all_nil ha0
   subst this
   have hs0:st0=[]:=by
    have:st0.length+1=0+1:=hlen
    exact List.length_eq_zero_iff.mp (by lia)
   subst hs0
   refine⟨_,rfl,q _ _ A6.rows.same ?_⟩
   rw [← hval]
   exact t6
  ·have hz0:zs0≠[]:=by rintro rfl; exact he rfl
   have has0:as0≠[]:=by
    rintro rfl
    cases ha0
    exact hz0 rfl
   obtain⟨l',st1,rfl⟩:∃ l' st1,st0=l'::st1:=by
    cases st0 with
    | nil =>
     have h1:0+1=as0.length+1:=hlen
     exact absurd (List.length_eq_zero_iff.mp (by lia)) has0
    | cons l' st1=>exact⟨l',st1,rfl⟩
   obtain⟨ys1,c,ws,rfl,hc,hwl,A7⟩:=A6.add t6
   have hsl2:(List.map List.length (l'::st1)).sum=l'.length+(List.map List.length st1).sum:=rfl
   refine⟨_,rfl,1,rfl,pt,_,_,_,rfl,rfl,SqL.of A6.rows.at_,at_last,.inl ⟨rfl,_,SqL.of hc⟩,_,rfl,c,_,_,rfl,rfl,hc,smallM' (by lia),?_⟩
   refine⟨_,?_,_,zs0,_,as0,_,_,rfl,A7,?_,has0,?_,?_,?_,rfl⟩
   ·rw [hpp]
    show _<_ - (as0.length+1)
    lia
   ·exact all_row (k3.kt.trans ((Kt.of S36).trans (Kt.lst hc))) ha2
   ·have h1:st1.length+1+1=as0.length+1:=hlen
    show st1.length+1=as0.length
    lia
   ·rw [← hval]
    cases as0 with
    | nil=>exact absurd rfl has0
    | cons _ _=>rw [valT]
   ·show _+((l'++[_]).length+(List.map List.length st1).sum)≤_
    rw [List.length_append,List.length_singleton]
    lia
 ·have e1:=T.parts_node (u1::ts1)
  have e2:=T.partsL_cons u1 ts1
  have e3:=T.parts_node ts1
  refine⟨_,rfl,_,CFronted,true,rfl,.inl ⟨_,O.rF.ty ha1,O.iFF⟩,_,rfl,iteT ?_⟩
  refine⟨_,rfl,a,CFronted,dx,_,_,rfl,ha1,O.rF.cl,O.fb,(lk_ne (by decide +kernel) _ _).trans (lk_eq _ _ _),_,rfl,1,rfl,pa,_,-1,_,rfl,rfl,A1.at_,ix_last _ _,?_⟩
  rw [set_last]
  have k1:=Ki.lst (o:=.lst (zs0++[z1])) A1.at_
  have A2:AsT K H (upd H1 pa (.lst (zs0++[z1]))) pt pa ys st (zs0++[z1]):=A1.place
  generalize upd H1 pa (.lst (zs0++[z1]))=H2 at k1 A2
  refine⟨_,rfl,.inl ⟨rfl,_,SqL.of A2.at_⟩,_,rfl,a,CFronted,dx,_,_,rfl,k1.ins _ _ _ _ ha1,O.rF.cl,O.fi,lk_eq _ _ _,pa,_,_,rfl,rfl,A2.at_,smallM' (by rw [List.length_append,List.length_singleton]; lia),?_⟩
  have k2:=Ki.lst (o:=.lst (zs0++[z1]++[y1])) A2.at_
  have A3:AsT K H (upd H2 pa (.lst (zs0++[z1]++[y1]))) pt pa ys st (zs0++[z1]++[y1]):=A2.place
  generalize upd H2 pa (.lst (zs0++[z1]++[y1]))=H3 at k2 A3
  refine⟨_,rfl,.inl ⟨rfl,_,SqL.of A3.rows.at_⟩,Nat.zero_le _,fun pn gn=>⟨pt,_,_,rfl,rfl,same_new gn _ _ _ A3.rows.at_,?_,?_⟩⟩
  ·have hyl:=A3.rows.rows.length
   rw [List.length_reverse] at hyl
   exact smallM' (by
    have h1:st.length=as0.length+1:=hlen
    lia)
  ·have A4:=A3.enter gn
   have k4:Kt H3 (upd (upd H3 pn (.lst [])) pt (.lst (ys++[.ref pn]))):=(Kt.new gn).trans (Kt.lst (same_new gn _ _ _ A3.rows.at_))
   have k:=k1.kt.trans (k2.kt.trans k4)
   obtain⟨l,st0,rfl⟩:∃ l st0,st=l::st0:=by
    cases st with
    | nil=>exact absurd hlen (by simp)
    | cons l st0=>exact⟨l,st0,rfl⟩
   refine⟨_,?_,_,_,_,u1::.node ts1::as0,_,_,rfl,A4,?_,by simp,?_,?_,?_,rfl⟩
   ·rw [T.partsL_cons,T.partsL_cons,hpp]
    show _ - (as0.length+1+1)<_ - (as0.length+1)
    lia
   ·rw [List.reverse_cons,List.reverse_cons]
    exact All2.append (All2.append (all_row k ha0) (All2.one (hz1.mono k fun _ _ z=>z))) (All2.one (hy1.mono k fun _ _ z=>z))
   ·have h1:(l::st0).length=as0.length+1:=hlen
    show (l::st0).length+1=as0.length+1+1
    rw [h1]
   ·rw [val_open]
    exact hval
   ·have e9:(List.map List.length ([]::l::st0)).sum=(List.map List.length (l::st0)).sum:=by simp
    rw [T.partsL_cons,T.partsL_cons,e9]
    lia
end
end Sw75
namespace Sw75
open PySem PySem.Spec PyProof.Rows L2 Sw
section
variable {P:Program}{w:World}{K:PySem.W.Frag}{mg:Str→Option Value}{base:Heap}{f:Addr}{fd:FuncData}{CFronted CLater CWord CText CGoing CWalk:Addr}
theorem ok_place_of (O:Own K CFronted CLater CWord CText CGoing CWalk) {u_FORK:Value} (m_FORK:mg "FORK"=some u_FORK) (r_FORK:RelV (.int 7) u_FORK) {u_FORK_NO:Value} (m_FORK_NO:mg "FORK_NO"=some u_FORK_NO) (r_FORK_NO:RelV (.int 8) u_FORK_NO) {u_FORK_YES:Value} (m_FORK_YES:mg "FORK_YES"=some u_FORK_YES) (r_FORK_YES:RelV (.int 7) u_FORK_YES) {u_WHILE:Value} (m_WHILE:mg "WHILE"=some u_WHILE) (r_WHILE:RelV (.int 8) u_WHILE) {u_WHILE_PAST:Value} (m_WHILE_PAST:mg "WHILE_PAST"=some u_WHILE_PAST) (r_WHILE_PAST:RelV (.int 10) u_WHILE_PAST) {u_WHILE_INTO:Value} (m_WHILE_INTO:mg "WHILE_INTO"=some u_WHILE_INTO) (r_WHILE_INTO:RelV (.int 9) u_WHILE_INTO) {u_NAMELESS:Value} (m_NAMELESS:mg "NAMELESS"=some u_NAMELESS) (r_NAMELESS:RelV (.int 9) u_NAMELESS) {u_NO_WORD:Value} (m_NO_WORD:mg "NO_WORD"=some u_NO_WORD) (r_NO_WORD:RelV (.int 11) u_NO_WORD)
  (F:Fun K "place_of" "place_of" s_place_of f fd):FnOk P w K mg base CX0 31 f fd ["sort","top"] (spPlace K CFronted CLater CWord CText):=by
 refine okQ F sc_place_of (fun vs H Q E h=>?_) (fun cdv A outer s H vs Q E hr h=>?_)
 ·obtain⟨k,x,t,M,H₀,rfl,_⟩:=h
  rfl
 obtain⟨k,x,t,M,H₀,rfl,g,hx,hd,q⟩:=h
 have hE:=hr.un
 have hE:(A.deeper (envOfC "place_of" (defScope s_place_of) s.heap.objs.size f cdv)).units+401<cLine:=by lia
 refine⟨_,(qss_cons (qs_if (qt_cmpR op_eq (qv 0) (qe_glob (v:=.int 7) rfl m_FORK r_FORK) (nomark _)) (qss_one (qs_ret (qe_ifExp (qt_cmpR (op_eqRow hE) (qv 1) (qe_tup qa_nil) (nomark _)) (qe_glob (v:=.int 8) rfl m_FORK_NO r_FORK_NO) (qe_glob (v:=.int 7) rfl m_FORK_YES r_FORK_YES)))) qss_nil)
   (qss_cons (qs_if (qt_cmpR op_eq (qv 0) (qe_glob (v:=.int 8) rfl m_WHILE r_WHILE) (nomark _)) (qss_one (qs_ret (qe_ifExp (qt_cmpR (op_eqRow hE) (qv 1) (qe_tup qa_nil) (nomark _)) (qe_glob (v:=.int 10) rfl m_WHILE_PAST r_WHILE_PAST) (qe_glob (v:=.int 9) rfl m_WHILE_INTO r_WHILE_INTO)))) qss_nil)
   (qss_one (qs_ret (qe_ifExp (qt_cmpR op_eq (qv 0) (qe_glob (v:=.int 9) rfl m_NAMELESS r_NAMELESS) (nomark _)) (qe_glob (v:=.int 11) rfl m_NO_WORD r_NO_WORD) (qv 0)))))),?_⟩
 refine⟨_,rfl,rfl,_,rfl,ite2 (fun h7=>?_) (fun h7=>?_)⟩
 ·have h7:k=7:=by have:=V.int.inj (of_decide_eq_true h7); lia
  refine⟨_,rfl,Nat.zero_le _,fun p gp=>eq_leaf O g hx (by lia) gp ⟨_,rfl,ite2 (fun he=>?_) (fun he=>?_)⟩⟩
  ·have:=q _ (same_new gp (.tup []))
   rw [placeT,if_pos h7,if_pos (of_decide_eq_true he)] at this
   exact this
  ·have:=q _ (same_new gp (.tup []))
   rw [placeT,if_pos h7,if_neg (fun z=>he (decide_eq_true z))] at this
   exact this
 have h7:¬ k=7:=fun z=>h7 (decide_eq_true (by rw [z]; rfl))
 refine⟨_,rfl,rfl,_,rfl,ite2 (fun h8=>?_) (fun h8=>?_)⟩
 ·have h8:k=8:=by have:=V.int.inj (of_decide_eq_true h8); lia
  refine⟨_,rfl,Nat.zero_le _,fun p gp=>eq_leaf O g hx (by lia) gp ⟨_,rfl,ite2 (fun he=>?_) (fun he=>?_)⟩⟩
  ·have:=q _ (same_new gp (.tup []))
   rw [placeT,if_neg h7,if_pos h8,if_pos (of_decide_eq_true he)] at this
   exact this
  ·have:=q _ (same_new gp (.tup []))
   rw [placeT,if_neg h7,if_pos h8,if_neg (fun z=>he (decide_eq_true z))] at this
   exact this
 have h8:¬ k=8:=fun z=>h8 (decide_eq_true (by rw [z]; rfl))
 refine⟨_,rfl,rfl,_,rfl,ite2 (fun h9=>?_) (fun h9=>?_)⟩
 ·have h9:k=9:=by have:=V.int.inj (of_decide_eq_true h9); lia
  have:=q _ (Same.refl H)
  rw [placeT,if_neg h7,if_neg h8,if_pos h9] at this
  exact this
 ·have h9:¬ k=9:=fun z=>h9 (decide_eq_true (by rw [z]; rfl))
  have:=q _ (Same.refl H)
  rw [placeT,if_neg h7,if_neg h8,if_neg h9] at this
  exact⟨_,rfl,this⟩
theorem ok_Word___init__ (O:Own K CFronted CLater CWord CText CGoing CWalk) {u_FORK:Value} (m_FORK:mg "FORK"=some u_FORK) (r_FORK:RelV (.int 7) u_FORK) {u_WHILE:Value} (m_WHILE:mg "WHILE"=some u_WHILE) (r_WHILE:RelV (.int 8) u_WHILE)
  {a_sort_of:Addr}{d_sort_of:FuncData} (F_sort_of:Fun K "sort_of" "sort_of" s_sort_of a_sort_of d_sort_of) (G_sort_of:FnOk P w K mg base CX0 33 a_sort_of d_sort_of ["word"] (spSortL K)) (b_sort_of:Binds K d_sort_of ["word"] []) (m_sort_of:mg "sort_of"=some (.ref a_sort_of))
  {a_load_of:Addr}{d_load_of:FuncData} (F_load_of:Fun K "load_of" "load_of" s_load_of a_load_of d_load_of) (G_load_of:FnOk P w K mg base CX0 33 a_load_of d_load_of ["word"] (spRest K)) (b_load_of:Binds K d_load_of ["word"] []) (m_load_of:mg "load_of"=some (.ref a_load_of))
  {a_first:Addr}{d_first:FuncData} (F_first:Fun K "first" "first" s_first a_first d_first) (G_first:FnOk P w K mg base CX0 33 a_first d_first ["tree"] (spFirst K)) (b_first:Binds K d_first ["tree"] []) (m_first:mg "first"=some (.ref a_first))
  {a_rest:Addr}{d_rest:FuncData} (F_rest:Fun K "rest" "rest" s_rest a_rest d_rest) (G_rest:FnOk P w K mg base CX0 33 a_rest d_rest ["tree"] (spRest K)) (b_rest:Binds K d_rest ["tree"] []) (m_rest:mg "rest"=some (.ref a_rest))
  (m_Text:mg "Text"=some (.ref CText))
  {a_Text___init__:Addr}{d_Text___init__:FuncData} (MK_Text:Mk K CText a_Text___init__) (G_Text___init__:FnOk P w K mg base CX0 32 a_Text___init__ d_Text___init__ ["self","tree"] (spTxInit CText)) (b_Text___init__:Binds K d_Text___init__ ["self","tree"] [])
  (F:Fun K "__init__" "Word.__init__" s_Word___init__ f fd):FnOk P w K mg base CX0 34 f fd ["self","tree"] (spWdInit K CFronted CLater CWord CText):=by
 refine okQ F sc_Word___init__ (fun vs H Q E h=>?_) (fun cdv A outer s H vs Q E hr h=>?_)
 ·obtain⟨o,dx,x,w',M,H₀,rfl,_⟩:=h
  rfl
 obtain⟨o,dx,x,w',M,H₀,rfl,g,hm,ho,hx,hd,q⟩:=h
 refine⟨_,(qss_cons (qs_fld (qv 0) (qe_call G_sort_of hr rfl m_sort_of F_sort_of.kp b_sort_of .nil pass0 (qa_cons (qv 1) qa_nil)) rfl)
   (qss_cons (qs_fld (qv 0) (qe_call G_load_of hr rfl m_load_of F_load_of.kp b_load_of .nil pass0 (qa_cons (qv 1) qa_nil)) rfl)
   (qss_cons (qs_fld (qv 0) qe_non rfl)
   (qss_cons (qs_fld (qv 0) qe_non rfl)
   (qss_cons (qs_fld (qv 0) qe_non rfl)
   (qss_cons (qs_fld (qv 0) qe_non rfl)
   (qss_cons (qs_if (qt_cmpR op_eq (qe_fld (qv 0) rfl) (qe_glob (v:=.int 7) rfl m_FORK r_FORK) (nomark _)) (qss_cons (qs_fld (qv 0) (qe_make MK_Text G_Text___init__ hr rfl m_Text b_Text___init__ .nil pass0 (qa_cons (qe_call G_first hr rfl m_first F_first.kp b_first .nil pass0 (qa_cons (qe_fld (qv 0) rfl) qa_nil)) qa_nil)) rfl)
   (qss_one (qs_fld (qv 0) (qe_make MK_Text G_Text___init__ hr rfl m_Text b_Text___init__ .nil pass0 (qa_cons (qe_call G_rest hr rfl m_rest F_rest.kp b_rest .nil pass0 (qa_cons (qe_fld (qv 0) rfl) qa_nil)) qa_nil)) rfl))) qss_nil)
   (qss_one (qs_if (qt_cmpR op_eq (qe_fld (qv 0) rfl) (qe_glob (v:=.int 8) rfl m_WHILE r_WHILE) (nomark _)) (qss_one (qs_fld (qv 0) (qe_make MK_Text G_Text___init__ hr rfl m_Text b_Text___init__ .nil pass0 (qa_cons (qe_fld (qv 0) rfl) qa_nil)) rfl)) qss_nil))))))))),?_⟩
 refine⟨_,rfl,x,w',rfl,hx,hd,fun H1 S1=>⟨_,rfl,o,CWord,dx,[],rfl,S1 _ _ ho,O.cWord,O.wk,by show 0<1000; decide,?_⟩⟩
 rw [pd1]
 have kt {u:HO}{Ha:Hp}{fs:List (Str×V)} (h:Ha o=some (.ins CWord dx fs)):Kt Ha (upd Ha o u):=Kt.ins h
 have G1:Go K CFronted CLater CWord CText (fun a=>a=o) M M H₀ H (upd H1 o (.ins CWord dx (d1 (.int (sortT w':Nat))))):=Go.mutX (.grow g S1) hm rfl (kt (S1 _ _ ho))
 have O1:∀ c u,H c=some u→c≠o→upd H1 o (.ins CWord dx (d1 (.int (sortT w':Nat)))) c=some u:=fun c u h n=>by rw [upd_ne n]; exact S1 _ _ h
 have h1:upd H1 o (.ins CWord dx (d1 (.int (sortT w':Nat)))) o=some (.ins CWord dx (d1 (.int (sortT w':Nat)))):=upd_same
 generalize upd H1 o (.ins CWord dx (d1 (.int (sortT w':Nat))))=H2 at G1 O1 h1
 refine⟨_,rfl,x,w',rfl,hx.mono G1.kt,fun v H3 S3 tv=>⟨_,rfl,o,CWord,dx,_,rfl,S3 _ _ h1,O.cWord,O.wl,by show 1<1000; decide,?_⟩⟩
 rw [pd2]
 have G3:Go K CFronted CLater CWord CText (fun a=>a=o) M M H₀ H (upd H3 o (.ins CWord dx (d2 (.int (sortT w':Nat)) v))):=Go.mutX (G1.trans (.grow G1.gh S3)) hm rfl (kt (S3 _ _ h1))
 have O3:∀ c u,H c=some u→c≠o→upd H3 o (.ins CWord dx (d2 (.int (sortT w':Nat)) v)) c=some u:=fun c u h n=>by rw [upd_ne n]; exact S3 _ _ (O1 c u h n)
 have tv3:TR K (upd H3 o (.ins CWord dx (d2 (.int (sortT w':Nat)) v))) (loadT w') v:=tv.mono (kt (S3 _ _ h1))
 have h3:upd H3 o (.ins CWord dx (d2 (.int (sortT w':Nat)) v)) o=some (.ins CWord dx (d2 (.int (sortT w':Nat)) v)):=upd_same
 generalize upd H3 o (.ins CWord dx (d2 (.int (sortT w':Nat)) v))=H4 at G3 O3 tv3 h3
 refine⟨_,rfl,o,CWord,dx,_,rfl,h3,O.cWord,O.wy,by show 2<1000; decide,?_⟩
 rw [pd3]
 refine⟨_,rfl,o,CWord,dx,_,rfl,upd_same,O.cWord,O.wn,by show 3<1000; decide,?_⟩
 rw [pd4,updU]
 refine⟨_,rfl,o,CWord,dx,_,rfl,upd_same,O.cWord,O.wb,by show 4<1000; decide,?_⟩
 rw [pd5,updU]
 refine⟨_,rfl,o,CWord,dx,_,rfl,upd_same,O.cWord,O.ws,by show 5<1000; decide,?_⟩
 rw [pd6,updU]
 have G5:Go K CFronted CLater CWord CText (fun a=>a=o) M M H₀ H (upd H4 o (.ins CWord dx (fD (sortT w') v .non .non .non .non))):=Go.mutX G3 hm rfl (kt h3)
 have O5:∀ c u,H c=some u→c≠o→upd H4 o (.ins CWord dx (fD (sortT w') v .non .non .non .non)) c=some u:=fun c u h n=>by rw [upd_ne n]; exact O3 c u h n
 have tv5:TR K (upd H4 o (.ins CWord dx (fD (sortT w') v .non .non .non .non))) (loadT w') v:=tv3.mono (kt h3)
 have h5:upd H4 o (.ins CWord dx (fD (sortT w') v .non .non .non .non)) o=some (.ins CWord dx (fD (sortT w') v .non .non .non .non)):=upd_same
 generalize upd H4 o (.ins CWord dx (fD (sortT w') v .non .non .non .non))=H5 at G5 O5 tv5 h5
 have hdl:(loadT w').deep≤400:=Nat.le_trans (deep_load w') hd
 dsimp only
 refine ifAll (fun σ' H'=>σ'=[some (.ref o),some x]∧∃ M' y n,Go K CFronted CLater CWord CText (fun a=>a=o) M M' H₀ H H'∧(∀ c u,H c=some u→c≠o→H' c=some u)∧H' o=some (.ins CWord dx (fD (sortT w') v y n .non .non))∧TR K H' (loadT w') v∧W7 M' w' y n) (fun σ' H6 h6=>?_) (fun A' B' hA hB=>⟨_,rfl,o,CWord,dx,_,_,rfl,h5,O.cWord,O.wk,ldK,rfl,_,rfl,ite2 (fun h=>hA _ fun N hN=>?_) (fun h=>hB _ ⟨rfl,M,.non,.non,G5,O5,h5,tv5,fun z=>absurd (decide_eq_true (by rw [z]; rfl)) h⟩)⟩)
 rotate_left
 ·refine⟨_,rfl,o,CWord,dx,_,_,rfl,h5,O.cWord,O.wl,ldL,v,loadT w',rfl,tv5,hdl,fun y1 H6 S6 t6=>fun a da ha hda ne=>⟨a,da,y1,rfl,mk_at,fun W hW=>⟨rfl,_,rfl,o,CWord,dx,fD (sortT w') v .non .non .non .non,rfl,?_,O.cWord,O.wy,by show 6<1000; decide,?_⟩⟩⟩
  ·obtain⟨_,S7,_⟩:=Go.newText (X:=fun a=>a=o) (G5.trans (.grow G5.gh S6)).gh t6 ha hda ne hW
   exact S7 _ _ (S6 _ _ h5)
  obtain⟨G7,S7,tx7⟩:=Go.newText (X:=fun a=>a=o) (G5.trans (.grow G5.gh S6)).gh t6 ha hda ne hW
  have h7:=S7 _ _ (S6 _ _ h5)
  have tv7:=tv5.mono (.of (S6.trans S7))
  have O7:∀ c u,H c=some u→c≠o→_:=fun c u h n=>S7 _ _ (S6 _ _ (O5 c u h n))
  have G7':=(G5.trans (.grow G5.gh S6)).trans G7
  generalize setM (setM M W (.words (ats (loadT w').kids 0))) a (.text (ats (loadT w').kids 0) W)=M7 at G7' tx7
  generalize upd (upd (mkO H6 a da CText []) W (.lst [])) a (.ins CText da (fT y1 W))=H7 at S7 h7 tv7 O7 G7'
  rw [pdY]
  have hm7:=G7'.ext _ _ hm
  have G8:=G7'.mutX (u:=.ins CWord dx (fD (sortT w') v (.ref a) .non .non .non)) hm7 rfl (kt h7)
  have O8:∀ c u,H c=some u→c≠o→upd H7 o (.ins CWord dx (fD (sortT w') v (.ref a) .non .non .non)) c=some u:=fun c u h n=>by rw [upd_ne n]; exact O7 c u h n
  have tv8:=tv7.mono (kt (u:=.ins CWord dx (fD (sortT w') v (.ref a) .non .non .non)) h7)
  have h8:upd H7 o (.ins CWord dx (fD (sortT w') v (.ref a) .non .non .non)) o=some (.ins CWord dx (fD (sortT w') v (.ref a) .non .non .non)):=upd_same
  generalize upd H7 o (.ins CWord dx (fD (sortT w') v (.ref a) .non .non .non))=H8 at G8 O8 tv8 h8
  refine⟨_,rfl,o,CWord,dx,_,_,rfl,h8,O.cWord,O.wl,ldL,v,loadT w',rfl,tv8,fun y9 H9 S9 t9=>fun c dc hc hdc ne9=>⟨c,dc,y9,rfl,mk_at,fun W9 hW9=>⟨rfl,_,rfl,o,CWord,dx,fD (sortT w') v (.ref a) .non .non .non,rfl,?_,O.cWord,O.wn,by show 6<1000; decide,?_⟩⟩⟩
  ·obtain⟨_,S10,_⟩:=Go.newText (X:=fun a=>a=o) (G8.trans (.grow G8.gh S9)).gh t9 hc hdc ne9 hW9
   exact S10 _ _ (S9 _ _ h8)
  obtain⟨G10,S10,tx10⟩:=Go.newText (X:=fun a=>a=o) (G8.trans (.grow G8.gh S9)).gh t9 hc hdc ne9 hW9
  have h10:=S10 _ _ (S9 _ _ h8)
  have tv10:=tv8.mono (.of (S9.trans S10))
  have G10':=(G8.trans (.grow G8.gh S9)).trans G10
  have tx7':=tx7.ext G10
  rw [pdN]
  refine hN _ _ ⟨rfl,_,.ref a,.ref c,G10'.mutX (G10'.ext _ _ hm) rfl (kt h10),fun c u h n=>by rw [upd_ne n]; exact S10 _ _ (S9 _ _ (O8 c u h n)),upd_same,tv10.mono (kt h10),fun _=>⟨a,c,rfl,rfl,tx7',tx10⟩⟩
 obtain⟨rfl,M6,y6,n6,G6,O6,h6,tv6,w7⟩:=h6
 refine⟨_,rfl,o,CWord,dx,_,_,rfl,h6,O.cWord,O.wk,ldK,rfl,_,rfl,ite2 (fun h=>?_) (fun h=>?_)⟩
 ·refine⟨_,rfl,o,CWord,dx,_,_,rfl,h6,O.cWord,O.wl,ldL,fun a da ha hda ne=>⟨a,da,v,rfl,mk_at,fun W hW=>⟨rfl,_,rfl,o,CWord,dx,fD (sortT w') v y6 n6 .non .non,rfl,?_,O.cWord,O.wb,by show 6<1000; decide,?_⟩⟩⟩
  ·obtain⟨_,S7,_⟩:=Go.newText (X:=fun a=>a=o) G6.gh tv6 ha hda ne hW
   exact S7 _ _ h6
  obtain⟨G7,S7,tx7⟩:=Go.newText (X:=fun a=>a=o) G6.gh tv6 ha hda ne hW
  have h7:=S7 _ _ h6
  have G7':=G6.trans G7
  rw [pdB]
  exact q _ _ v y6 n6 (.ref a) (G7'.mutX (G7'.ext _ _ hm) rfl (kt h7)) (fun c u h n=>by rw [upd_ne n]; exact S7 _ _ (O6 c u h n)) upd_same ((tv6.mono (.of S7)).mono (kt h7)) (fun z=>by
   obtain⟨ay,an,e1,e2,e3,e4⟩:=w7 z
   exact⟨ay,an,e1,e2,e3.ext G7,e4.ext G7⟩) (fun _=>⟨a,rfl,tx7⟩)
 ·exact q M6 H6 v y6 n6 .non G6 O6 h6 tv6 w7 (fun z=>absurd (decide_eq_true (by rw [z]; rfl)) h)
theorem ok_Word_body_parts (O:Own K CFronted CLater CWord CText CGoing CWalk)
  {a_parts:Addr}{d_parts:FuncData} (F_parts:Fun K "parts" "parts" s_parts a_parts d_parts) (G_parts:FnOk P w K mg base CX0 32 a_parts d_parts ["tree"] (spPartsM K)) (b_parts:Binds K d_parts ["tree"] []) (m_parts:mg "parts"=some (.ref a_parts))
  (F:Fun K "body_parts" "Word.body_parts" s_Word_body_parts f fd):FnOk P w K mg base CX0 33 f fd ["self"] (spBodyP K CFronted CLater CWord CText):=by
 refine okQ F sc_Word_body_parts (fun vs H Q E h=>?_) (fun cdv A outer s H vs Q E hr h=>?_)
 ·obtain⟨b,w',M,H₀,rfl,_⟩:=h
  rfl
 obtain⟨b,w',M,H₀,rfl,g,hm,hz,q⟩:=h
 refine⟨_,(qss_cons (qs_if (qt_cmpR op_isN (qe_fld (qv 0) rfl) qe_non (nomark _)) (qss_one (qs_fld (qv 0) (qe_call G_parts hr rfl m_parts F_parts.kp b_parts .nil pass0 (qa_cons (qe_fld (qv 0) rfl) qa_nil)) rfl)) qss_nil)
   (qss_one (qs_ret (qe_fld (qv 0) rfl)))),?_⟩
 obtain⟨dx,v,y,n,bd,sz,hb,tv,c7,c8,hs⟩:=g.ok b _ hm
 have fin:∀ H' sz',Go K CFronted CLater CWord CText (fun _=>False) M M H₀ H H'→H' b=some (.ins CWord dx (fD (sortT w') v y n bd sz'))→sz'=.int ((loadT w').parts:Nat)→tRet (tFld K (tVar 0) "size") { nx:=fun x H'=>Q .non H',rt:=Q,bk:=fun _ _=>False,ct:=fun _ _=>False } [some (.ref b)] H':=fun H' sz' G hb' e=>by
  subst e
  exact⟨_,rfl,b,CWord,dx,_,_,rfl,hb',O.cWord,O.ws,ldS,q _ G⟩
 refine⟨_,rfl,b,CWord,dx,_,_,rfl,hb,O.cWord,O.ws,ldS,rfl,_,rfl,ite2 (fun h=>?_) (fun h=>?_)⟩
 ·refine⟨_,rfl,b,CWord,dx,_,_,rfl,hb,O.cWord,O.wl,ldL,v,loadT w',rfl,tv,hz,fun H1 S1=>⟨_,rfl,b,CWord,dx,_,rfl,S1 _ _ hb,O.cWord,O.ws,by show 6<1000; decide,?_⟩⟩
  rw [pdS]
  have k1:Kt H1 (upd H1 b (.ins CWord dx (fD (sortT w') v y n bd (.int ((loadT w').parts:Nat))))):=Kt.ins (S1 _ _ hb)
  have g1:=g.grow S1
  have g2:=g1.put hm k1 ⟨dx,v,y,n,bd,_,upd_same,(tv.mono (.of S1)).mono k1,c7,c8,.inr rfl⟩
  refine fin _ _ ⟨fun _ _ z=>z,fun a ha _=>?_,(Kt.of S1).trans k1,g2,fun W t ws h1 h2=>⟨ws,?_,Nat.le_refl _⟩⟩ upd_same rfl
  ·have:a≠b:=fun z=>by rw [z,hm] at ha; cases ha
   rw [upd_ne this]
   obtain⟨u,e⟩:=g.has a _ ha
   exact (S1 _ _ e).trans e.symm
  ·have:W≠b:=fun z=>by rw [z,hm] at h1; cases h1
   rw [upd_ne this]
   exact S1 _ _ h2
 ·rcases hs with hs | hs
  ·exact absurd (by rw [hs]; rfl) h
  ·exact fin _ _ (.refl g) hb hs
theorem ok_Text_word_at (O:Own K CFronted CLater CWord CText CGoing CWalk) (m_len:mg "len"=none)
  (m_Word:mg "Word"=some (.ref CWord))
  {a_Word___init__:Addr}{d_Word___init__:FuncData} (MK_Word:Mk K CWord a_Word___init__) (G_Word___init__:FnOk P w K mg base CX0 34 a_Word___init__ d_Word___init__ ["self","tree"] (spWdInit K CFronted CLater CWord CText)) (b_Word___init__:Binds K d_Word___init__ ["self","tree"] [])
  (F:Fun K "word_at" "Text.word_at" s_Text_word_at f fd):FnOk P w K mg base CX0 36 f fd ["self","place"] (spWordAt K CFronted CLater CWord CText):=by
 refine okQ F sc_Text_word_at (fun vs H Q E h=>?_) (fun cdv A outer s H vs Q E hr h=>?_)
 ·obtain⟨a,t,W,p,M,H₀,ws,rfl,_⟩:=h
  rfl
 obtain⟨a,t,W,p,M,H₀,ws,rfl,g,hm,hW,hpw,hpk0,hd,hkl,q0,q⟩:=h
 refine⟨_,(qss_cons (qs_if (qt_cmpR op_eq (qv 1) (qe_callB call_len_seq rfl m_len bt_len (qa_cons (qe_fld (qv 0) rfl) qa_nil)) (nomark _)) (qss_one (qs_ret qe_non)) qss_nil)
   (qss_cons (qs_if (qt_cmpR op_eq (qv 1) (qe_callB call_len_seq rfl m_len bt_len (qa_cons (qe_fld (qv 0) rfl) qa_nil)) (nomark _)) (qss_one (qs_expr (qe_bm PySem.F.plainAttrs_list PySem.F.slot_list_append PySem.F.type_list_append mt_append (qe_fld (qv 0) rfl) (qa_cons (qe_make MK_Word G_Word___init__ hr rfl m_Word b_Word___init__ .nil pass0 (qa_cons (qe_ix ix_tup (qe_fld (qv 0) rfl) (qv 1) (fun _ _=>rfl)) qa_nil)) qa_nil)))) qss_nil)
   (qss_one (qs_ret (qe_ix ix_list (qe_fld (qv 0) rfl) (qv 1) (fun _ _=>rfl)))))),?_⟩
 obtain⟨dx,v,ha,tv,hMW⟩:=g.ok a _ hm
 obtain⟨bt,ys,rfl,hbt,hys⟩:=TR_kids' tv
 have hyl:=hys.length
 obtain⟨xs0,hW0,hl0,hit⟩:=g.ok W _ hMW
 have e0:xs0=ws:=by rw [hW] at hW0; cases hW0; rfl
 subst e0
 refine⟨_,rfl,_,rfl,a,CText,dx,_,_,rfl,ha,O.cText,O.tt,lk_eq _ _ _,bt,ys,rfl,.inr hbt,rfl,_,rfl,ite2 (fun h=>?_) (fun h=>?_)⟩
 ·have h:=V.int.inj (of_decide_eq_true h)
  exact q0 (by lia)
 have hpk:p≠t.kids.length:=fun z=>h (decide_eq_true (by rw [z,← hyl]))
 obtain⟨w',ew⟩:∃ w',t.kids[p]?=some w':=⟨_,List.getElem?_eq_getElem (by lia)⟩
 obtain⟨x',ex,tx'⟩:=hys.at ew
 have lw:List.lookup ("words":Str) (fT (.ref bt) W)=some (.ref W):=(lk_ne (by decide +kernel) _ _).trans (lk_eq _ _ _)
 dsimp only [tNext]
 refine ifAll (fun σ' H'=>σ'=[some (.ref a),some (.int (p:Int))]∧∃ M' b ws',Go K CFronted CLater CWord CText (fun _=>False) M M' H₀ H H'∧M' b=some (.word w')∧H' a=some (.ins CText dx (fT (.ref bt) W))∧H' W=some (.lst ws')∧ws'[p]?=some (.ref b)) (fun σ' H6 h6=>?_) (fun A' B' hA hB=>⟨_,rfl,_,rfl,a,CText,dx,_,_,rfl,ha,O.cText,O.tw,lw,W,xs0,rfl,.inl (SqL.of hW),rfl,_,rfl,ite2 (fun h=>hA _ fun N hN=>?_) (fun h=>hB _ ⟨rfl,?_⟩)⟩)
 ·obtain⟨rfl,M',b,ws',G,hb,ha',hW',hb'⟩:=h6
  refine⟨_,rfl,a,CText,dx,_,_,rfl,ha',O.cText,O.tw,lw,_,rfl,W,ws',p,.ref b,rfl,rfl,SqL.of hW',atI_nat hb',q w' ew b M' H6 G hb fun ws2 e2=>?_⟩
  rw [hW'] at e2
  cases e2
  exact (List.getElem?_eq_some_iff.mp hb').1
 ·have hpl:p=xs0.length:=by have:=V.int.inj (of_decide_eq_true h); lia
  have dw':w'.deep≤400:=by have:=deep_kid ew; lia
  refine⟨_,rfl,a,CText,dx,_,_,rfl,ha,O.cText,O.tw,lw,.inl ⟨rfl,_,SqL.of hW⟩,_,rfl,a,CText,dx,_,_,rfl,ha,O.cText,O.tt,lk_eq _ _ _,_,rfl,bt,ys,p,x',rfl,rfl,hbt,atI_nat ex,fun b db hb hdb ne=>?_⟩
  have G1:=Go.made (X:=fun _=>False) (C:=CWord) (fs:=[]) g hb hdb ne
  have S1:=mk_same (C:=CWord) (fs:=[]) hb hdb ne
  refine⟨b,db,x',w',setM M b .mine,H₀,rfl,G1.gh,setM_same,mk_at,tx'.mono (.of S1),dw',fun M' H' v1 y n bd G2 O2 h2 tv2 c7 c8=>⟨rfl,W,xs0,_,rfl,rfl,?_,smallM' (by lia),?_⟩⟩
  ·exact O2 W _ (S1 _ _ hW) (ne_of_none hW hb)
  have hbM:M' b=some .mine:=G2.ext _ _ setM_same
  have nbW:W≠b:=ne_of_none hW hb
  have hW2:=O2 W _ (S1 _ _ hW) nbW
  have ha2:=O2 a _ (S1 _ _ ha) (ne_of_none ha hb)
  have hMW':M' W=some (.words t):=G2.ext _ _ (G1.ext _ _ hMW)
  have nba:∀ c r,M c=some r→c≠b:=fun c r hc z=>by
   obtain⟨u,e⟩:=g.has c r hc
   rw [z,hb] at e
   cases e
  have ext':∀ c r,r≠.mine→M' c=some r→setM M' b (.word w') c=some r:=fun c r hr hc=>by
   rw [setM_ne (fun z=>by rw [z,hbM] at hc; cases hc; exact hr rfl)]
   exact hc
  have g3:Gh K CFronted CLater CWord CText (setM M' b (.word w')) H₀ H':=G2.gh.role (.inr hbM) (G2.gh.new _ _ hbM) ⟨_,h2⟩ ⟨db,v1,y,n,bd,.non,h2,tv2,fun z=>by
   obtain⟨ay,an,e1,e2,⟨W1,e3⟩,W2,e4⟩:=c7 z
   exact⟨ay,an,e1,e2,⟨W1,ext' _ _ (by simp) e3⟩,W2,ext' _ _ (by simp) e4⟩,fun z=>by
   obtain⟨ab,e1,W1,e2⟩:=c8 z
   exact⟨ab,e1,W1,ext' _ _ (by simp) e2⟩,.inl rfl⟩
  have k4:Kt H' (upd H' W (.lst (xs0++[.ref b]))):=Kt.lst hW2
  have g4:=g3.put (ext' _ _ (by simp) hMW') k4 ⟨xs0++[.ref b],upd_same,by rw [List.length_append,List.length_singleton]; lia,fun j z hz=>by
   by_cases hj:j<xs0.length
   ·rw [List.getElem?_append_left hj] at hz
    obtain⟨c,w2,e1,e2,e3⟩:=hit j z hz
    exact⟨c,w2,e1,e2,ext' _ _ (by simp) (G2.ext _ _ (G1.ext _ _ e3))⟩
   ·have hj2:j<(xs0++[V.ref b]).length:=(List.getElem?_eq_some_iff.mp hz).1
    rw [List.length_append,List.length_singleton] at hj2
    have hj3:j=xs0.length:=by lia
    subst hj3
    rw [List.getElem?_append_right (Nat.le_refl _),Nat.sub_self] at hz
    cases hz
    exact⟨b,w',rfl,by rw [← hpl]; exact ew,setM_same⟩⟩
  refine hN _ _ ⟨rfl,setM M' b (.word w'),b,xs0++[.ref b],⟨fun c r hc=>?_,fun c hc _=>?_,(Kt.of S1).trans (G2.kt.trans k4),g4,fun W' t' ws' e1 e2=>?_⟩,setM_same,by rw [upd_ne (fun z=>by rw [z,hW] at ha; cases ha)]; exact ha2,upd_same,by rw [hpl]; simp⟩
  ·rw [setM_ne (nba c r hc)]
   exact G2.ext _ _ (G1.ext _ _ hc)
  ·obtain⟨u,e⟩:=g.has c _ hc
   have ncW:c≠W:=fun z=>by rw [z,hMW] at hc; cases hc
   rw [upd_ne ncW,O2 c u (S1 _ _ e) (nba c _ hc)]
   exact e.symm
  ·have e3:=O2 W' _ (S1 _ _ e2) (nba W' _ e1)
   by_cases hWW:W'=W
   ·subst hWW
    rw [hW] at e2
    cases e2
    exact⟨_,upd_same,by rw [List.length_append,List.length_singleton]; lia⟩
   ·exact⟨ws',by rw [upd_ne hWW]; exact e3,Nat.le_refl _⟩
 ·have hpl:p≠xs0.length:=fun z=>h (decide_eq_true (by rw [z]))
  obtain⟨z,ez⟩:∃ z,xs0[p]?=some z:=⟨_,List.getElem?_eq_getElem (by lia)⟩
  obtain⟨b,w2,rfl,e2,e3⟩:=hit p z ez
  rw [ew] at e2
  cases e2
  exact⟨M,b,xs0,.refl g,e3,ha,hW,ez⟩
end
end Sw75
namespace Sw75
open PySem PySem.Spec PyProof.Rows L2 Sw
section
variable {P:Program}{w:World}{K:PySem.W.Frag}{mg:Str→Option Value}{base:Heap}{f:Addr}{fd:FuncData}{CFronted CLater CWord CText CGoing CWalk:Addr}
theorem ok_work (O:Own K CFronted CLater CWord CText CGoing CWalk) {u_LAY:Value} (m_LAY:mg "LAY"=some u_LAY) (r_LAY:RelV (.int 0) u_LAY) {u_DROP:Value} (m_DROP:mg "DROP"=some u_DROP) (r_DROP:RelV (.int 1) u_DROP) {u_TWIN:Value} (m_TWIN:mg "TWIN"=some u_TWIN) (r_TWIN:RelV (.int 2) u_TWIN) {u_SWAP:Value} (m_SWAP:mg "SWAP"=some u_SWAP) (r_SWAP:RelV (.int 3) u_SWAP) {u_FRONT:Value} (m_FRONT:mg "FRONT"=some u_FRONT) (r_FRONT:RelV (.int 4) u_FRONT) {u_PART:Value} (m_PART:mg "PART"=some u_PART) (r_PART:RelV (.int 5) u_PART) {u_TURN:Value} (m_TURN:mg "TURN"=some u_TURN) (r_TURN:RelV (.int 6) u_TURN)
  {a_rest_of:Addr}{d_rest_of:FuncData} (F_rest_of:Fun K "rest_of" "rest_of" s_rest_of a_rest_of d_rest_of) (G_rest_of:FnOk P w K mg base CX0 35 a_rest_of d_rest_of ["row"] (spRestOf K CFronted CLater CWord CText)) (b_rest_of:Binds K d_rest_of ["row"] []) (m_rest_of:mg "rest_of"=some (.ref a_rest_of))
  {a_first_of:Addr}{d_first_of:FuncData} (F_first_of:Fun K "first_of" "first_of" s_first_of a_first_of d_first_of) (G_first_of:FnOk P w K mg base CX0 35 a_first_of d_first_of ["row"] (spFirstOf K CFronted CLater CWord CText)) (b_first_of:Binds K d_first_of ["row"] []) (m_first_of:mg "first_of"=some (.ref a_first_of))
  (m_Fronted:mg "Fronted"=some (.ref CFronted))
  {a_Fronted___init__:Addr}{d_Fronted___init__:FuncData} (MK_Fronted:Mk K CFronted a_Fronted___init__) (G_Fronted___init__:FnOk P w K mg base CX0 34 a_Fronted___init__ d_Fronted___init__ ["self","item","behind"] (spFrInit CFronted)) (b_Fronted___init__:Binds K d_Fronted___init__ ["self","item","behind"] [])
  (F:Fun K "work" "work" s_work f fd):FnOk P w K mg base CX0 36 f fd ["step","load","stack"] (spWork K CFronted CLater CWord CText):=by
 refine okQ F sc_work (fun vs H Q E h=>?_) (fun cdv A outer s H vs Q E hr h=>?_)
 ·obtain⟨k,y,S,l,sk,rows,M,H₀,rfl,_⟩:=h
  rfl
 obtain⟨k,y,S,l,sk,rows,M,H₀,rfl,g,hm,hS,hrs,hy,hlk,hb,hkl,q⟩:=h
 refine⟨_,(qss_one (qs_if (qt_cmpR op_eq (qv 0) (qe_glob (v:=.int 0) rfl m_LAY r_LAY) (nomark _)) (qss_one (qs_expr (qe_bm PySem.F.plainAttrs_list PySem.F.slot_list_append PySem.F.type_list_append mt_append (qv 2) (qa_cons (qv 1) qa_nil)))) (qss_one (qs_if (qt_cmpR op_eq (qv 0) (qe_glob (v:=.int 1) rfl m_DROP r_DROP) (nomark _)) (qss_one (qs_expr (qe_bm0 PySem.F.plainAttrs_list PySem.F.slot_list_pop PySem.F.type_list_pop mt_pop (qv 2)))) (qss_one (qs_if (qt_cmpR op_eq (qv 0) (qe_glob (v:=.int 2) rfl m_TWIN r_TWIN) (nomark _)) (qss_one (qs_expr (qe_bm PySem.F.plainAttrs_list PySem.F.slot_list_append PySem.F.type_list_append mt_append (qv 2) (qa_cons (qe_ix ix_list (qv 2) (qe_un un_neg qe_int) (fun _ _=>rfl)) qa_nil)))) (qss_one (qs_if (qt_cmpR op_eq (qv 0) (qe_glob (v:=.int 3) rfl m_SWAP r_SWAP) (nomark _)) (qss_one (qs_expr (qe_bm PySem.F.plainAttrs_list PySem.F.slot_list_append PySem.F.type_list_append mt_append (qv 2) (qa_cons (qe_bm PySem.F.plainAttrs_list PySem.F.slot_list_pop PySem.F.type_list_pop mt_popAt (qv 2) (qa_cons (qe_un un_neg qe_int) qa_nil)) qa_nil)))) (qss_one (qs_if (qt_cmpR op_eq (qv 0) (qe_glob (v:=.int 4) rfl m_FRONT r_FRONT) (nomark _)) (qss_cons (qs_set (i:=3) sc_work.nd rfl (Or.inl rfl) (qe_bm0 PySem.F.plainAttrs_list PySem.F.slot_list_pop PySem.F.type_list_pop mt_pop (qv 2)))
   (qss_one (qs_expr (qe_bm PySem.F.plainAttrs_list PySem.F.slot_list_append PySem.F.type_list_append mt_append (qv 2) (qa_cons (qe_make MK_Fronted G_Fronted___init__ hr rfl m_Fronted b_Fronted___init__ .nil pass0 (qa_cons (qv 3) (qa_cons (qe_bm0 PySem.F.plainAttrs_list PySem.F.slot_list_pop PySem.F.type_list_pop mt_pop (qv 2)) qa_nil))) qa_nil))))) (qss_one (qs_if (qt_cmpR op_eq (qv 0) (qe_glob (v:=.int 5) rfl m_PART r_PART) (nomark _)) (qss_cons (qs_set (i:=4) sc_work.nd rfl (Or.inl rfl) (qe_bm0 PySem.F.plainAttrs_list PySem.F.slot_list_pop PySem.F.type_list_pop mt_pop (qv 2)))
   (qss_cons (qs_expr (qe_bm PySem.F.plainAttrs_list PySem.F.slot_list_append PySem.F.type_list_append mt_append (qv 2) (qa_cons (qe_call G_rest_of hr rfl m_rest_of F_rest_of.kp b_rest_of .nil pass0 (qa_cons (qv 4) qa_nil)) qa_nil)))
   (qss_one (qs_expr (qe_bm PySem.F.plainAttrs_list PySem.F.slot_list_append PySem.F.type_list_append mt_append (qv 2) (qa_cons (qe_call G_first_of hr rfl m_first_of F_first_of.kp b_first_of .nil pass0 (qa_cons (qv 4) qa_nil)) qa_nil)))))) (qss_one (qs_if (qt_cmpR op_eq (qv 0) (qe_glob (v:=.int 6) rfl m_TURN r_TURN) (nomark _)) (qss_one (qs_expr (qe_bm PySem.F.plainAttrs_list PySem.F.slot_list_append PySem.F.type_list_append mt_append (qv 2) (qa_cons (qe_bm PySem.F.plainAttrs_list PySem.F.slot_list_pop PySem.F.type_list_pop mt_popAt (qv 2) (qa_cons (qe_un un_neg qe_int) qa_nil)) qa_nil)))) qss_nil)))))))))))))),?_⟩
 have hrl:=hrs.length
 rw [List.length_reverse] at hrl
 have hsl:sk.length≤8000010:=by
  have h1:=hb.2
  rw [T.parts_node] at h1
  have:=T.len_le_parts sk
  lia
 refine⟨_,rfl,rfl,_,rfl,ite2 (fun h=>?_) (fun h0=>?_)⟩
 ·have h:k=0:=by have:=V.int.inj (of_decide_eq_true h); lia
  subst h
  refine⟨_,rfl,.inl ⟨rfl,_,SqL.of hS⟩,_,rfl,S,rows,y,rfl,rfl,hS,smallM' (by lia),q M _ _ (Go.list g hm hS) upd_same ?_⟩
  show All2 _ (l::sk).reverse _
  rw [List.reverse_cons]
  exact All2.append (all_row (Kt.lst hS) hrs) (All2.one (.inl (hy.mono (Kt.lst hS))))
 have h0:¬ k=0:=fun z=>h0 (decide_eq_true (by rw [z]; rfl))
 refine⟨_,rfl,rfl,_,rfl,ite2 (fun h=>?_) (fun h1=>?_)⟩
 ·have h:k=1:=by have:=V.int.inj (of_decide_eq_true h); lia
  subst h
  obtain⟨a,sk0,r0,ya,rfl,rfl,h0,ha⟩:=all_last hrs (by rintro rfl; have h1:1≤sk.length:=hlk; simp at hrl; lia)
  refine⟨_,rfl,.inl ⟨rfl,_,SqL.of hS⟩,S,_,_,rfl,rfl,hS,last_snoc _ _,?_⟩
  rw [drop_snoc]
  exact q M _ _ (Go.list g hm hS) upd_same (all_row (Kt.lst hS) h0)
 have h1:¬ k=1:=fun z=>h1 (decide_eq_true (by rw [z]; rfl))
 refine⟨_,rfl,rfl,_,rfl,ite2 (fun h=>?_) (fun h2=>?_)⟩
 ·have h:k=2:=by have:=V.int.inj (of_decide_eq_true h); lia
  subst h
  obtain⟨a,sk0,r0,ya,rfl,rfl,h0,ha⟩:=all_last hrs (by rintro rfl; have h1:1≤sk.length:=hlk; simp at hrl; lia)
  refine⟨_,rfl,.inl ⟨rfl,_,SqL.of hS⟩,_,rfl,1,rfl,S,_,_,_,rfl,rfl,SqL.of hS,at_last,S,_,ya,rfl,rfl,hS,smallM' (by lia),q M _ _ (Go.list g hm hS) upd_same ?_⟩
  show All2 _ (a::a::sk0).reverse _
  rw [List.reverse_cons]
  exact All2.append (all_row (Kt.lst hS) hrs) (All2.one (ha.mono (Kt.lst hS) fun _ _ z=>z))
 have h2:¬ k=2:=fun z=>h2 (decide_eq_true (by rw [z]; rfl))
 refine⟨_,rfl,rfl,_,rfl,ite2 (fun h=>?_) (fun h3=>?_)⟩
 ·have h:k=3:=by have:=V.int.inj (of_decide_eq_true h); lia
  subst h
  obtain⟨a,c,sk0,r0,ya,yc,rfl,rfl,h0,ha,hc⟩:=all_last2 hrs hlk
  refine⟨_,rfl,.inl ⟨rfl,_,SqL.of hS⟩,_,rfl,.inl ⟨rfl,_,SqL.of hS⟩,2,rfl,S,_,-2,_,_,rfl,rfl,hS,by decide,by decide,si2 _ _ _,gt2 _ _ _,?_⟩
  rw [er2]
  refine⟨S,_,yc,rfl,rfl,upd_same,smallM' (by simp only [List.length_append,List.length_singleton] at hrl ⊢; lia),?_⟩
  rw [updU]
  refine q M _ _ (Go.list g hm hS) upd_same ?_
  have k:=Kt.lst (o:=.lst (r0++[ya]++[yc])) hS
  show All2 _ (c::a::sk0).reverse _
  rw [List.reverse_cons,List.reverse_cons]
  exact All2.append (All2.append (all_row k h0) (All2.one (ha.mono k fun _ _ z=>z))) (All2.one (hc.mono k fun _ _ z=>z))
 have h3:¬ k=3:=fun z=>h3 (decide_eq_true (by rw [z]; rfl))
 refine⟨_,rfl,rfl,_,rfl,ite2 (fun h=>?_) (fun h4=>?_)⟩
 ·have h:k=4:=by have:=V.int.inj (of_decide_eq_true h); lia
  subst h
  obtain⟨a,c,sk0,r0,ya,yc,rfl,rfl,h0,ha,hc⟩:=all_last2 hrs hlk
  refine⟨_,rfl,.inl ⟨rfl,_,SqL.of hS⟩,S,_,_,rfl,rfl,hS,last_snoc _ _,?_⟩
  rw [drop_snoc]
  refine⟨_,rfl,.inl ⟨rfl,_,SqL.of upd_same⟩,_,rfl,_,rfl,.inl ⟨rfl,_,SqL.of upd_same⟩,S,_,_,rfl,rfl,upd_same,last_snoc _ _,?_⟩
  rw [drop_snoc,updU]
  have G1:=Go.list (ys:=r0) g hm hS
  have k1:=Kt.lst (o:=.lst r0) hS
  have hS1:upd H S (.lst r0) S=some (.lst r0):=upd_same
  have h01:=all_row k1 h0
  have ha1:=ha.mono (M':=M) k1 fun _ _ z=>z
  have hc1:=hc.mono (M':=M) k1 fun _ _ z=>z
  generalize upd H S (.lst r0)=H1 at G1 k1 hS1 h01 ha1 hc1
  refine fun o dx ho hd ne=>⟨o,dx,ya,yc,rfl,mk_at,⟨rfl,S,r0,_,rfl,rfl,?_,smallM' (by simp only [List.length_append,List.length_singleton] at hrl; lia),?_⟩⟩
  ·rw [upd_ne (ne_of_none hS1 ho)]
   exact mk_same (C:=CFronted) (fs:=[]) ho hd ne _ _ hS1
  rw [mk_put]
  have S2:=mk_same (C:=CFronted) (fs:=fF ya yc) ho hd ne
  have nSo:S≠o:=ne_of_none hS1 ho
  have ro:∀ p t,M p=some (.row t)→setM M o (.row (.node (a::c.kids))) p=some (.row t):=fun p t e=>by
   rw [setM_ne (fun z=>by rw [z,G1.gh.fresh ho] at e; cases e)]
   exact e
  have G2:Go K CFronted CLater CWord CText (fun a=>a=S) M (setM M o (.row (.node (a::c.kids)))) H₀ H1 (mkO H1 o dx CFronted (fF ya yc)) :=
   Go.role G1.gh S2 ho ⟨_,mk_at⟩ (.inl ⟨dx,ya,yc,a,c.kids,mk_at,rfl,ha1.mono (.of S2) ro,by cases c; exact hc1.mono (.of S2) ro⟩)
  have hS2:=S2 _ _ hS1
  have h02:=h01.imp fun _ _ z=>z.mono (.of S2) ro
  have hm2:setM M o (.row (.node (a::c.kids))) S=some .mine:=by rw [setM_ne nSo]; exact hm
  have hMo:setM M o (.row (.node (a::c.kids))) o=some (.row (.node (a::c.kids))):=setM_same
  generalize setM M o (.row (.node (a::c.kids)))=M2 at G2 h02 hm2 hMo
  generalize mkO H1 o dx CFronted (fF ya yc)=H2 at G2 hS2 h02
  refine q M2 _ _ ((G1.trans G2).mutX hm2 rfl (Kt.lst hS2)) upd_same ?_
  show All2 _ (T.node (a::c.kids)::sk0).reverse _
  rw [List.reverse_cons]
  exact All2.append (all_row (Kt.lst hS2) h02) (All2.one (.inr ⟨o,rfl,hMo⟩))
 have h4:¬ k=4:=fun z=>h4 (decide_eq_true (by rw [z]; rfl))
 refine⟨_,rfl,rfl,_,rfl,ite2 (fun h=>?_) (fun h5=>?_)⟩
 ·have h:k=5:=by have:=V.int.inj (of_decide_eq_true h); lia
  subst h
  obtain⟨a,sk0,r0,ya,rfl,rfl,h0,ha⟩:=all_last hrs (by rintro rfl; have h1:1≤sk.length:=hlk; simp at hrl; lia)
  have da:a.deep≤400:=by
   have h1:=hb.1
   rw [T.deep_node,T.deepL_cons] at h1
   lia
  have ka:a.kids.length≤8000000:=hkl a (by simp)
  refine⟨_,rfl,.inl ⟨rfl,_,SqL.of hS⟩,S,_,_,rfl,rfl,hS,last_snoc _ _,?_⟩
  rw [drop_snoc]
  have G1:=Go.list (ys:=r0) g hm hS
  have k1:=Kt.lst (o:=.lst r0) hS
  have hS1:upd H S (.lst r0) S=some (.lst r0):=upd_same
  have h01:=all_row k1 h0
  have ha1:=ha.mono (M':=M) k1 fun _ _ z=>z
  generalize upd H S (.lst r0)=H1 at G1 k1 hS1 h01 ha1
  refine⟨_,rfl,.inl ⟨rfl,_,SqL.of hS1⟩,_,rfl,ya,a,M,H₀,rfl,G1.gh,ha1,da,ka,fun y2 M2 H2 S2 G2 r2=>?_⟩
  have hS2:=S2 _ _ hS1
  have hm2:=G2.ext _ _ hm
  have h02:=h01.imp fun _ _ z=>G2.rv z
  have ha2:=G2.rv ha1
  have G2':=G1.trans (G2.weak fun _ z=>z.elim)
  refine⟨S,r0,y2,rfl,rfl,hS2,smallM' (by simp only [List.length_append,List.length_singleton] at hrl; lia),?_⟩
  have G3:=G2'.mutX (u:=.lst (r0++[y2])) hm2 rfl (Kt.lst hS2)
  have k3:=Kt.lst (o:=.lst (r0++[y2])) hS2
  have hS3:upd H2 S (.lst (r0++[y2])) S=some (.lst (r0++[y2])):=upd_same
  have h03:=all_row k3 h02
  have ha3:=ha2.mono (M':=M2) k3 fun _ _ z=>z
  have r3:=r2.mono (M':=M2) k3 fun _ _ z=>z
  generalize upd H2 S (.lst (r0++[y2]))=H3 at G3 k3 hS3 h03 ha3 r3
  refine⟨_,rfl,.inl ⟨rfl,_,SqL.of hS3⟩,_,rfl,ya,a,M2,H₀,rfl,G3.gh,ha3,da,fun y4 H4 S4 r4=>?_⟩
  have hS4:=S4 _ _ hS3
  refine⟨S,_,y4,rfl,rfl,hS4,smallM' (by simp only [List.length_append,List.length_singleton] at hrl ⊢; lia),?_⟩
  have G4:=G3.trans (.grow G3.gh S4)
  have k5:=Kt.lst (o:=.lst (r0++[y2]++[y4])) hS4
  refine q M2 _ _ (G4.mutX hm2 rfl (Kt.lst hS4)) upd_same ?_
  show All2 _ (ats a.kids 0::loadT a::sk0).reverse _
  rw [List.reverse_cons,List.reverse_cons]
  exact All2.append (All2.append (all_row ((Kt.of S4).trans k5) h03) (All2.one (r3.mono ((Kt.of S4).trans k5) fun _ _ z=>z))) (All2.one (r4.mono k5 fun _ _ z=>z))
 have h5:¬ k=5:=fun z=>h5 (decide_eq_true (by rw [z]; rfl))
 refine⟨_,rfl,rfl,_,rfl,ite2 (fun h=>?_) (fun h6=>?_)⟩
 ·have h:k=6:=by have:=V.int.inj (of_decide_eq_true h); lia
  subst h
  obtain⟨a,c,e,sk0,r0,ya,yc,ye,rfl,rfl,h0,ha,hc,he⟩:=all_last3 hrs hlk
  refine⟨_,rfl,.inl ⟨rfl,_,SqL.of hS⟩,_,rfl,.inl ⟨rfl,_,SqL.of hS⟩,3,rfl,S,_,-3,_,_,rfl,rfl,hS,by decide,by decide,si3 _ _ _ _,gt3 _ _ _ _,?_⟩
  rw [er3]
  refine⟨S,_,ye,rfl,rfl,upd_same,smallM' (by simp only [List.length_append,List.length_singleton] at hrl ⊢; lia),?_⟩
  rw [updU]
  refine q M _ _ (Go.list g hm hS) upd_same ?_
  have k:=Kt.lst (o:=.lst (r0++[yc]++[ya]++[ye])) hS
  show All2 _ (e::a::c::sk0).reverse _
  rw [List.reverse_cons,List.reverse_cons,List.reverse_cons]
  exact All2.append (All2.append (All2.append (all_row k h0) (All2.one (hc.mono k fun _ _ z=>z))) (All2.one (ha.mono k fun _ _ z=>z))) (All2.one (he.mono k fun _ _ z=>z))
 have h6:¬ k=6:=fun z=>h6 (decide_eq_true (by rw [z]; rfl))
 refine q M H rows (.refl g) hS ?_
 rw [work_ge (show 7≤k by lia)]
 exact hrs
end
end Sw75
namespace Sw75
open PySem PySem.Spec PyProof.Rows L2 Sw
section
variable {P:Program}{w:World}{K:PySem.W.Frag}{mg:Str→Option Value}{base:Heap}{f:Addr}{fd:FuncData}{CFronted CLater CWord CText CGoing CWalk:Addr}
theorem ok_Walk_at_end (O:Own K CFronted CLater CWord CText CGoing CWalk)
  (F:Fun K "at_end" "Walk.at_end" s_Walk_at_end f fd):FnOk P w K mg base CX0 31 f fd ["self"] (spAtEnd K CFronted CLater CWord CText CGoing CWalk):=by
 refine okQ F sc_Walk_at_end (fun vs H Q E h=>?_) (fun cdv A outer s H vs Q E hr h=>?_)
 ·obtain⟨o,M,H₀,tx,sk,num,b,rfl,_⟩:=h
  rfl
 obtain⟨o,M,H₀,tx,sk,num,b,rfl,w',q⟩:=h
 refine⟨_,(qss_one (qs_ret (qe_notT (qe_fld (qv 0) rfl)))),?_⟩
 obtain⟨dx,G,S,N,gs,rows,w'⟩:=w'
 have hgl:=w'.gos.length
 rw [List.length_reverse] at hgl
 refine⟨_,rfl,o,CWalk,dx,_,_,rfl,w'.ob,O.cWalk,O.kg,lwG,!gs.isEmpty,.inl ⟨gs,SqL.of w'.hG,rfl⟩,?_⟩
 have e:(!(!gs.isEmpty))=decide (tx=[]):=by
  rw [Bool.not_not]
  cases tx with
  | nil =>
   have:gs=[]:=List.length_eq_zero_iff.mp (by simpa using hgl)
   rw [this]
   rfl
  | cons t r =>
   cases gs with
   | nil=>simp at hgl
   | cons _ _=>rfl
 rw [e]
 exact q
theorem ok_Walk_top (O:Own K CFronted CLater CWord CText CGoing CWalk)
  (F:Fun K "top" "Walk.top" s_Walk_top f fd):FnOk P w K mg base CX0 31 f fd ["self"] (spTop K CFronted CLater CWord CText CGoing CWalk):=by
 refine okQ F sc_Walk_top (fun vs H Q E h=>?_) (fun cdv A outer s H vs Q E hr h=>?_)
 ·obtain⟨o,M,H₀,tx,sk,num,b,rfl,_⟩:=h
  rfl
 obtain⟨o,M,H₀,tx,sk,num,b,rfl,w',q⟩:=h
 refine⟨_,(qss_one (qs_ret (qe_ifExp (qt_truth (qe_fld (qv 0) rfl) (fun _=>rfl)) (qe_ix ix_list (qe_fld (qv 0) rfl) (qe_un un_neg qe_int) (fun _ _=>rfl)) (qe_tup qa_nil)))),?_⟩
 obtain⟨dx,G,S,N,gs,rows,w'⟩:=w'
 refine⟨_,rfl,o,CWalk,dx,_,_,rfl,w'.ob,O.cWalk,O.ks,lwS,!rows.isEmpty,.inl ⟨rows,SqL.of w'.hS,rfl⟩,ite2 (fun h=>?_) (fun h=>?_)⟩
 ·have hne:rows≠[]:=by rintro rfl; exact absurd h (by decide)
  obtain⟨a,sk0,r0,ya,rfl,rfl,h0,ha⟩:=all_last w'.sts hne
  exact⟨_,rfl,o,CWalk,dx,_,_,rfl,w'.ob,O.cWalk,O.ks,lwS,1,rfl,S,_,_,_,rfl,rfl,SqL.of w'.hS,at_last,q _ _ (Same.refl _) ha⟩
 ·have hr:rows=[]:=by
   cases rows with
   | nil=>rfl
   | cons _ _=>exact absurd rfl h
  subst hr
  have:=all_nil w'.sts
  subst this
  refine⟨Nat.zero_le _,fun p1 g1=>?_⟩
  obtain⟨S1,t1⟩:=tupN (K:=K) (ts:=[]) g1 (TRs_nil.mpr rfl)
  exact q _ _ S1 (.inl t1)
theorem ok_Walk_tally (O:Own K CFronted CLater CWord CText CGoing CWalk) (m_tuple:mg "tuple"=none)
  (F:Fun K "tally" "Walk.tally" s_Walk_tally f fd):FnOk P w K mg base CX0 31 f fd ["self"] (spTally K CFronted CLater CWord CText CGoing CWalk):=by
 refine okQ F sc_Walk_tally (fun vs H Q E h=>?_) (fun cdv A outer s H vs Q E hr h=>?_)
 ·obtain⟨o,M,H₀,tx,sk,num,b,rfl,_⟩:=h
  rfl
 obtain⟨o,M,H₀,tx,sk,num,b,rfl,w',q⟩:=h
 refine⟨_,(qss_one (qs_ret (qe_callTy call_tuple_of rfl m_tuple bt_tuple (qa_cons (qe_fld (qv 0) rfl) qa_nil)))),?_⟩
 obtain⟨dx,G,S,N,gs,rows,w'⟩:=w'
 exact⟨_,rfl,o,CWalk,dx,_,_,rfl,w'.ob,O.cWalk,O.kn,lwN,N,_,rfl,.inl ⟨SqL.of w'.hN,fun l hl=>q _ _ (same_new hl _) (SqT.of upd_same)⟩⟩
end
end Sw75
namespace Sw75
open PySem PySem.Spec PyProof.Rows L2 Sw
section
variable {P:Program}{w:World}{K:PySem.W.Frag}{mg:Str→Option Value}{base:Heap}{f:Addr}{fd:FuncData}{CFronted CLater CWord CText CGoing CWalk:Addr}
theorem ok_Walk___init__ (O:Own K CFronted CLater CWord CText CGoing CWalk) (m_reversed:mg "reversed"=none) (m_list:mg "list"=none) {u_PLACES:Value} (m_PLACES:mg "PLACES"=some u_PLACES) (r_PLACES:RelV (.int 15) u_PLACES)
  (m_Going:mg "Going"=some (.ref CGoing))
  (m_Text:mg "Text"=some (.ref CText))
  {a_Going___init__:Addr}{d_Going___init__:FuncData} (MK_Going:Mk K CGoing a_Going___init__) (G_Going___init__:FnOk P w K mg base CX0 31 a_Going___init__ d_Going___init__ ["self","text"] (spGoInit CGoing)) (b_Going___init__:Binds K d_Going___init__ ["self","text"] [])
  {a_Text___init__:Addr}{d_Text___init__:FuncData} (MK_Text:Mk K CText a_Text___init__) (G_Text___init__:FnOk P w K mg base CX0 31 a_Text___init__ d_Text___init__ ["self","tree"] (spTxInit CText)) (b_Text___init__:Binds K d_Text___init__ ["self","tree"] [])
  (F:Fun K "__init__" "Walk.__init__" s_Walk___init__ f fd):FnOk P w K mg base CX0 33 f fd ["self","stand","budget"] (spWkInit K CFronted CLater CWord CText CGoing CWalk):=by
 refine okQ F sc_Walk___init__ (fun vs H Q E h=>?_) (fun cdv A outer s H vs Q E hr h=>?_)
 ·obtain⟨o,dx,x,tx,sk,b,M,H₀,rfl,_⟩:=h
  rfl
 obtain⟨o,dx,x,tx,sk,b,M,H₀,rfl,g,hm,ho,hx,bx,bs,q⟩:=h
 refine⟨_,(qss_cons (qs_fld (qv 0) (qe_lc rfl (lc_free (fr:=[]) (js:=[]) (sc:=defScope s_Walk___init__) rfl rfl rfl (by decide +kernel) (by decide +kernel) (by decide +kernel) (by decide +kernel) (by exact trivial) (by decide +kernel) (fun y hy=>cell_has hy)) (qi_revT rfl m_reversed (qe_ix ix_tup (qv 1) qe_int (fun _ _=>rfl))) (fun _ _ _ _ _=>(qe_make MK_Going G_Going___init__ hr rfl m_Going b_Going___init__ .nil pass0 (qa_cons (qe_make MK_Text G_Text___init__ hr rfl m_Text b_Text___init__ .nil pass0 (qa_cons (qv 0) qa_nil)) qa_nil)))) rfl)
   (qss_cons (qs_fld (qv 0) (qe_listRev rfl rfl m_list m_reversed rfl (qe_ix ix_tup (qv 1) qe_int (fun _ _=>rfl))) rfl)
   (qss_cons (qs_fld (qv 0) (qe_op op_rep (qe_lst (qa_cons qe_int qa_nil)) (qe_glob (v:=.int 15) rfl m_PLACES r_PLACES)) rfl)
   (qss_one (qs_fld (qv 0) (qv 2) rfl))))),?_⟩
 obtain⟨ax,xs,rfl,hax,hxs⟩:=TR_node.mp hx
 obtain⟨x0,r0,rfl,t0,hr⟩:=TRs_cons.mp hxs
 obtain⟨x1,r1,rfl,t1,hr1⟩:=TRs_cons.mp hr
 obtain⟨a0,ys0,rfl,h0,hy0⟩:=TR_node.mp t0
 obtain⟨a1,ys1,rfl,h1,hy1⟩:=TR_node.mp t1
 have l0:=hy0.length
 have l1:=hy1.length
 have hsl:sk.length≤8000000:=by
  have h1:=bs.2
  rw [T.parts_node] at h1
  have:=T.len_le_parts sk
  lia
 refine⟨_,rfl,ax,_,0,_,rfl,rfl,hax,atI_nat (j:=0) rfl,a0,ys0,rfl,h0,lc_revT (fun D i ys H'=>H D=none∧∃ M',Go K CFronted CLater CWord CText (fun _=>False) M M' H₀ H H'∧M' D=some .mine∧H' D=some (.lst ys)∧ys.length=i∧All2 (GoAt CGoing M' H') (tx.reverse.take i) ys∧ys.Nodup) (smallM (by have:=bx.1; lia)) (fun D hD=>⟨hD,setM M D .mine,Go.mineNew g hD,setM_same,upd_same,rfl,by rw [List.take_zero]; exact .nil,List.nodup_nil⟩) (fun D i ys H' j=>⟨j.2.choose_spec.2.2.1,j.2.choose_spec.2.2.2.1,sqT_mono j.2.choose_spec.1.kt h0⟩) (fun D i x ys H1 R hxi j hR=>?_) (fun D gs H1 j=>?_)⟩
 ·obtain⟨hD,M1,G1,mD,h1D,hyl,hgo,nd⟩:=j
  obtain⟨t,et,ht⟩:=rev_get hy0 hxi
  have hbt:B 389 8000000 t:=bx.2 t (by have:=List.mem_of_getElem? et; rw [List.mem_reverse] at this; exact this)
  refine⟨_,rfl,fun a da ha hda ne=>⟨a,da,x,rfl,mk_at,fun W hW=>⟨rfl,fun gg dg hg hdg ne2=>⟨gg,dg,a,rfl,mk_at,⟨rfl,?_⟩⟩⟩⟩⟩
  obtain⟨G2,S2,tx2⟩:=Go.newText (X:=fun _=>False) G1.gh (ht.mono G1.kt) ha hda ne hW
  generalize setM (setM M1 W (.words t)) a (.text t W)=M2 at G2 tx2
  generalize upd (upd (mkO H1 a da CText []) W (.lst [])) a (.ins CText da (fT x W))=H2 at G2 S2 hg hdg
  rw [updU,← (show mkO H2 gg dg CGoing (fG a 0)=upd (upd H2 dg (.own gg)) gg (.ins CGoing dg (fG a 0)) from rfl)]
  have G3:Go K CFronted CLater CWord CText (fun _=>False) M2 (setM M2 gg .mine) H₀ H2 (mkO H2 gg dg CGoing (fG a 0)):=Go.made G2.gh hg hdg ne2
  have S3:=mk_same (C:=CGoing) (fs:=fG a 0) hg hdg ne2
  have gn:=GoAt.new (CG:=CGoing) G2.gh tx2 hbt hg hdg ne2
  have hD3:=S3 _ _ (S2 _ _ h1D)
  have mD3:=G3.ext _ _ (G2.ext _ _ mD)
  have hnew:(.ref gg:V) ∉ ys:=fun z=>by
   obtain⟨k,hk⟩:=List.mem_iff_getElem?.mp z
   obtain⟨t',_,g',_,_,_,_,_,e,_,h2,_⟩:=hgo.get hk
   cases e
   have:=S2 _ _ h2
   rw [hg] at this
   cases this
  generalize mkO H2 gg dg CGoing (fG a 0)=H3 at G3 S3 gn hD3
  generalize setM M2 gg .mine=M3 at G3 gn mD3
  have Gl:Go K CFronted CLater CWord CText (fun c=>c=D) M3 M3 H₀ H3 (upd H3 D (.lst (ys++[.ref gg]))):=.list G3.gh mD3 hD3
  have Gs:Go K CFronted CLater CWord CText (fun c=>c=D) M1 M3 H₀ H1 (upd H3 D (.lst (ys++[.ref gg]))):=((G2.trans G3).weak fun _ z=>z.elim).trans Gl
  refine hR _ _ hD3 ⟨hD,M3,((G1.trans G2).trans G3).mutN mD3 (by rw [g.fresh hD]; simp) (Kt.lst hD3),mD3,upd_same,by rw [List.length_append,hyl]; rfl,?_,?_⟩
  ·rw [take_get et]
   exact All2.append (hgo.imp fun _ _ z=>z.go Gs (z.nl h1D) G1.gh) (All2.one (gn.go Gl (gn.nl hD3) G3.gh))
  ·refine List.nodup_append.mpr ⟨nd,by simp,fun c hc e he=>?_⟩
   rw [List.mem_singleton.mp he]
   exact fun z=>hnew (z ▸ hc)
 obtain⟨hD,M1,G1,mD,h1D,hyl,hgo,nd⟩:=j
 rw [List.take_of_length_le (by rw [List.length_reverse]; lia)] at hgo
 have ho1:H1 o=some (.ins CWalk dx []):=(G1.mine o hm id).trans ho
 have noD:o≠D:=ne_of_none ho hD
 have kt {u:HO}{Ha:Hp}{fs:List (Str×V)} (h:Ha o=some (.ins CWalk dx fs)):Kt Ha (upd Ha o u):=Kt.ins h
 refine⟨_,rfl,o,CWalk,dx,[],rfl,ho1,O.cWalk,O.kg,by show 0<1000; decide,?_⟩
 rw [pw1]
 have G2:=(G1.weak (Y:=fun c=>c=o) fun _ z=>z.elim).mutX (u:=.ins CWalk dx (w1 D)) (G1.ext _ _ hm) rfl (kt ho1)
 have Gq:Go K CFronted CLater CWord CText (fun c=>c=o) M1 M1 H₀ H1 (upd H1 o (.ins CWalk dx (w1 D))):=Go.mutX (.refl G1.gh) (G1.ext _ _ hm) rfl (kt ho1)
 have hgo2:=hgo.imp fun t x z=>z.go Gq (fun gx e z2=>by
  obtain⟨g',_,_,_,_,_,e',_,h2,_⟩:=z
  rw [e] at e'
  cases e'
  rw [z2,ho1] at h2
  have h3:=(HO.ins.inj (Option.some.inj h2)).2.2
  exact absurd (congrArg List.length h3) (by simp [fG])) G1.gh
 have h2D:upd H1 o (.ins CWalk dx (w1 D)) D=some (.lst gs):=by rw [upd_ne (Ne.symm noD)]; exact h1D
 have h2o:upd H1 o (.ins CWalk dx (w1 D)) o=some (.ins CWalk dx (w1 D)):=upd_same
 generalize upd H1 o (.ins CWalk dx (w1 D))=H2 at G2 hgo2 h2D h2o
 have hm1:=G1.ext _ _ hm
 refine⟨_,rfl,ax,_,1,_,rfl,rfl,sqT_mono G2.kt hax,atI_nat (j:=1) rfl,a1,ys1,rfl,sqT_mono G2.kt h1,fun l hl=>⟨_,rfl,o,CWalk,dx,w1 D,rfl,?_,O.cWalk,O.ks,by show 1<1000; decide,?_⟩⟩
 ·rw [upd_ne (ne_of_none h2o hl)]; exact h2o
 rw [pw2]
 have hsts:All2 (RV K M1 H2) sk.reverse ys1.reverse:=(trs_all (hy1.mono G2.kt)).rev
 have G3a:Go K CFronted CLater CWord CText (fun c=>c=o) M1 (setM M1 l .mine) H₀ H2 (upd H2 l (.lst ys1.reverse)):=Go.mineNew G2.gh hl
 have h3o:upd H2 l (.lst ys1.reverse) o=some (.ins CWalk dx (w1 D)):=by rw [upd_ne (ne_of_none h2o hl)]; exact h2o
 have h3D:upd H2 l (.lst ys1.reverse) D=some (.lst gs):=by rw [upd_ne (ne_of_none h2D hl)]; exact h2D
 have nDl:D≠l:=ne_of_none h2D hl
 have h3l:upd H2 l (.lst ys1.reverse) l=some (.lst ys1.reverse):=upd_same
 have m3l:setM M1 l .mine l=some .mine:=setM_same
 generalize upd H2 l (.lst ys1.reverse)=H3 at G3a h3o h3D h3l
 generalize setM M1 l .mine=M3 at G3a m3l
 have hm3:=G3a.ext _ _ hm1
 have G3:=G3a.mutX (u:=.ins CWalk dx (w2 D l)) hm3 rfl (kt h3o)
 have nlo:l≠o:=fun z=>by rw [z,h3o] at h3l; cases h3l
 have nog:∀ {Ma:Mp}{Ha:Hp}{fs:List (Str×V)}{t:T}{x:V},Ha o=some (.ins CWalk dx fs)→(∀ a p,fs≠fG a p)→GoAt CGoing Ma Ha t x→∀ gx,x=.ref gx→¬ gx=o:=fun hh hne z gx e z2=>by
  obtain⟨g',_,_,_,_,_,e',_,h2,_⟩:=z
  rw [e] at e'
  cases e'
  rw [z2,hh] at h2
  exact hne _ _ (HO.ins.inj (Option.some.inj h2)).2.2
 have n1:∀ a p,w1 D≠fG a p:=fun a p z=>absurd (congrArg List.length z) (by simp [fG,w1])
 have hgo4:=hgo2.imp fun t x z=>z.go G3 (nog h2o n1 z) G2.gh
 have hsts4:=hsts.imp fun _ _ z=>G3.rv z
 have h4D:upd H3 o (.ins CWalk dx (w2 D l)) D=some (.lst gs):=by rw [upd_ne (Ne.symm noD)]; exact h3D
 have h4l:upd H3 o (.ins CWalk dx (w2 D l)) l=some (.lst ys1.reverse):=by rw [upd_ne nlo]; exact h3l
 have h4o:upd H3 o (.ins CWalk dx (w2 D l)) o=some (.ins CWalk dx (w2 D l)):=upd_same
 generalize upd H3 o (.ins CWalk dx (w2 D l))=H4 at G3 hgo4 hsts4 h4D h4l h4o
 have z63:(2:Int) ^ 63=9223372036854775808:=by decide
 refine⟨(by show 1≤sizeLine; decide),fun p5 g5=>⟨p5,15,[.int 0],rfl,rfl,upd_same,by lia,by lia,(by show 1 * 15≤sizeLine; decide),fun n g6=>?_⟩⟩
 have e0:(List.replicate (15:Int).toNat [V.int 0]).flatten=zero15.map nv:=rfl
 rw [e0]
 have S5:=same_new g5 (.lst [V.int 0])
 have G5:Go K CFronted CLater CWord CText (fun c=>c=o) M3 M3 H₀ H4 (upd H4 p5 (.lst [V.int 0])):=.grow G3.gh S5
 have G6a:Go K CFronted CLater CWord CText (fun c=>c=o) M3 (setM M3 n .mine) H₀ (upd H4 p5 (.lst [V.int 0])) (upd (upd H4 p5 (.lst [V.int 0])) n (.lst (zero15.map nv))):=Go.mineNew G5.gh g6
 have S6:=S5.trans (same_new g6 (.lst (zero15.map nv)))
 have h6n:upd (upd H4 p5 (.lst [V.int 0])) n (.lst (zero15.map nv)) n=some (.lst (zero15.map nv)):=upd_same
 have m6n:setM M3 n .mine n=some .mine:=setM_same
 have n4:H4 n=none:=S5.free g6
 have G6:=G5.trans G6a
 generalize upd (upd H4 p5 (.lst [V.int 0])) n (.lst (zero15.map nv))=H6 at G6 G6a S6 h6n
 generalize setM M3 n .mine=M6 at G6 G6a m6n
 have h6o:=S6 _ _ h4o
 refine⟨_,rfl,o,CWalk,dx,w2 D l,rfl,h6o,O.cWalk,O.kn,by show 2<1000; decide,?_⟩
 rw [pw3]
 refine⟨_,rfl,_,rfl,o,CWalk,dx,w3 D l n,rfl,upd_same,O.cWalk,O.kl,by show 3<1000; decide,?_⟩
 rw [pw4,updU]
 have hm6:=G6.ext _ _ hm3
 have G7:=G6.mutX (u:=.ins CWalk dx (fW D l n b)) hm6 rfl (kt h6o)
 have n2:∀ a p,w2 D l≠fG a p:=fun a p z=>by
  have h1:((Str.ofString "goings",V.ref D):Str×V)=(Str.ofString "text",V.ref a):=(List.cons.inj z).1
  have h2:Str.ofString "goings"=Str.ofString "text":=congrArg Prod.fst h1
  exact absurd h2 (by decide +kernel)
 have hgo7:=hgo4.imp fun t x z=>z.go G7 (nog h4o n2 z) G3.gh
 have hsts7:=hsts4.imp fun _ _ z=>G7.rv z
 have nno:n≠o:=fun z=>by rw [z,h6o] at h6n; cases h6n
 have mD6:=G6.ext _ _ (G3a.ext _ _ mD)
 exact q M6 _ ⟨dx,D,l,n,gs,ys1.reverse,G7.gh,upd_same,hm6,mD6,G6.ext _ _ m3l,m6n,by rw [upd_ne (Ne.symm noD)]; exact S6 _ _ h4D,by rw [upd_ne nlo]; exact S6 _ _ h4l,by rw [upd_ne nno]; exact h6n,hgo7,hsts7,rfl,nDl,ne_of_none h4D n4,ne_of_none h4l n4,nd⟩
end
end Sw75
namespace Sw75
open PySem PySem.Spec PyProof.Rows L2 Sw
section
variable {P:Program}{w:World}{K:PySem.W.Frag}{mg:Str→Option Value}{base:Heap}{f:Addr}{fd:FuncData}{CFronted CLater CWord CText CGoing CWalk:Addr}
theorem ok_Walk_move (O:Own K CFronted CLater CWord CText CGoing CWalk) {u_SHUT:Value} (m_SHUT:mg "SHUT"=some u_SHUT) (r_SHUT:RelV (.int 12) u_SHUT) {u_WHILE_INTO:Value} (m_WHILE_INTO:mg "WHILE_INTO"=some u_WHILE_INTO) (r_WHILE_INTO:RelV (.int 9) u_WHILE_INTO) {u_BODIES:Value} (m_BODIES:mg "BODIES"=some u_BODIES) (r_BODIES:RelV (.int 14) u_BODIES) {u_FORK_YES:Value} (m_FORK_YES:mg "FORK_YES"=some u_FORK_YES) (r_FORK_YES:RelV (.int 7) u_FORK_YES) {u_FORK_NO:Value} (m_FORK_NO:mg "FORK_NO"=some u_FORK_NO) (r_FORK_NO:RelV (.int 8) u_FORK_NO)
  {a_work:Addr}{d_work:FuncData} (F_work:Fun K "work" "work" s_work a_work d_work) (G_work:FnOk P w K mg base CX0 36 a_work d_work ["step","load","stack"] (spWork K CFronted CLater CWord CText)) (b_work:Binds K d_work ["step","load","stack"] []) (m_work:mg "work"=some (.ref a_work))
  (m_Going:mg "Going"=some (.ref CGoing))
  {a_Word_body_parts:Addr}{d_Word_body_parts:FuncData} (M_Word_body_parts:Meth K CWord "body_parts" a_Word_body_parts) (G_Word_body_parts:FnOk P w K mg base CX0 36 a_Word_body_parts d_Word_body_parts ["self"] (spBodyP K CFronted CLater CWord CText)) (b_Word_body_parts:Binds K d_Word_body_parts ["self"] [])
  {a_Going___init__:Addr}{d_Going___init__:FuncData} (MK_Going:Mk K CGoing a_Going___init__) (G_Going___init__:FnOk P w K mg base CX0 35 a_Going___init__ d_Going___init__ ["self","text"] (spGoInit CGoing)) (b_Going___init__:Binds K d_Going___init__ ["self","text"] [])
  (F:Fun K "move" "Walk.move" s_Walk_move f fd):FnOk P w K mg base CX0 37 f fd ["self","step","going","word"] (spMove K CFronted CLater CWord CText CGoing CWalk):=by
 refine okQ F sc_Walk_move (fun vs H Q E h=>?_) (fun cdv A outer s H vs Q E hr h=>?_)
 ·obtain⟨o,dx,G,S,N,gs0,g,rows,p,rest,sp,num,b,k,wv,M,H₀,rfl,_⟩:=h
  rfl
 obtain⟨o,dx,G,S,N,gs0,g,rows,p,rest,sp,num,b,k,wv,M,H₀,rfl,w0,hlk,hb,hkl,hrest,h⟩:=h
 refine⟨_,(qss_cons (qs_if (qt_cmpR op_eq (qv 1) (qe_glob (v:=.int 12) rfl m_SHUT r_SHUT) (nomark _)) (qss_cons (qs_expr (qe_bm0 PySem.F.plainAttrs_list PySem.F.slot_list_pop PySem.F.type_list_pop mt_pop (qe_fld (qv 0) rfl)))
   (qss_one qs_retN)) qss_nil)
   (qss_cons (qs_if (qt_cmpR op_eq (qv 1) (qe_glob (v:=.int 9) rfl m_WHILE_INTO r_WHILE_INTO) (nomark _)) (qss_cons (qs_augS (qe_fld (qv 0) rfl) (qe_glob (v:=.int 14) rfl m_BODIES r_BODIES) get_list (qe_meth0 (qv 3) O.cWord M_Word_body_parts G_Word_body_parts hr b_Word_body_parts .nil pass0) ip_add set_list)
   (qss_cons (qs_expr (qe_bm PySem.F.plainAttrs_list PySem.F.slot_list_append PySem.F.type_list_append mt_append (qe_fld (qv 0) rfl) (qa_cons (qe_make MK_Going G_Going___init__ hr rfl m_Going b_Going___init__ .nil pass0 (qa_cons (qe_fld (qv 3) rfl) qa_nil)) qa_nil)))
   (qss_one qs_retN))) qss_nil)
   (qss_cons (qs_fldaug (qv 2) qe_int in_add)
   (qss_one (qs_if (qt_cmpR op_eq (qv 1) (qe_glob (v:=.int 7) rfl m_FORK_YES r_FORK_YES) (nomark _)) (qss_one (qs_expr (qe_bm PySem.F.plainAttrs_list PySem.F.slot_list_append PySem.F.type_list_append mt_append (qe_fld (qv 0) rfl) (qa_cons (qe_make MK_Going G_Going___init__ hr rfl m_Going b_Going___init__ .nil pass0 (qa_cons (qe_fld (qv 3) rfl) qa_nil)) qa_nil)))) (qss_one (qs_if (qt_cmpR op_eq (qv 1) (qe_glob (v:=.int 8) rfl m_FORK_NO r_FORK_NO) (nomark _)) (qss_one (qs_expr (qe_bm PySem.F.plainAttrs_list PySem.F.slot_list_append PySem.F.type_list_append mt_append (qe_fld (qv 0) rfl) (qa_cons (qe_make MK_Going G_Going___init__ hr rfl m_Going b_Going___init__ .nil pass0 (qa_cons (qe_fld (qv 3) rfl) qa_nil)) qa_nil)))) (qss_one (qs_expr (qe_call G_work hr rfl m_work F_work.kp b_work .nil pass0 (qa_cons (qv 1) (qa_cons (qe_fld (qv 3) rfl) (qa_cons (qe_fld (qv 0) rfl) qa_nil))))))))))))),?_⟩
 have hgl:=w0.gos.length
 rw [List.length_reverse,List.length_cons,List.length_append,List.length_singleton] at hgl
 rcases h with⟨rfl,q⟩ | ⟨w',ws,bw,tx',s',num',rfl,rfl,hbw,rdy,mv,bx',hz,q⟩
 ·refine⟨_,rfl,rfl,_,rfl,ite2 (fun _=>?_) (fun h=>absurd (by decide) h)⟩
  have hgo:=w0.gos
  rw [List.reverse_cons] at hgo
  obtain⟨gs1,y,e1,hg0,_⟩:=All2.snoc hgo
  obtain⟨rfl,_⟩:=List.append_inj' e1 rfl
  refine⟨_,rfl,o,CWalk,dx,_,_,rfl,w0.ob,O.cWalk,O.kg,lwG,.inl ⟨rfl,_,SqL.of w0.hG⟩,G,_,_,rfl,rfl,w0.hG,last_snoc _ _,?_⟩
  rw [drop_snoc]
  exact q M _ ⟨dx,G,S,N,gs0,rows,w0.setG hg0 (List.nodup_append.mp w0.nd).1⟩
 have hw:=w0.gh.ok bw _ hbw
 have n12:¬ k=12:=fun z=>by
  rcases mv with⟨h,_⟩ | ⟨h,_⟩ | ⟨h,_⟩ | ⟨h,_⟩ <;> lia
 refine⟨_,rfl,rfl,_,rfl,ite2 (fun h=>absurd (by have:=V.int.inj (of_decide_eq_true h); lia) n12) (fun _=>?_)⟩
 dsimp only [tNext]
 rcases mv with⟨rfl,s8,rfl,rfl,rfl⟩ | mv
 ·refine⟨_,rfl,rfl,_,rfl,ite2 (fun _=>?_) (fun h=>absurd (by decide) h)⟩
  obtain⟨dw,v,y,n,bd,sz,hw1,tv,c7,c8,hs⟩:=hw
  refine⟨_,rfl,o,CWalk,dx,_,_,rfl,w0.ob,O.cWalk,O.kn,lwN,N,_,_,_,rfl,rfl,SqL.of w0.hN,at_nv (k:=14) w0.n15 (by lia),_,rfl,bw,dw,_,rfl,hw1,ldNo (by decide +kernel) (by decide +kernel) (by decide +kernel) (by decide +kernel) (by decide +kernel) (by decide +kernel),bw,w',M,H₀,rfl,w0.gh,hbw,hz,fun H1 G1=>⟨_,_,rfl,rfl,N,_,_,14,rfl,rfl,(w0.go G1).hN,ixN_nat (j:=14) (by rw [List.length_map,w0.n15]; lia),?_⟩⟩
  rw [setN_eq]
  have w1:=(w0.go G1).setN (num':=num.set 14 (num.getD 14 0+(loadT w').parts)) (by rw [List.length_set]; exact w0.n15)
  generalize upd H1 N (.lst ((num.set 14 (num.getD 14 0+(loadT w').parts)).map nv))=H2 at w1
  obtain⟨dw,v,y,n,bd,sz,hw1,tv,c7,c8,hs⟩:=w1.gh.ok bw _ hbw
  obtain⟨ab,rfl,htx⟩:=c8 s8
  refine⟨_,rfl,o,CWalk,dx,_,_,rfl,w1.ob,O.cWalk,O.kg,lwG,.inl ⟨rfl,_,SqL.of w1.hG⟩,_,rfl,bw,CWord,dw,_,_,rfl,hw1,O.cWord,O.wb,ldB,fun gg dg hg hdg ne=>⟨gg,dg,ab,rfl,mk_at,⟨rfl,G,gs0++[.ref g],_,rfl,rfl,?_,?_,?_⟩⟩⟩
  ·rw [updU]
   exact mk_same (C:=CGoing) (fs:=fG ab 0) hg hdg ne _ _ w1.hG
  ·exact smallM' (by simp only [List.length_append,List.length_singleton]; lia)
  rw [updU,← (show mkO H2 gg dg CGoing (fG ab 0)=upd (upd H2 dg (.own gg)) gg (.ins CGoing dg (fG ab 0)) from rfl)]
  obtain⟨k1,k2,k3⟩:=w1.newG htx (bx'.2 _ (by simp)) hg hdg ne
  exact q _ _ ⟨dx,G,S,N,_,rows,k1.push k2 k3⟩
 have n9:¬ k=9:=fun z=>by
  rcases mv with⟨h,_⟩ | ⟨h,_⟩ | ⟨h,_⟩ <;> lia
 refine⟨_,rfl,rfl,_,rfl,ite2 (fun h=>absurd (by have:=V.int.inj (of_decide_eq_true h); lia) n9) (fun _=>?_)⟩
 dsimp only [tNext]
 obtain⟨dg,a,W,j,tt,wl,mg,hg,ma,hW,hj,hdr,hbt⟩:=rdy
 refine⟨_,rfl,g,CGoing,dg,_,_,rfl,hg,O.cGoing,O.gp,lgP,_,_,rfl,rfl,dg,_,hg,by show 2<1000; decide,?_⟩
 rw [show putF "place" (.int ((j:Int)+1)) (fG a j)=fG a (j+1) from pgP (q:=j+1)]
 have w1:=w0.onto mg hg ma hW hj hdr hbt
 generalize upd H g (.ins CGoing dg (fG a (j+1)))=H1 at w1
 obtain⟨dw,v,y,n,bd,sz,hw1,tv,c7,c8,hs⟩:=w1.gh.ok bw _ hbw
 rcases mv with⟨rfl,s7,rfl,rfl,rfl⟩ | ⟨rfl,s7,rfl,rfl,rfl⟩ | ⟨hk,rfl,rfl,rfl⟩
 ·refine⟨_,rfl,rfl,_,rfl,ite2 (fun _=>?_) (fun h=>absurd (by decide) h)⟩
  obtain⟨ay,an,rfl,rfl,hty,htn⟩:=c7 s7
  refine⟨_,rfl,o,CWalk,dx,_,_,rfl,w1.ob,O.cWalk,O.kg,lwG,.inl ⟨rfl,_,SqL.of w1.hG⟩,_,rfl,bw,CWord,dw,_,_,rfl,hw1,O.cWord,O.wy,ldY,fun gg dg hg hdg ne=>⟨gg,dg,ay,rfl,mk_at,⟨rfl,G,gs0++[.ref g],_,rfl,rfl,?_,?_,?_⟩⟩⟩
  ·rw [updU]
   exact mk_same (C:=CGoing) (fs:=fG ay 0) hg hdg ne _ _ w1.hG
  ·exact smallM' (by simp only [List.length_append,List.length_singleton]; lia)
  rw [updU,← (show mkO H1 gg dg CGoing (fG ay 0)=upd (upd H1 dg (.own gg)) gg (.ins CGoing dg (fG ay 0)) from rfl)]
  obtain⟨k1,k2,k3⟩:=w1.newG hty (bx'.2 _ (by simp)) hg hdg ne
  exact q _ _ ⟨dx,G,S,N,_,rows,k1.push k2 k3⟩
 ·refine⟨_,rfl,rfl,_,rfl,ite2 (fun h=>absurd h (by decide)) (fun _=>?_)⟩
  refine⟨_,rfl,rfl,_,rfl,ite2 (fun _=>?_) (fun h=>absurd (by decide) h)⟩
  obtain⟨ay,an,rfl,rfl,hty,htn⟩:=c7 s7
  refine⟨_,rfl,o,CWalk,dx,_,_,rfl,w1.ob,O.cWalk,O.kg,lwG,.inl ⟨rfl,_,SqL.of w1.hG⟩,_,rfl,bw,CWord,dw,_,_,rfl,hw1,O.cWord,O.wn,ldN,fun gg dg hg hdg ne=>⟨gg,dg,an,rfl,mk_at,⟨rfl,G,gs0++[.ref g],_,rfl,rfl,?_,?_,?_⟩⟩⟩
  ·rw [updU]
   exact mk_same (C:=CGoing) (fs:=fG an 0) hg hdg ne _ _ w1.hG
  ·exact smallM' (by simp only [List.length_append,List.length_singleton]; lia)
  rw [updU,← (show mkO H1 gg dg CGoing (fG an 0)=upd (upd H1 dg (.own gg)) gg (.ins CGoing dg (fG an 0)) from rfl)]
  obtain⟨k1,k2,k3⟩:=w1.newG htn (bx'.2 _ (by simp)) hg hdg ne
  exact q _ _ ⟨dx,G,S,N,_,rows,k1.push k2 k3⟩
 ·refine⟨_,rfl,rfl,_,rfl,ite2 (fun h=>absurd (show k=7 by have:=V.int.inj (of_decide_eq_true h); lia) (by lia)) (fun _=>?_)⟩
  refine⟨_,rfl,rfl,_,rfl,ite2 (fun h=>absurd (show k=8 by have:=V.int.inj (of_decide_eq_true h); lia) (by lia)) (fun _=>?_)⟩
  exact⟨_,rfl,_,rfl,bw,CWord,dw,_,_,rfl,hw1,O.cWord,O.wl,ldL,_,rfl,o,CWalk,dx,_,_,rfl,w1.ob,O.cWalk,O.ks,lwS,k,v,S,loadT w',sp,rows,M,H₀,rfl,w1.gh,w1.mS,w1.hS,w1.sts,tv,hlk,hb,hkl,fun M' H' rows' G' hS' hr'=>q M' H' ⟨dx,G,S,N,_,rows',w1.setS G' hS' hr'⟩⟩
end
end Sw75
namespace Sw75
open PySem PySem.Spec PyProof.Rows L2 Sw
section
variable {P:Program}{w:World}{K:PySem.W.Frag}{mg:Str→Option Value}{base:Heap}{f:Addr}{fd:FuncData}{CFronted CLater CWord CText CGoing CWalk:Addr}
theorem ok_Walk_step (O:Own K CFronted CLater CWord CText CGoing CWalk) (m_len:mg "len"=none) {u_SHUT:Value} (m_SHUT:mg "SHUT"=some u_SHUT) (r_SHUT:RelV (.int 12) u_SHUT) {u_TWIN:Value} (m_TWIN:mg "TWIN"=some u_TWIN) (r_TWIN:RelV (.int 2) u_TWIN) {u_COPIED:Value} (m_COPIED:mg "COPIED"=some u_COPIED) (r_COPIED:RelV (.int 13) u_COPIED) {a_LOOKS:Addr} (m_LOOKS:mg "LOOKS"=some (.ref a_LOOKS)) (q_LOOKS:∀ H,SqT K H a_LOOKS [.int 0,.int 1,.int 1,.int 2,.int 2,.int 1,.int 3,.int 1,.int 1,.int 1,.int 1,.int 0,.int 0])
  {a_place_of:Addr}{d_place_of:FuncData} (F_place_of:Fun K "place_of" "place_of" s_place_of a_place_of d_place_of) (G_place_of:FnOk P w K mg base CX0 37 a_place_of d_place_of ["sort","top"] (spPlace K CFronted CLater CWord CText)) (b_place_of:Binds K d_place_of ["sort","top"] []) (m_place_of:mg "place_of"=some (.ref a_place_of))
  {a_parts_within:Addr}{d_parts_within:FuncData} (F_parts_within:Fun K "parts_within" "parts_within" s_parts_within a_parts_within d_parts_within) (G_parts_within:FnOk P w K mg base CX0 37 a_parts_within d_parts_within ["row","most"] (spPartsW K CFronted CLater CWord CText)) (b_parts_within:Binds K d_parts_within ["row","most"] []) (m_parts_within:mg "parts_within"=some (.ref a_parts_within))
  {a_Text_word_at:Addr}{d_Text_word_at:FuncData} (M_Text_word_at:Meth K CText "word_at" a_Text_word_at) (G_Text_word_at:FnOk P w K mg base CX0 37 a_Text_word_at d_Text_word_at ["self","place"] (spWordAt K CFronted CLater CWord CText)) (b_Text_word_at:Binds K d_Text_word_at ["self","place"] [])
  {a_Walk_top:Addr}{d_Walk_top:FuncData} (M_Walk_top:Meth K CWalk "top" a_Walk_top) (G_Walk_top:FnOk P w K mg base CX0 37 a_Walk_top d_Walk_top ["self"] (spTop K CFronted CLater CWord CText CGoing CWalk)) (b_Walk_top:Binds K d_Walk_top ["self"] [])
  {a_Walk_move:Addr}{d_Walk_move:FuncData} (M_Walk_move:Meth K CWalk "move" a_Walk_move) (G_Walk_move:FnOk P w K mg base CX0 37 a_Walk_move d_Walk_move ["self","step","going","word"] (spMove K CFronted CLater CWord CText CGoing CWalk)) (b_Walk_move:Binds K d_Walk_move ["self","step","going","word"] [])
  (F:Fun K "step" "Walk.step" s_Walk_step f fd):FnOk P w K mg base CX0 38 f fd ["self"] (spStepW K CFronted CLater CWord CText CGoing CWalk):=by
 refine okQ F sc_Walk_step (fun vs H Q E h=>?_) (fun cdv A outer s H vs Q E hr h=>?_)
 ·obtain⟨o,M,H₀,tx,sk,num,b,rfl,_⟩:=h
  rfl
 obtain⟨o,M,H₀,tx,sk,num,b,rfl,w0,hne,bx,bs,hnx,qf,qt⟩:=h
 refine⟨_,(qss_cons (qs_set (i:=1) sc_Walk_step.nd rfl (Or.inl rfl) (qe_ix ix_list (qe_fld (qv 0) rfl) (qe_un un_neg qe_int) (fun _ _=>rfl)))
   (qss_cons (qs_set (i:=2) sc_Walk_step.nd rfl (Or.inl rfl) (qe_meth (qe_fld (qv 1) rfl) O.cText M_Text_word_at G_Text_word_at hr b_Text_word_at .nil pass0 (qa_cons (qe_fld (qv 1) rfl) qa_nil)))
   (qss_cons (qs_set (i:=3) sc_Walk_step.nd rfl (Or.inl rfl) (qe_ifExp (qt_cmpR op_isN (qv 2) qe_non (nomark _)) (qe_glob (v:=.int 12) rfl m_SHUT r_SHUT) (qe_call G_place_of hr rfl m_place_of F_place_of.kp b_place_of .nil pass0 (qa_cons (qe_fld (qv 2) rfl) (qa_cons (qe_meth0 (qv 0) O.cWalk M_Walk_top G_Walk_top hr b_Walk_top .nil pass0) qa_nil)))))
   (qss_cons (qs_set (i:=4) sc_Walk_step.nd rfl (Or.inl rfl) (qe_ifExp (qt_cmpR op_eq (qv 3) (qe_glob (v:=.int 2) rfl m_TWIN r_TWIN) (nomark _)) (qe_call G_parts_within hr rfl m_parts_within F_parts_within.kp b_parts_within .nil pass0 (qa_cons (qe_meth0 (qv 0) O.cWalk M_Walk_top G_Walk_top hr b_Walk_top .nil pass0) (qa_cons (qe_fld (qv 0) rfl) qa_nil))) qe_int))
   (qss_cons (qs_if (qt_cmpR op_gt (qv 4) (qe_fld (qv 0) rfl) (nomark _)) (qss_one (qs_ret qe_bl)) qss_nil)
   (qss_cons (qs_fldaug (qv 0) (qv 4) in_sub)
   (qss_cons (qs_augS (qe_fld (qv 0) rfl) (qv 3) get_list qe_int ip_add set_list)
   (qss_cons (qs_if (qt_cmpR op_eq (qv 3) (qe_glob (v:=.int 2) rfl m_TWIN r_TWIN) (nomark _)) (qss_one (qs_augS (qe_fld (qv 0) rfl) (qe_glob (v:=.int 13) rfl m_COPIED r_COPIED) get_list (qv 4) ip_add set_list)) qss_nil)
   (qss_cons (qs_while PassesOwn.never (qt_cmpR op_lt (qe_callB call_len_seq rfl m_len bt_len (qa_cons (qe_fld (qv 0) rfl) qa_nil)) (qe_ix ix_tup (qe_glob (v:=.ref a_LOOKS) rfl m_LOOKS rfl) (qv 3) (fun _ _=>rfl)) (nomark _)) (qss_one (qs_expr (qe_bm PySem.F.plainAttrs_list PySem.F.slot_list_insert PySem.F.type_list_insert mt_insert0 (qe_fld (qv 0) rfl) (qa_cons qe_int (qa_cons (qe_tup qa_nil) qa_nil))))))
   (qss_cons (qs_expr (qe_meth (qv 0) O.cWalk M_Walk_move G_Walk_move hr b_Walk_move .nil pass0 (qa_cons (qv 3) (qa_cons (qv 1) (qa_cons (qv 2) qa_nil)))))
   (qss_one (qs_ret qe_bl)))))))))))),?_⟩
 obtain⟨dx,G,S,N,gs,rows,w0⟩:=w0
 obtain⟨p,rest,rfl⟩:∃ p rest,tx=p::rest:=by
  cases tx with
  | nil=>exact absurd rfl hne
  | cons p rest=>exact⟨p,rest,rfl⟩
 have hgo:=w0.gos
 rw [List.reverse_cons] at hgo
 obtain⟨gs0,y,rfl,hg0,hgp⟩:=All2.snoc hgo
 obtain⟨g,dg,a,W,j,tt,rfl,mg,hg,ma,hjk,⟨wl,hW,hjw⟩,rfl,hbt⟩:=hgp
 have h12:=step_le (tx:=T.node (tt.kids.drop j)::rest) (s:=sk)
 have htl:tt.kids.length≤8000000:=by
  have h1:=hbt.2
  have h2:=T.parts_kids tt
  have h3:=T.len_le_parts tt.kids
  lia
 have hsp:T.partsL sk≤7999999:=by
  have h1:=bs.2
  rw [T.parts_node] at h1
  lia
 have hsl:=T.len_le_parts sk
 have hrl0:rest.length+1≤8000000:=bx.1
 have bt0:=B_ats bs 0
 refine setQ (fun v=>[some (.ref o),some v,none,none,none]) (fun _=>rfl) (fun v H'=>v=.ref g∧H'=H) (fun R r=>⟨_,rfl,o,CWalk,dx,_,_,rfl,w0.ob,O.cWalk,O.kg,lwG,1,rfl,G,_,_,_,rfl,rfl,SqL.of w0.hG,at_last,r _ _ ⟨rfl,rfl⟩⟩) (fun v1 H1 h1=>?_)
 obtain⟨rfl,rfl⟩:=h1
 refine setQ (fun v=>[some (.ref o),some (.ref g),some v,none,none]) (fun _=>rfl) (fun v H'=>∃ M',WkX K CFronted CLater CWord CText CGoing CWalk M' H₀ H' o dx G S N (gs0++[.ref g]) rows (T.node (tt.kids.drop j)::rest) sk num b∧((v=.non∧tt.kids.drop j=[])∨∃ w' ws' bw,v=.ref bw∧M' bw=some (.word w')∧Rdy CGoing M' H' g w' ws'∧tt.kids.drop j=w'::ws')) (fun R r=>?_) (fun v2 H2 h2=>?_)
 ·obtain⟨da,va,ha,_,_⟩:=w0.gh.ok a _ ma
  refine⟨_,rfl,g,CGoing,dg,_,_,rfl,hg,O.cGoing,O.gt,lgT,a,da,_,rfl,ha,ltNo (by decide +kernel) (by decide +kernel),_,rfl,g,CGoing,dg,_,_,rfl,hg,O.cGoing,O.gp,lgP,a,tt,W,j,M,H₀,wl,rfl,w0.gh,ma,hW,hjw,hjk,by have:=hbt.1; lia,htl,fun e=>r _ _ ⟨M,w0,.inl ⟨rfl,by rw [e]; exact List.drop_length⟩⟩,fun w' ew bw M' H' G' hb' hl'=>?_⟩
  obtain⟨_,_,_,_,hMW⟩:=w0.gh.ok a _ ma
  obtain⟨wl',e1,e2⟩:=G'.wds W _ wl hMW hW
  exact r _ _ ⟨M',w0.go G',.inr ⟨w',tt.kids.drop (j+1),bw,rfl,hb',⟨dg,a,W,j,tt,wl',G'.ext _ _ mg,(G'.mine g mg id).trans hg,G'.ext _ _ ma,e1,hl' wl' e1,drop_cons ew,hbt⟩,drop_cons ew⟩⟩
 obtain⟨M2,w2,hv⟩:=h2
 refine setQ (fun v=>[some (.ref o),some (.ref g),some v2,some v,none]) (fun _=>rfl) (fun v H'=>v=.int (stepT (T.node (tt.kids.drop j)::rest) sk:Nat)∧Same H2 H') (fun R r=>?_) (fun v3 H3 h3=>?_)
 ·rcases hv with⟨rfl,he⟩ | ⟨w',ws',bw,rfl,hbw,rdy,he⟩
  ·refine⟨_,rfl,rfl,_,rfl,iteT (r _ _ ⟨?_,Same.refl _⟩)⟩
   rw [step_nil (show (ats (T.node (tt.kids.drop j)::rest) 0).kids=[] from he)]
   rfl
  ·obtain⟨dw,v,y,n,bd,sz,hw1,tv,c7,c8,hs⟩:=w2.gh.ok bw _ hbw
   refine⟨_,rfl,rfl,_,rfl,iteF ⟨_,rfl,bw,CWord,dw,_,_,rfl,hw1,O.cWord,O.wk,ldK,_,rfl,o,dx,_,rfl,w2.ob,lwNo (by decide +kernel) (by decide +kernel) (by decide +kernel) (by decide +kernel),o,M2,H₀,_,_,_,_,rfl,⟨dx,G,S,N,_,_,w2⟩,fun x H3 S3 hx=>⟨_,x,ats sk 0,M2,H₀,rfl,w2.gh.grow S3,hx,by have:=bt0.1; lia,fun H4 S4=>r _ _ ⟨?_,S3.trans S4⟩⟩⟩⟩
   rw [step_place (show (T.node (tt.kids.drop j)).kids=w'::ws' from he)]
 obtain⟨rfl,S3⟩:=h3
 have w3:=w2.grow S3
 have hv3:(v2=.non∧tt.kids.drop j=[])∨∃ w' ws' bw,v2=.ref bw∧M2 bw=some (.word w')∧Rdy CGoing M2 H3 g w' ws'∧tt.kids.drop j=w'::ws':=by
  rcases hv with hv | ⟨w',ws',bw,e1,e2,e3,e4⟩
  ·exact .inl hv
  ·exact .inr ⟨w',ws',bw,e1,e2,e3.go (.grow w2.gh S3:Go K CFronted CLater CWord CText (fun _=>False) M2 M2 H₀ H2 H3) id w2.gh,e4⟩
 refine setQ (fun v=>[some (.ref o),some (.ref g),some v2,some (.int (stepT (T.node (tt.kids.drop j)::rest) sk:Nat)),some v]) (fun _=>rfl) (fun v H'=>Same H3 H'∧∃ c:Nat,v=.int (c:Int)∧(costT (T.node (tt.kids.drop j)::rest) sk≤b→c=costT (T.node (tt.kids.drop j)::rest) sk)∧(b<costT (T.node (tt.kids.drop j)::rest) sk→b<c)) (fun R r=>?_) (fun v4 H4 h4=>?_)
 ·refine⟨_,rfl,rfl,_,rfl,ite2 (fun h=>?_) (fun h=>?_)⟩
  ·have h2:stepT (T.node (tt.kids.drop j)::rest) sk=2:=by have:=V.int.inj (of_decide_eq_true h); lia
   have hc:costT (T.node (tt.kids.drop j)::rest) sk=(ats sk 0).parts:=by unfold costT; rw [if_pos h2]
   refine⟨_,rfl,o,dx,_,rfl,w3.ob,lwNo (by decide +kernel) (by decide +kernel) (by decide +kernel) (by decide +kernel),o,M2,H₀,_,_,_,_,rfl,⟨dx,G,S,N,_,_,w3⟩,fun x H4 S4 hx=>⟨_,rfl,o,CWalk,dx,_,_,rfl,(w3.grow S4).ob,O.cWalk,O.kl,lwL,x,ats sk 0,M2,H₀,b,rfl,w3.gh.grow S4,hx,by have:=bt0.2; lia,fun c H5 S5 c1 c2=>r _ _ ⟨S4.trans S5,c,rfl,by rw [hc]; exact c1,by rw [hc]; exact c2⟩⟩⟩
  ·have h2:¬ stepT (T.node (tt.kids.drop j)::rest) sk=2:=fun z=>h (decide_eq_true (by rw [z]; rfl))
   have hc:costT (T.node (tt.kids.drop j)::rest) sk=1:=by unfold costT; rw [if_neg h2]
   exact r _ _ ⟨Same.refl _,1,rfl,fun _=>hc.symm,fun z=>by rw [hc] at z; exact z⟩
 obtain⟨S4,c,rfl,c1,c2⟩:=h4
 have w4:=w3.grow S4
 have hv4:(v2=.non∧tt.kids.drop j=[])∨∃ w' ws' bw,v2=.ref bw∧M2 bw=some (.word w')∧Rdy CGoing M2 H4 g w' ws'∧tt.kids.drop j=w'::ws':=by
  rcases hv3 with hv | ⟨w',ws',bw,e1,e2,e3,e4⟩
  ·exact .inl hv
  ·exact .inr ⟨w',ws',bw,e1,e2,e3.go (.grow w3.gh S4:Go K CFronted CLater CWord CText (fun _=>False) M2 M2 H₀ H3 H4) id w3.gh,e4⟩
 refine⟨_,rfl,_,rfl,o,CWalk,dx,_,_,rfl,w4.ob,O.cWalk,O.kl,lwL,_,_,rfl,rfl,_,rfl,ite2 (fun h=>?_) (fun h=>?_)⟩
 ·have hbc:b<c:=by have:=of_decide_eq_true h; lia
  have hb:b<costT (T.node (tt.kids.drop j)::rest) sk:=by
   rcases Nat.lt_or_ge b (costT (T.node (tt.kids.drop j)::rest) sk) with z | z
   ·exact z
   ·have:=c1 z; lia
  exact qf hb M2 H4 ⟨dx,G,S,N,_,_,w4⟩
 have hcb:c≤b:=by
  have:¬ ((b:Int)<(c:Int)):=fun z=>h (decide_eq_true z)
  lia
 have hcost:costT (T.node (tt.kids.drop j)::rest) sk≤b:=by
  rcases Nat.lt_or_ge b (costT (T.node (tt.kids.drop j)::rest) sk) with z | z
  ·have:=c2 z; lia
  ·exact z
 have hc:=c1 hcost
 obtain⟨bx2,bs2⟩:=hnx hcost
 have q:=qt hcost
 have gtop:∀ {Ma:Mp}{Ha:Hp}{num':List Nat}{rows':List V}{s':List T}{b':Nat},WkX K CFronted CLater CWord CText CGoing CWalk Ma H₀ Ha o dx G S N (gs0++[.ref g]) rows' (T.node (tt.kids.drop j)::rest) s' num' b'→GoAt CGoing Ma Ha (T.node (tt.kids.drop j)) (.ref g):=fun wa=>by
  have hgo:=wa.gos
  rw [List.reverse_cons] at hgo
  obtain⟨gs1,y,e1,_,hy⟩:=All2.snoc hgo
  have:=(List.append_inj' e1 rfl).2
  cases this
  exact hy
 dsimp only [tNext]
 refine⟨_,rfl,o,CWalk,dx,_,_,rfl,w4.ob,O.cWalk,O.kl,lwL,_,rfl,_,_,rfl,rfl,dx,_,w4.ob,by show 4<1000; decide,?_⟩
 rw [show (V.int ((b:Int) - (c:Int)):V)=.int ((b - c:Nat):Int) by congr 1; lia,pwL]
 have w5:=w4.setL (b - c)
 have G5:Go K CFronted CLater CWord CText (fun a=>a=o) M2 M2 H₀ H4 (upd H4 o (.ins CWalk dx (fW G S N (b - c)))):=Go.mutX (.refl w4.gh) w4.mo rfl (Kt.ins w4.ob)
 have ngo:¬ g=o:=by
  obtain⟨g',_,_,_,_,_,e,_,h2,_⟩:=gtop w4
  cases e
  intro z
  rw [z,w4.ob] at h2
  have h3:=(HO.ins.inj (Option.some.inj h2)).2.2
  exact absurd (congrArg List.length h3) (by simp [fG,fW])
 have hv5:(v2=.non∧tt.kids.drop j=[])∨∃ w' ws' bw,v2=.ref bw∧M2 bw=some (.word w')∧Rdy CGoing M2 (upd H4 o (.ins CWalk dx (fW G S N (b - c)))) g w' ws'∧tt.kids.drop j=w'::ws':=by
  rcases hv4 with hv | ⟨w',ws',bw,e1,e2,e3,e4⟩
  ·exact .inl hv
  ·exact .inr ⟨w',ws',bw,e1,e2,e3.go G5 ngo w4.gh,e4⟩
 generalize upd H4 o (.ins CWalk dx (fW G S N (b - c)))=H5 at w5 hv5
 have mgg:M2 g=some .mine:=by
  obtain⟨g',_,_,_,_,_,e,h2,_⟩:=gtop w4
  cases e
  exact h2
 have gnl:∀ {Ha:Hp}{num':List Nat}{rows':List V}{s':List T}{b':Nat}{q:Addr}{l:List V},WkX K CFronted CLater CWord CText CGoing CWalk M2 H₀ Ha o dx G S N (gs0++[.ref g]) rows' (T.node (tt.kids.drop j)::rest) s' num' b'→Ha q=some (.lst l)→¬ g=q:=fun wa hq z=>by
  obtain⟨g',_,_,_,_,_,e,_,h2,_⟩:=gtop wa
  cases e
  rw [z,hq] at h2
  cases h2
 generalize hK:stepT (T.node (tt.kids.drop j)::rest) sk=k at *
 refine⟨_,rfl,o,CWalk,dx,_,_,rfl,w5.ob,O.cWalk,O.kn,lwN,_,rfl,N,_,_,_,rfl,rfl,SqL.of w5.hN,at_nv (k:=k) w5.n15 (by lia),_,_,rfl,rfl,N,_,_,k,rfl,rfl,w5.hN,ixN_nat (j:=k) (by rw [List.length_map,w5.n15]; lia),?_⟩
 rw [show (V.int ((num.getD k 0:Int)+1):V)=V.int ((num.getD k 0:Int)+((1:Nat):Int)) from rfl,setN_eq]
 have w6:=w5.setN (num':=num.set k (num.getD k 0+1)) (by rw [List.length_set]; exact w5.n15)
 have G6:Go K CFronted CLater CWord CText (fun a=>a=N) M2 M2 H₀ H5 (upd H5 N (.lst ((num.set k (num.getD k 0+1)).map nv))):=.list w5.gh w5.mN w5.hN
 have hv6:(v2=.non∧tt.kids.drop j=[])∨∃ w' ws' bw,v2=.ref bw∧M2 bw=some (.word w')∧Rdy CGoing M2 (upd H5 N (.lst ((num.set k (num.getD k 0+1)).map nv))) g w' ws'∧tt.kids.drop j=w'::ws':=by
  rcases hv5 with hv | ⟨w',ws',bw,e1,e2,e3,e4⟩
  ·exact .inl hv
  ·exact .inr ⟨w',ws',bw,e1,e2,e3.go G6 (gnl w5 w5.hN) w5.gh,e4⟩
 generalize upd H5 N (.lst ((num.set k (num.getD k 0+1)).map nv))=H6 at w6 hv6
 dsimp only
 refine ifAll (fun σ' H'=>σ'=[some (.ref o),some (.ref g),some v2,some (.int (k:Int)),some (.int (c:Int))]∧WkX K CFronted CLater CWord CText CGoing CWalk M2 H₀ H' o dx G S N (gs0++[.ref g]) rows (T.node (tt.kids.drop j)::rest) sk (num2 k c num) (b - c)∧((v2=.non∧tt.kids.drop j=[])∨∃ w' ws' bw,v2=.ref bw∧M2 bw=some (.word w')∧Rdy CGoing M2 H' g w' ws'∧tt.kids.drop j=w'::ws')) (fun σ' H7 h7=>?_) (fun A' B' hA hB=>⟨_,rfl,rfl,_,rfl,ite2 (fun h=>hA _ fun N' hN'=>?_) (fun h=>hB _ ⟨rfl,?_,hv6⟩)⟩)
 rotate_left
 ·have h2:k=2:=by have:=V.int.inj (of_decide_eq_true h); lia
  subst h2
  refine⟨_,rfl,o,CWalk,dx,_,_,rfl,w6.ob,O.cWalk,O.kn,lwN,N,_,_,_,rfl,rfl,SqL.of w6.hN,at_nv (k:=13) w6.n15 (by lia),_,rfl,_,_,rfl,rfl,N,_,_,13,rfl,rfl,w6.hN,ixN_nat (j:=13) (by rw [List.length_map,w6.n15]; lia),?_⟩
  rw [setN_eq]
  have w7:=w6.setN (num':=(num.set 2 (num.getD 2 0+1)).set 13 ((num.set 2 (num.getD 2 0+1)).getD 13 0+c)) (by rw [List.length_set]; exact w6.n15)
  have G7:Go K CFronted CLater CWord CText (fun a=>a=N) M2 M2 H₀ H6 (upd H6 N (.lst (((num.set 2 (num.getD 2 0+1)).set 13 ((num.set 2 (num.getD 2 0+1)).getD 13 0+c)).map nv))):=.list w6.gh w6.mN w6.hN
  refine hN' _ _ ⟨rfl,by unfold num2; rw [if_pos rfl]; exact w7,?_⟩
  rcases hv6 with hv | ⟨w',ws',bw,e1,e2,e3,e4⟩
  ·exact .inl hv
  ·exact .inr ⟨w',ws',bw,e1,e2,e3.go G7 (gnl w6 w6.hN) w6.gh,e4⟩
 ·have h2:¬ k=2:=fun z=>h (decide_eq_true (by rw [z]; rfl))
  unfold num2
  rw [if_neg h2]
  exact w6
 obtain⟨rfl,w7,hv7⟩:=h7
 have lk3:=looks_le k
 refine⟨fun μ σ H'=>∃ (i:Nat) (rows':List V),σ=[some (.ref o),some (.ref g),some v2,some (.int (k:Int)),some (.int (c:Int))]∧WkX K CFronted CLater CWord CText CGoing CWalk M2 H₀ H' o dx G S N (gs0++[.ref g]) rows' (T.node (tt.kids.drop j)::rest) (sk++List.replicate i leaf) (num2 k c num) (b - c)∧((v2=.non∧tt.kids.drop j=[])∨∃ w' ws' bw,v2=.ref bw∧M2 bw=some (.word w')∧Rdy CGoing M2 H' g w' ws'∧tt.kids.drop j=w'::ws')∧sk.length+i≤max (looks k) sk.length∧μ=3 - i,⟨_,0,rows,rfl,by rw [List.replicate_zero,List.append_nil]; exact w7,hv7,by lia,rfl⟩,?_⟩
 rintro μ σ H8 ⟨i,rows',rfl,w8,hv8,hi,rfl⟩
 have hrl:=w8.sts.length
 rw [List.length_reverse,List.length_append,List.length_replicate] at hrl
 refine⟨_,rfl,o,CWalk,dx,_,_,rfl,w8.ob,O.cWalk,O.ks,lwS,S,rows',rfl,.inl (SqL.of w8.hS),_,rfl,a_LOOKS,_,_,_,rfl,rfl,q_LOOKS _,looks_at h12,_,_,rfl,rfl,_,rfl,ite2 (fun h=>?_) (fun h=>?_)⟩
 ·have hlt:rows'.length<looks k:=by have:=of_decide_eq_true h; lia
  refine⟨fun σ' H'=>∃ m',m'<3 - i∧∃ (i:Nat) (rows':List V),σ'=[some (.ref o),some (.ref g),some v2,some (.int (k:Int)),some (.int (c:Int))]∧WkX K CFronted CLater CWord CText CGoing CWalk M2 H₀ H' o dx G S N (gs0++[.ref g]) rows' (T.node (tt.kids.drop j)::rest) (sk++List.replicate i leaf) (num2 k c num) (b - c)∧((v2=.non∧tt.kids.drop j=[])∨∃ w' ws' bw,v2=.ref bw∧M2 bw=some (.word w')∧Rdy CGoing M2 H' g w' ws'∧tt.kids.drop j=w'::ws')∧sk.length+i≤max (looks k) sk.length∧m'=3 - i,fun _ _ h=>h,?_⟩
  refine⟨_,rfl,o,CWalk,dx,_,_,rfl,w8.ob,O.cWalk,O.ks,lwS,.inl ⟨rfl,_,SqL.of w8.hS⟩,Nat.zero_le _,fun p9 g9=>?_⟩
  obtain⟨S9,t9⟩:=tupN (K:=K) (ts:=[]) g9 (TRs_nil.mpr rfl)
  have w9:=w8.grow S9
  have hS9:=w9.hS
  refine⟨S,rows',_,rfl,rfl,hS9,smallM' (by lia),?_⟩
  have Gx:Go K CFronted CLater CWord CText (fun a=>a=S) M2 M2 H₀ (upd H8 p9 (.tup [])) (upd (upd H8 p9 (.tup [])) S (.lst (.ref p9::rows'))):=.list w9.gh w9.mS hS9
  have w10:=w9.setS (s':=sk++List.replicate (i+1) leaf) Gx upd_same (by
   rw [List.replicate_succ',← List.append_assoc,List.reverse_append]
   exact All2.cons (.inl (t9.mono (Kt.lst hS9))) (w9.sts.imp fun _ _ z=>Gx.rv z))
  refine⟨_,?_,i+1,_,rfl,w10,?_,by lia,rfl⟩
  ·lia
  ·rcases hv8 with hv | ⟨w',ws',bw,e1,e2,e3,e4⟩
   ·exact .inl hv
   ·exact .inr ⟨w',ws',bw,e1,e2,(e3.go (.grow w8.gh S9:Go K CFronted CLater CWord CText (fun _=>False) M2 M2 H₀ H8 _) id w8.gh).go Gx (gnl w9 hS9) w9.gh,e4⟩
 have hge:looks k≤rows'.length:=by
  have:¬ ((rows'.length:Int)<((looks k:Nat):Int)):=fun z=>h (decide_eq_true z)
  lia
 have hpad:sk++List.replicate i leaf=pad sk (looks k):=pad_eq hi (by lia)
 rw [hpad] at w8
 have hpl:looks k≤(pad sk (looks k)).length:=pad_len sk (looks k)
 have hB:=(B_pad (looks k) (by lia) (by lia) bs).le (a':=395) (b':=8000010) (by lia) (by lia)
 have hkd:∀ t∈pad sk (looks k),t.kids.length≤8000000:=padKids (kids_le (by lia))
 refine⟨_,rfl,o,dx,_,rfl,w8.ob,lwNo (by decide +kernel) (by decide +kernel) (by decide +kernel) (by decide +kernel),_,rfl,_,rfl,_,rfl,o,dx,G,S,N,gs0,g,rows',_,rest,pad sk (looks k),num2 k c num,b - c,k,v2,M2,H₀,rfl,w8,hpl,hB,hkd,by lia,?_⟩
 rw [← hc] at q
 rcases hv8 with⟨rfl,he⟩ | ⟨w',ws',bw,rfl,hbw,rdy,he⟩
 ·have hk12:k=12:=by rw [← hK]; exact step_nil (show (ats (T.node (tt.kids.drop j)::rest) 0).kids=[] from he)
  refine .inl ⟨hk12,fun M' H' wf=>q M' H' ?_⟩
  have on:=on_nil (s:=sk) (show (ats (T.node (tt.kids.drop j)::rest) 0).kids=[] from he)
  rw [on,ev_step w0.n15 (by rw [hK]; lia),hK,← hc]
  rw [hk12] at wf ⊢
  rw [show pad sk (looks 12)=sk from pad_of (Nat.zero_le _)] at wf
  exact wf
 ·have mv:=mv_on (p:=T.node (tt.kids.drop j)) (rest:=rest) (s:=sk) (num:=num) (congrArg T.node he) w0.n15
  rw [hK,← hc] at mv
  have hlp:(loadT w').parts≤8000000:=by
   have h1:=hbt.2
   have h2:=T.parts_kids tt
   have h3:=T.partsL_take_drop j tt.kids
   rw [he,T.partsL_cons] at h3
   have h4:=load_parts w'
   lia
  exact .inr ⟨w',ws',bw,_,_,_,congrArg T.node he,rfl,hbw,rdy,mv,bx2,hlp,fun M' H' wf=>q M' H' wf⟩
end
end Sw75
namespace Sw75
open PySem PySem.Spec PyProof.Rows L2 Sw
section
variable {P:Program}{w:World}{K:PySem.W.Frag}{mg:Str→Option Value}{base:Heap}{f:Addr}{fd:FuncData}{CFronted CLater CWord CText CGoing CWalk:Addr}
theorem ok_walked (O:Own K CFronted CLater CWord CText CGoing CWalk)
  (m_Walk:mg "Walk"=some (.ref CWalk))
  {a_Walk___init__:Addr}{d_Walk___init__:FuncData} (MK_Walk:Mk K CWalk a_Walk___init__) (G_Walk___init__:FnOk P w K mg base CX0 37 a_Walk___init__ d_Walk___init__ ["self","stand","budget"] (spWkInit K CFronted CLater CWord CText CGoing CWalk)) (b_Walk___init__:Binds K d_Walk___init__ ["self","stand","budget"] [])
  {a_Walk_step:Addr}{d_Walk_step:FuncData} (M_Walk_step:Meth K CWalk "step" a_Walk_step) (G_Walk_step:FnOk P w K mg base CX0 38 a_Walk_step d_Walk_step ["self"] (spStepW K CFronted CLater CWord CText CGoing CWalk)) (b_Walk_step:Binds K d_Walk_step ["self"] [])
  {a_Walk_at_end:Addr}{d_Walk_at_end:FuncData} (M_Walk_at_end:Meth K CWalk "at_end" a_Walk_at_end) (G_Walk_at_end:FnOk P w K mg base CX0 38 a_Walk_at_end d_Walk_at_end ["self"] (spAtEnd K CFronted CLater CWord CText CGoing CWalk)) (b_Walk_at_end:Binds K d_Walk_at_end ["self"] [])
  (F:Fun K "walked" "walked" s_walked f fd):FnOk P w K mg base CX0 39 f fd ["stand","budget"] (spWalked K CFronted CLater CWord CText CGoing CWalk):=by
 refine okQ F sc_walked (fun vs H Q E h=>?_) (fun cdv A outer s H vs Q E hr h=>?_)
 ·obtain⟨x,tx,sk,b,rfl,_⟩:=h
  rfl
 obtain⟨x,tx,sk,b,rfl,hx,hsn,q⟩:=h
 refine⟨_,(qss_cons (qs_set (i:=2) sc_walked.nd rfl (Or.inl rfl) (qe_make MK_Walk G_Walk___init__ hr rfl m_Walk b_Walk___init__ .nil pass0 (qa_cons (qv 0) (qa_cons (qv 1) qa_nil))))
   (qss_cons (qs_while PassesOwn.never (QW.pt (qw_and (qt_not (qt_val (qe_meth0 (qv 2) O.cWalk M_Walk_at_end G_Walk_at_end hr b_Walk_at_end .nil pass0))) (qw_and1 (qt_val (qe_meth0 (qv 2) O.cWalk M_Walk_step G_Walk_step hr b_Walk_step .nil pass0))))) (qss_one qs_pass))
   (qss_one (qs_ret (qv 2))))),?_⟩
 refine setQ (fun v=>[some x,some (.int (b:Int)),some v]) (fun _=>rfl) (fun v H'=>∃ o M,v=.ref o∧Wk K CFronted CLater CWord CText CGoing CWalk M H H' o tx sk zero15 b) (fun R r=>⟨_,rfl,_,rfl,fun o dx ho hd ne=>⟨o,dx,x,tx,sk,b,setM (fun _=>none) o .mine,H,rfl,(Go.made (X:=fun _=>False) (C:=CWalk) (fs:=[]) (Gh.nil H) ho hd ne).gh,setM_same,mk_at,hx.mono (.of (mk_same (C:=CWalk) (fs:=[]) ho hd ne)),hsn.bx,hsn.bs,fun M' H' wf=>⟨rfl,r _ _ ⟨o,M',rfl,wf⟩⟩⟩⟩) (fun v1 H1 h1=>?_)
 obtain⟨o,M1,rfl,w1⟩:=h1
 refine⟨fun μ σ H'=>∃ (M:Mp) (tx' s':List T) (num:List Nat) (b':Nat),σ=[some x,some (.int (b:Int)),some (.ref o)]∧Wk K CFronted CLater CWord CText CGoing CWalk M H H' o tx' s' num b'∧Sane b' tx' s'∧num.length=15∧goT b tx sk=((goT b' tx' s').1,(goT b' tx' s').2.1,addT num (goT b' tx' s').2.2)∧spT b tx sk+b'=b+spT b' tx' s'∧μ=b'+1,⟨_,M1,tx,sk,zero15,b,rfl,w1,hsn,rfl,by rw [addT_zero (go_len _ _ _)],Nat.add_comm _ _,rfl⟩,?_⟩
 rintro μ σ H2 ⟨M,tx',s',num,b',rfl,w2,hs2,hn2,hgo,hsp,rfl⟩
 have stop:(tx'=[]∨b'<costT tx' s')→∀ M' H',Wk K CFronted CLater CWord CText CGoing CWalk M' H H' o tx' s' num b'→Q (.ref o) H':=fun hst M' H' wf=>by
  refine q o M' H' b' ?_
  rw [go_stop hst,sp_stop hst] at *
  rw [hgo]
  show Wk _ _ _ _ _ _ _ _ _ _ _ tx' s' (addT num zero15) b'
  rw [addT_zeroR hn2]
  exact wf
 refine⟨_,rfl,o,?_⟩
 obtain⟨dx,G,S,N,gs,rows,wx⟩:=id w2
 refine⟨dx,_,rfl,wx.ob,lwNo (by decide +kernel) (by decide +kernel) (by decide +kernel) (by decide +kernel),o,M,H,tx',s',num,b',rfl,w2,_,rfl,?_⟩
 by_cases he:tx'=[]
 ·rw [decide_eq_true he]
  refine iteF (iteF ⟨_,rfl,stop (.inl he) M H2 w2⟩)
 rw [decide_eq_false he]
 refine iteT ⟨_,rfl,o,dx,_,rfl,wx.ob,lwNo (by decide +kernel) (by decide +kernel) (by decide +kernel) (by decide +kernel),o,M,H,tx',s',num,b',rfl,w2,he,hs2.bx,hs2.bs,fun hc=>⟨(hs2.next he hc).bx,(hs2.next he hc).bs⟩,fun hc M' H' wf=>⟨_,rfl,iteF ⟨_,rfl,stop (.inr hc) M' H' wf⟩⟩,fun hc M' H' wf=>⟨_,rfl,iteT ?_⟩⟩
 have hcp:=cost_pos tx' s'
 refine⟨fun σ' H''=>σ'=[some x,some (.int (b:Int)),some (.ref o)]∧H''=H',fun σ' H'' h=>⟨b' - costT tx' s'+1,by lia,?_⟩,rfl,rfl⟩
 obtain⟨rfl,rfl⟩:=h
 refine⟨M',_,_,_,_,rfl,wf,hs2.next he hc,addT_len hn2 (ev_len _ _),?_,?_,rfl⟩
 ·rw [hgo,go_step he hc]
  show (_,_,addT num (addT _ _))=(_,_,addT (addT num _) _)
  rw [addT_assoc]
 ·rw [sp_step he hc] at hsp
  lia
end
end Sw75
namespace Sw75
open PySem PySem.Spec PyProof.Rows L2 Sw
section
variable {P:Program}{w:World}{K:PySem.W.Frag}{mg:Str→Option Value}{base:Heap}{f:Addr}{fd:FuncData}{CFronted CLater CWord CText CGoing CWalk:Addr}
theorem ok_begin
  (F:Fun K "begin" "begin" s_begin f fd):FnOk P w K mg base CX0 31 f fd ["text","tree"] (spBegin K):=by
 refine okQ F sc_begin (fun vs H Q E h=>?_) (fun cdv A outer s H vs Q E hr h=>?_)
 ·obtain⟨x,t,y,u,rfl,_⟩:=h
  rfl
 obtain⟨x,t,y,u,rfl,hx,hy,q⟩:=h
 refine⟨_,(qss_one (qs_ret (qe_tup (qa_cons (qe_tup (qa_cons (qv 0) qa_nil)) (qa_cons (qe_tup (qa_cons (qv 1) qa_nil)) qa_nil))))),?_⟩
 refine⟨_,rfl,(by show 1≤sizeLine; decide),fun p1 g1=>⟨_,rfl,(by show 1≤sizeLine; decide),fun p2 g2=>⟨(by show 2≤sizeLine; decide),fun p3 g3=>?_⟩⟩⟩
 obtain⟨S1,t1⟩:=tupN (K:=K) g1 (trs1 hx)
 obtain⟨S2,t2⟩:=tupN (K:=K) g2 (trs1 (hy.mono (.of S1)))
 obtain⟨S3,t3⟩:=tupN (K:=K) g3 (trs2 (t1.mono (.of S2)) t2)
 exact q _ _ (S1.trans (S2.trans S3)) t3
theorem ok_run (O:Own K CFronted CLater CWord CText CGoing CWalk)
  {a_walked:Addr}{d_walked:FuncData} (F_walked:Fun K "walked" "walked" s_walked a_walked d_walked) (G_walked:FnOk P w K mg base CX0 39 a_walked d_walked ["stand","budget"] (spWalked K CFronted CLater CWord CText CGoing CWalk)) (b_walked:Binds K d_walked ["stand","budget"] []) (m_walked:mg "walked"=some (.ref a_walked))
  {a_begin:Addr}{d_begin:FuncData} (F_begin:Fun K "begin" "begin" s_begin a_begin d_begin) (G_begin:FnOk P w K mg base CX0 39 a_begin d_begin ["text","tree"] (spBegin K)) (b_begin:Binds K d_begin ["text","tree"] []) (m_begin:mg "begin"=some (.ref a_begin))
  {a_cost:Addr}{d_cost:FuncData} (F_cost:Fun K "cost" "cost" s_cost a_cost d_cost) (G_cost:FnOk P w K mg base CX0 39 a_cost d_cost ["tally"] (spCost K)) (b_cost:Binds K d_cost ["tally"] []) (m_cost:mg "cost"=some (.ref a_cost))
  {a_as_tree:Addr}{d_as_tree:FuncData} (F_as_tree:Fun K "as_tree" "as_tree" s_as_tree a_as_tree d_as_tree) (G_as_tree:FnOk P w K mg base CX0 39 a_as_tree d_as_tree ["row"] (spAsTree K CFronted CLater CWord CText)) (b_as_tree:Binds K d_as_tree ["row"] []) (m_as_tree:mg "as_tree"=some (.ref a_as_tree))
  {a_Walk_tally:Addr}{d_Walk_tally:FuncData} (M_Walk_tally:Meth K CWalk "tally" a_Walk_tally) (G_Walk_tally:FnOk P w K mg base CX0 39 a_Walk_tally d_Walk_tally ["self"] (spTally K CFronted CLater CWord CText CGoing CWalk)) (b_Walk_tally:Binds K d_Walk_tally ["self"] [])
  {a_Walk_at_end:Addr}{d_Walk_at_end:FuncData} (M_Walk_at_end:Meth K CWalk "at_end" a_Walk_at_end) (G_Walk_at_end:FnOk P w K mg base CX0 39 a_Walk_at_end d_Walk_at_end ["self"] (spAtEnd K CFronted CLater CWord CText CGoing CWalk)) (b_Walk_at_end:Binds K d_Walk_at_end ["self"] [])
  {a_Walk_top:Addr}{d_Walk_top:FuncData} (M_Walk_top:Meth K CWalk "top" a_Walk_top) (G_Walk_top:FnOk P w K mg base CX0 39 a_Walk_top d_Walk_top ["self"] (spTop K CFronted CLater CWord CText CGoing CWalk)) (b_Walk_top:Binds K d_Walk_top ["self"] [])
  (F:Fun K "run" "run" s_run f fd):FnOk P w K mg base CX0 40 f fd ["text","tree","budget"] (spRun K):=by
 refine okQ F sc_run (fun vs H Q E h=>?_) (fun cdv A outer s H vs Q E hr h=>?_)
 ·obtain⟨x,y,t,u,b,rfl,_⟩:=h
  rfl
 obtain⟨x,y,t,u,b,rfl,hx,hy,hsn,q⟩:=h
 refine⟨_,(qss_cons (qs_set (i:=3) sc_run.nd rfl (Or.inl rfl) (qe_call G_walked hr rfl m_walked F_walked.kp b_walked .nil pass0 (qa_cons (qe_call G_begin hr rfl m_begin F_begin.kp b_begin .nil pass0 (qa_cons (qv 0) (qa_cons (qv 1) qa_nil))) (qa_cons (qv 2) qa_nil))))
   (qss_cons (qs_set (i:=4) sc_run.nd rfl (Or.inl rfl) (qe_call G_cost hr rfl m_cost F_cost.kp b_cost .nil pass0 (qa_cons (qe_meth0 (qv 3) O.cWalk M_Walk_tally G_Walk_tally hr b_Walk_tally .nil pass0) qa_nil)))
   (qss_cons (qs_if (qt_val (qe_meth0 (qv 3) O.cWalk M_Walk_at_end G_Walk_at_end hr b_Walk_at_end .nil pass0)) (qss_one (qs_ret (qe_tup (qa_cons qe_str (qa_cons (qe_call G_as_tree hr rfl m_as_tree F_as_tree.kp b_as_tree .nil pass0 (qa_cons (qe_meth0 (qv 3) O.cWalk M_Walk_top G_Walk_top hr b_Walk_top .nil pass0) qa_nil)) (qa_cons (qv 4) qa_nil)))))) qss_nil)
   (qss_one (qs_ret (qe_tup (qa_cons qe_str (qa_cons (qe_tup qa_nil) (qa_cons (qv 4) qa_nil))))))))),?_⟩
 refine setQ (fun v=>[some x,some y,some (.int (b:Int)),some v,none]) (fun _=>rfl) (fun v H'=>∃ o M b' H0,v=.ref o∧Same H H0∧Wk K CFronted CLater CWord CText CGoing CWalk M H0 H' o (goT b [t] [u]).1 (goT b [t] [u]).2.1 (goT b [t] [u]).2.2 b') (fun R r=>⟨_,rfl,_,rfl,x,t,y,u,rfl,hx,hy,fun z H1 S1 tz=>⟨_,rfl,z,[t],[u],b,rfl,tz,hsn,fun o M' H' b' wf=>r _ _ ⟨o,M',b',H1,rfl,S1,wf⟩⟩⟩) (fun v1 H1 h1=>?_)
 obtain⟨o,M1,b1,H0,rfl,S0,w1⟩:=h1
 obtain⟨dx,G,S,N,gs,rows,wx⟩:=id w1
 obtain⟨bl,sl⟩:=Sane.last b [t] [u] hsn
 have go15:=go_len b [t] [u]
 refine setQ (fun v=>[some x,some y,some (.int (b:Int)),some (.ref o),some v]) (fun _=>rfl) (fun v H'=>Same H1 H'∧v=nv (spT b [t] [u])) (fun R r=>⟨_,rfl,o,dx,_,rfl,wx.ob,lwNo (by decide +kernel) (by decide +kernel) (by decide +kernel) (by decide +kernel),o,M1,H0,_,_,_,_,rfl,w1,fun c H2 S2 hc=>⟨c,_,rfl,hc,go15,fun H3 S3=>r _ _ ⟨S2.trans S3,by rw [go_cost]⟩⟩⟩) (fun v2 H2 h2=>?_)
 obtain⟨S2,rfl⟩:=h2
 have w2:=wx.grow S2
 have e1:decide ((goT b [t] [u]).1=[])=true∨decide ((goT b [t] [u]).1=[])=false:=by cases decide ((goT b [t] [u]).1=[]) <;> simp
 refine⟨_,rfl,o,dx,_,rfl,w2.ob,lwNo (by decide +kernel) (by decide +kernel) (by decide +kernel) (by decide +kernel),o,M1,H0,_,_,_,_,rfl,⟨dx,G,S,N,gs,rows,w2⟩,_,rfl,ite2 (fun he=>?_) (fun he=>?_)⟩
 ·have he:=of_decide_eq_true he
  have hp:(ats (goT b [t] [u]).2.1 0).parts≤8000000:=(B_ats sl 0).2
  refine⟨_,rfl,o,dx,_,rfl,w2.ob,lwNo (by decide +kernel) (by decide +kernel) (by decide +kernel) (by decide +kernel),o,M1,H0,_,_,_,_,rfl,⟨dx,G,S,N,gs,rows,w2⟩,fun x3 H3 S3 hx3=>⟨x3,_,M1,H0,rfl,w2.gh.grow S3,hx3,hp,fun y4 H4 S4 t4=>⟨_,rfl,(by show 3≤sizeLine; decide),fun p5 g5=>?_⟩⟩⟩
  have S5:=same_new g5 (.tup [.str (PySem.Str.ofString "told"),y4,nv (spT b [t] [u])])
  refine q p5 y4 _ (S0.trans (wx.gh.same.trans (S2.trans (S3.trans (S4.trans S5))))) (SqT.of (upd_same.trans ?_)) ?_
  ·unfold wordS
   rw [if_pos he]
   rfl
  ·unfold tellT
   rw [if_pos he]
   exact t4.mono (.of S5)
 ·have he:¬ (goT b [t] [u]).1=[]:=fun z=>he (decide_eq_true z)
  refine⟨Nat.zero_le _,fun p4 g4=>⟨_,rfl,(by show 3≤sizeLine; decide),fun p5 g5=>?_⟩⟩
  obtain⟨S4,t4⟩:=tupN (K:=K) (ts:=[]) g4 (TRs_nil.mpr rfl)
  have S5:=same_new g5 (.tup [.str (PySem.Str.ofString "out"),.ref p4,nv (spT b [t] [u])])
  refine q p5 (.ref p4) _ (S0.trans (wx.gh.same.trans (S2.trans (S4.trans S5)))) (SqT.of (upd_same.trans ?_)) ?_
  ·unfold wordS
   rw [if_neg he]
   rfl
  ·unfold tellT
   rw [if_neg he]
   exact t4.mono (.of S5)
end
end Sw75
namespace Sw75
open PySem PySem.Spec PyProof.Rows L2 Sw
section
variable {P:Program}{w:World}{K:PySem.W.Frag}{mg:Str→Option Value}{base:Heap}{f:Addr}{fd:FuncData}
theorem ok_first
  (F:Fun K "first" "first" s_first f fd):FnOk P w K mg base CX0 31 f fd ["tree"] (spFirst K):=by
 refine okQ F sc_first (fun vs H Q E h=>?_) (fun cdv A outer s H vs Q E hr h=>?_)
 ·obtain⟨x,t,rfl,_⟩:=h
  rfl
 obtain⟨x,t,rfl,ht,hd,q⟩:=h
 have hE:=hr.un
 have hE:(A.deeper (envOfC "first" (defScope s_first) s.heap.objs.size f cdv)).units+401<cLine:=by lia
 refine⟨_,(qss_cons (qs_if (qt_cmpR (op_eqTr hE) (qv 0) (qe_tup qa_nil) (nomark _)) (qss_one (qs_ret (qe_tup qa_nil))) qss_nil)
   (qss_one (qs_ret (qe_ix ix_tup (qv 0) qe_int (fun _ _=>rfl))))),?_⟩
 refine⟨_,rfl,Nat.zero_le _,fun p1 g1=>⟨t,leaf,ht.mono (.new g1),leaf_tr upd_same,by lia,_,rfl,ite2 (fun hb=>?_) (fun hb=>?_)⟩⟩
 ·have e:=(T.beq_iff _ _).mp hb
  rw [e] at q
  exact⟨Nat.zero_le _,fun p2 g2=>q _ _ ((same_new g1 _).trans (same_new g2 _)) (leaf_tr upd_same)⟩
 ·cases t with
  | node ts =>
   cases ts with
   | nil=>exact absurd ((T.beq_iff _ _).mpr rfl) hb
   | cons u us=>exact⟨_,rfl,nIxP (ht.mono (.new g1)) 0 rfl (fun z tz=>q _ _ (same_new g1 _) tz)⟩
theorem ok_rest
  (F:Fun K "rest" "rest" s_rest f fd):FnOk P w K mg base CX0 31 f fd ["tree"] (spRest K):=by
 refine okQ F sc_rest (fun vs H Q E h=>?_) (fun cdv A outer s H vs Q E hr h=>?_)
 ·obtain⟨x,t,rfl,_⟩:=h
  rfl
 obtain⟨x,t,rfl,ht,q⟩:=h
 refine⟨_,(qss_one (qs_ret (qe_slice sl_tupA (qv 0) (qo_some qe_int) qo_none))),?_⟩
 cases t with
 | node ts=>exact⟨_,rfl,1,rfl,nFromP ht 1 (fun z H' S tz=>q z H' S tz)⟩
theorem ok_sort_of (m_min:mg "min"=none) (m_len:mg "len"=none) {u_NAMELESS:Value} (m_NAMELESS:mg "NAMELESS"=some u_NAMELESS) (r_NAMELESS:RelV (.int 9) u_NAMELESS)
  {a_first:Addr}{d_first:FuncData} (F_first:Fun K "first" "first" s_first a_first d_first) (G_first:FnOk P w K mg base CX0 31 a_first d_first ["tree"] (spFirst K)) (b_first:Binds K d_first ["tree"] []) (m_first:mg "first"=some (.ref a_first))
  (F:Fun K "sort_of" "sort_of" s_sort_of f fd):FnOk P w K mg base CX0 32 f fd ["word"] (spSortL K):=by
 refine okQ F sc_sort_of (fun vs H Q E h=>?_) (fun cdv A outer s H vs Q E hr h=>?_)
 ·obtain⟨x,t,rfl,_⟩:=h
  rfl
 obtain⟨x,t,rfl,ht,h1,q⟩:=h
 refine⟨_,(qss_one (qs_ret (qe_callB (call_min2 rfl) rfl m_min bt_min (qa_cons (qe_callB call_len_seq rfl m_len bt_len (qa_cons (qe_call G_first hr rfl m_first F_first.kp b_first .nil pass0 (qa_cons (qv 0) qa_nil)) qa_nil)) (qa_cons (qe_glob (v:=.int 9) rfl m_NAMELESS r_NAMELESS) qa_nil))))),?_⟩
 refine⟨_,rfl,x,t,rfl,ht,h1,fun y H1 S1 t1=>?_⟩
 obtain⟨b,ys,rfl,hb',rb⟩:=TR_node.mp (TR_kids t1)
 refine⟨b,ys,rfl,.inr hb',_,_,rfl,?_⟩
 rw [rb.length,show (if (9:Int)<((ats t.kids 0).kids.length:Int) then (9:Int) else ((ats t.kids 0).kids.length:Int))=((sortT t:Nat):Int) by rw [sort_ats]; split <;> lia]
 exact q _ S1
theorem ok_load_of
  {a_rest:Addr}{d_rest:FuncData} (F_rest:Fun K "rest" "rest" s_rest a_rest d_rest) (G_rest:FnOk P w K mg base CX0 31 a_rest d_rest ["tree"] (spRest K)) (b_rest:Binds K d_rest ["tree"] []) (m_rest:mg "rest"=some (.ref a_rest))
  (F:Fun K "load_of" "load_of" s_load_of f fd):FnOk P w K mg base CX0 32 f fd ["word"] (spRest K):=by
 refine okQ F sc_load_of (fun vs H Q E h=>?_) (fun cdv A outer s H vs Q E hr h=>?_)
 ·obtain⟨x,t,rfl,_⟩:=h
  rfl
 obtain⟨x,t,rfl,ht,q⟩:=h
 refine⟨_,(qss_one (qs_ret (qe_call G_rest hr rfl m_rest F_rest.kp b_rest .nil pass0 (qa_cons (qv 0) qa_nil)))),?_⟩
 exact⟨_,rfl,x,t,rfl,ht,fun y H' S ty=>q _ _ S ty⟩
theorem ok_lay
  (F:Fun K "lay" "lay" s_lay f fd):FnOk P w K mg base CX0 31 f fd ["tree"] (spLay K):=by
 refine okQ F sc_lay (fun vs H Q E h=>?_) (fun cdv A outer s H vs Q E hr h=>?_)
 ·obtain⟨x,t,rfl,_⟩:=h
  rfl
 obtain⟨x,t,rfl,ht,h1,h2,q⟩:=h
 refine⟨_,(qss_one (qs_ret (qe_op op_catTA (qe_tup (qa_cons (qe_tup qa_nil) qa_nil)) (qv 0)))),?_⟩
 have hl:=(show B 400 1000000 t from ⟨h1,h2⟩)
 rw [← kids_node t] at hl
 have hl:=hl.len
 refine⟨Nat.zero_le _,fun p1 g1=>⟨(by show 1≤sizeLine; decide),fun p2 g2=>?_⟩⟩
 obtain⟨S1,t1⟩:=tupN (K:=K) (ts:=[]) g1 (TRs_nil.mpr rfl)
 obtain⟨S2,t2⟩:=tupN (K:=K) g2 (trs1 t1)
 exact⟨_,rfl,nCat t2 (TR_kids (ht.mono (.of (S1.trans S2)))) (small (by rw [List.length_singleton]; lia)) (fun z H' S tz=>q _ _ (S1.trans (S2.trans S)) tz)⟩
theorem ok_plain
  (F:Fun K "plain" "plain" s_plain f fd):FnOk P w K mg base CX0 31 f fd ["sort"] (spPlain K):=by
 refine okQ F sc_plain (fun vs H Q E h=>?_) (fun cdv A outer s H vs Q E hr h=>?_)
 ·obtain⟨n,rfl,_⟩:=h
  rfl
 obtain⟨n,rfl,h1,h6,q⟩:=h
 refine⟨_,(qss_one (qs_ret (qe_tup (qa_cons (qe_op op_repTA (qe_tup (qa_cons (qe_tup qa_nil) qa_nil)) (qv 0)) qa_nil)))),?_⟩
 refine⟨Nat.zero_le _,fun p1 g1=>⟨(by show 1≤sizeLine; decide),fun p2 g2=>?_⟩⟩
 obtain⟨S1,t1⟩:=tupN (K:=K) (ts:=[]) g1 (TRs_nil.mpr rfl)
 obtain⟨S2,t2⟩:=tupN (K:=K) g2 (trs1 t1)
 refine⟨_,rfl,nRep n t2 rfl (by lia) (by lia) (by lia) (fun z H' S tz=>⟨(by show 1≤sizeLine; decide),fun p3 g3=>?_⟩)⟩
 obtain⟨S3,t3⟩:=tupN (K:=K) g3 (trs1 tz)
 exact q _ _ (S1.trans (S2.trans (S.trans S3))) t3
theorem ok_fork {u_FORK:Value} (m_FORK:mg "FORK"=some u_FORK) (r_FORK:RelV (.int 7) u_FORK)
  (F:Fun K "fork" "fork" s_fork f fd):FnOk P w K mg base CX0 31 f fd ["yes","no"] (spFork K):=by
 refine okQ F sc_fork (fun vs H Q E h=>?_) (fun cdv A outer s H vs Q E hr h=>?_)
 ·obtain⟨x,t,y,u,rfl,_⟩:=h
  rfl
 obtain⟨x,t,y,u,rfl,ht,hu,⟨h1,h2⟩,⟨h3,h4⟩,q⟩:=h
 refine⟨_,(qss_one (qs_ret (qe_op op_catTA (qe_tup (qa_cons (qe_op op_repTA (qe_tup (qa_cons (qe_tup qa_nil) qa_nil)) (qe_glob (v:=.int 7) rfl m_FORK r_FORK)) (qa_cons (qv 0) qa_nil))) (qv 1)))),?_⟩
 have hl:=(show B 400 1000000 u from ⟨h3,h4⟩)
 rw [← kids_node u] at hl
 have hl:=hl.len
 refine⟨Nat.zero_le _,fun p1 g1=>⟨(by show 1≤sizeLine; decide),fun p2 g2=>?_⟩⟩
 obtain⟨S1,t1⟩:=tupN (K:=K) (ts:=[]) g1 (TRs_nil.mpr rfl)
 obtain⟨S2,t2⟩:=tupN (K:=K) g2 (trs1 t1)
 refine nRepP (k:=7) 7 t2 rfl rfl (by decide) (by decide) (fun z H' S tz=>⟨_,rfl,(by show 2≤sizeLine; decide),fun p3 g3=>?_⟩)
 obtain⟨S3,t3⟩:=tupN (K:=K) g3 (trs2 tz (ht.mono (.of (S1.trans (S2.trans S)))))
 exact⟨_,rfl,nCat t3 (TR_kids (hu.mono (.of (S1.trans (S2.trans (S.trans S3)))))) (smallM (by show 2+_≤_; lia)) (fun z4 H4 S4 t4=>q _ _ (S1.trans (S2.trans (S.trans (S3.trans S4)))) t4)⟩
theorem ok_loop {u_WHILE:Value} (m_WHILE:mg "WHILE"=some u_WHILE) (r_WHILE:RelV (.int 8) u_WHILE)
  (F:Fun K "loop" "loop" s_loop f fd):FnOk P w K mg base CX0 31 f fd ["body"] (spLoop K):=by
 refine okQ F sc_loop (fun vs H Q E h=>?_) (fun cdv A outer s H vs Q E hr h=>?_)
 ·obtain⟨x,t,rfl,_⟩:=h
  rfl
 obtain⟨x,t,rfl,ht,h1,h2,q⟩:=h
 refine⟨_,(qss_one (qs_ret (qe_op op_catTA (qe_tup (qa_cons (qe_op op_repTA (qe_tup (qa_cons (qe_tup qa_nil) qa_nil)) (qe_glob (v:=.int 8) rfl m_WHILE r_WHILE)) qa_nil)) (qv 0)))),?_⟩
 have hl:=(show B 400 1000000 t from ⟨h1,h2⟩)
 rw [← kids_node t] at hl
 have hl:=hl.len
 refine⟨Nat.zero_le _,fun p1 g1=>⟨(by show 1≤sizeLine; decide),fun p2 g2=>?_⟩⟩
 obtain⟨S1,t1⟩:=tupN (K:=K) (ts:=[]) g1 (TRs_nil.mpr rfl)
 obtain⟨S2,t2⟩:=tupN (K:=K) g2 (trs1 t1)
 refine nRepP (k:=8) 8 t2 rfl rfl (by decide) (by decide) (fun z H' S tz=>⟨(by show 1≤sizeLine; decide),fun p3 g3=>?_⟩)
 obtain⟨S3,t3⟩:=tupN (K:=K) g3 (trs1 tz)
 exact⟨_,rfl,nCat t3 (TR_kids (ht.mono (.of (S1.trans (S2.trans (S.trans S3)))))) (small (by show 1+_≤_; lia)) (fun z4 H4 S4 t4=>q _ _ (S1.trans (S2.trans (S.trans (S3.trans S4)))) t4)⟩
theorem ok_parts
  (F:Fun K "parts" "parts" s_parts f fd):FnOk P w K mg base CX0 31 f fd ["tree"] (spPartsM K):=by
 refine okQ F sc_parts (fun vs H Q E h=>?_) (fun cdv A outer s H vs Q E hr h=>?_)
 ·obtain⟨x,t,rfl,_⟩:=h
  rfl
 obtain⟨x,t,rfl,ht,hz,q⟩:=h
 refine⟨_,(qss_cons (qs_set (i:=1) sc_parts.nd rfl (Or.inl rfl) (qe_lst (qa_cons (qv 0) qa_nil)))
   (qss_cons (qs_set (i:=2) sc_parts.nd rfl (Or.inl rfl) qe_int)
   (qss_cons (qs_while PassesOwn.never (qt_truth (qv 1) (fun _=>rfl)) (qss_cons (qs_set (i:=3) sc_parts.nd rfl (Or.inl rfl) (qe_bm0 PySem.F.plainAttrs_list PySem.F.slot_list_pop PySem.F.type_list_pop mt_pop (qv 1)))
   (qss_cons (qs_aug (i:=2) sc_parts.nd rfl (Or.inl rfl) qe_int ip_add)
   (qss_one (qs_expr (qe_bm PySem.F.plainAttrs_list PySem.F.slot_list_extend PySem.F.type_list_extend mt_extT (qv 1) (qa_cons (qv 3) qa_nil)))))))
   (qss_one (qs_ret (qv 2)))))),?_⟩
 refine⟨_,rfl,(by show 1≤sizeLine; decide),fun p hp=>?_⟩
 refine⟨WPartsM K H x t.parts p,⟨_,[x],[t],0,none,rfl,same_new hp _,upd_same,TRs_cons.mpr ⟨x,[],rfl,ht.mono (Kt.new hp),TRs_nil.mpr rfl⟩,by rw [T.partsL_cons,T.partsL_nil]; lia,rfl⟩,?_⟩
 rintro m σ H' ⟨ys,ts,c,o,rfl,S,hl,htr,hc,rfl⟩
 refine⟨_,rfl,!ys.isEmpty,.inl ⟨ys,SqL.of hl,rfl⟩,?_⟩
 refine ite2 (fun hb=>?_) (fun hb=>?_)
 ·have hne:ys≠[]:=by rintro rfl; exact absurd hb (by decide)
  obtain⟨y,hy⟩:=last_of hne
  obtain⟨u,hu,hyu⟩:=htr.get hy
  rw [htr.length] at hu
  obtain⟨a,zs,rfl,h1,h2⟩:=TR_of hyu
  have hpl:=T.partsL_dropLast hu
  refine⟨fun σ' H'=>∃ m',m'<T.partsL ts∧WPartsM K H x t.parts p m' σ' H',fun _ _ h=>h,?_⟩
  refine⟨_,rfl,.inl ⟨rfl,_,SqL.of hl⟩,p,ys,_,rfl,rfl,hl,hy,?_⟩
  refine⟨_,rfl,_,_,rfl,rfl,?_⟩
  have hk:=T.parts_kids u
  have hlen1:=T.len_le_parts ts.dropLast
  have hlen2:=T.len_le_parts u.kids
  have e1:=htr.dropLast.length
  have e2:=h2.length
  refine⟨_,rfl,.inl ⟨rfl,_,SqL.of upd_same⟩,_,rfl,p,a,ys.dropLast,zs,rfl,rfl,upd_same,sqT_mono (Kt.lst hl) h1,smallM (by lia),?_⟩
  refine⟨_,?_,ys.dropLast++zs,ts.dropLast++u.kids,c+1,_,rfl,?_,upd_same,?_,?_,rfl⟩
  ·rw [T.partsL_append]
   lia
  ·rw [upd_upd]
   exact same_upd S hp
  ·rw [upd_upd]
   exact (htr.dropLast.append h2).mono (Kt.lst hl)
  ·rw [T.partsL_append]
   lia
 ·have hys:ys=[]:=by
   cases ys with
   | nil=>rfl
   | cons _ _=>exact absurd rfl hb
  subst hys
  have hts:ts=[]:=List.length_eq_zero_iff.mp htr.length.symm
  subst hts
  rw [T.partsL_nil] at hc
  refine⟨_,rfl,?_⟩
  have:(c:Int)=(t.parts:Int):=by lia
  rw [this]
  exact q _ S
theorem ok_cost (m_sum:mg "sum"=none) {u_COPIED:Value} (m_COPIED:mg "COPIED"=some u_COPIED) (r_COPIED:RelV (.int 13) u_COPIED) {u_TWIN:Value} (m_TWIN:mg "TWIN"=some u_TWIN) (r_TWIN:RelV (.int 2) u_TWIN)
  (F:Fun K "cost" "cost" s_cost f fd):FnOk P w K mg base CX0 31 f fd ["tally"] (spCost K):=by
 refine okQ F sc_cost (fun vs H Q E h=>?_) (fun cdv A outer s H vs Q E hr h=>?_)
 ·obtain⟨a,ns,rfl,_⟩:=h
  rfl
 obtain⟨a,ns,rfl,ha,hn,q⟩:=h
 refine⟨_,(qss_one (qs_ret (qe_op op_add (qe_op op_sub (qe_callB (call_sumT rfl) rfl m_sum bt_sum (qa_cons (qe_slice sl_tupA (qv 0) qo_none (qo_some (qe_glob (v:=.int 13) rfl m_COPIED r_COPIED))) qa_nil)) (qe_ix ix_tup (qv 0) (qe_glob (v:=.int 2) rfl m_TWIN r_TWIN) (fun _ _=>rfl))) (qe_ix ix_tup (qv 0) (qe_glob (v:=.int 13) rfl m_COPIED r_COPIED) (fun _ _=>rfl))))),?_⟩
 refine⟨_,rfl,13,rfl,a,_,rfl,ha,fun p H1 S1 h1=>?_⟩
 rw [show (some (13:Int))=some ((13:Nat):Int) from rfl,cut_to,nv_take] at h1
 have ha1:=sqT_mono (.of S1) ha
 refine⟨p,_,rfl,h1,_,rfl,a,_,_,_,rfl,rfl,ha1,nv_at (k:=2) (by lia),_,_,rfl,rfl,_,rfl,a,_,_,_,rfl,rfl,ha1,nv_at (k:=13) (by lia),_,_,rfl,rfl,q _ S1⟩
end
end Sw75
namespace Sw75
open PySem PySem.Spec PyProof.Rows L2 Sw
theorem all_mk {l:PySem.W.OpenLaw}{w:World}{K:PySem.W.Frag}{h:Heap}{mg:Str→Option Value}{fa f1 f2 f3 f4 f5 f6 f7 f8 f9 f10 f11 f12 f13 f14 f15 f16 f17 f18 f19 f20 f21 f22 f23 f24 f25 f26 f27 f28 f29 f30 f31 f32 f33 f34 f35 f36 f37 f38 f39 f40 f41 f42 f43:Addr} (X:K.In h) (G:h.Ns mainGlobals mg) (hfa:mg "law"=some (.ref fa))  {CFronted:Addr}{CLater:Addr}{CWord:Addr}{CText:Addr}{CGoing:Addr}{CWalk:Addr}{f_Fronted___init__:Addr}{od_Fronted___init__ an_Fronted___init__:Option Addr}{sl_Fronted___init__:Array (Option Value)}{oc_Fronted___init__ kV_Fronted___init__ dc_Fronted___init__ pm_Fronted___init__ cd_Fronted___init__ ct_Fronted___init__:Value}{f_Later___init__:Addr}{od_Later___init__ an_Later___init__:Option Addr}{sl_Later___init__:Array (Option Value)}{oc_Later___init__ kV_Later___init__ dc_Later___init__ pm_Later___init__ cd_Later___init__ ct_Later___init__:Value}{f_Word___init__:Addr}{od_Word___init__ an_Word___init__:Option Addr}{sl_Word___init__:Array (Option Value)}{oc_Word___init__ kV_Word___init__ dc_Word___init__ pm_Word___init__ cd_Word___init__ ct_Word___init__:Value}{f_Word_body_parts:Addr}{od_Word_body_parts an_Word_body_parts:Option Addr}{sl_Word_body_parts:Array (Option Value)}{oc_Word_body_parts kV_Word_body_parts dc_Word_body_parts pm_Word_body_parts cd_Word_body_parts ct_Word_body_parts:Value}{f_Text___init__:Addr}{od_Text___init__ an_Text___init__:Option Addr}{sl_Text___init__:Array (Option Value)}{oc_Text___init__ kV_Text___init__ dc_Text___init__ pm_Text___init__ cd_Text___init__ ct_Text___init__:Value}{f_Text_word_at:Addr}{od_Text_word_at an_Text_word_at:Option Addr}{sl_Text_word_at:Array (Option Value)}{oc_Text_word_at kV_Text_word_at dc_Text_word_at pm_Text_word_at cd_Text_word_at ct_Text_word_at:Value}{f_Going___init__:Addr}{od_Going___init__ an_Going___init__:Option Addr}{sl_Going___init__:Array (Option Value)}{oc_Going___init__ kV_Going___init__ dc_Going___init__ pm_Going___init__ cd_Going___init__ ct_Going___init__:Value}{f_Walk___init__:Addr}{od_Walk___init__ an_Walk___init__:Option Addr}{sl_Walk___init__:Array (Option Value)}{oc_Walk___init__ kV_Walk___init__ dc_Walk___init__ pm_Walk___init__ cd_Walk___init__ ct_Walk___init__:Value}{f_Walk_at_end:Addr}{od_Walk_at_end an_Walk_at_end:Option Addr}{sl_Walk_at_end:Array (Option Value)}{oc_Walk_at_end kV_Walk_at_end dc_Walk_at_end pm_Walk_at_end cd_Walk_at_end ct_Walk_at_end:Value}{f_Walk_top:Addr}{od_Walk_top an_Walk_top:Option Addr}{sl_Walk_top:Array (Option Value)}{oc_Walk_top kV_Walk_top dc_Walk_top pm_Walk_top cd_Walk_top ct_Walk_top:Value}{f_Walk_tally:Addr}{od_Walk_tally an_Walk_tally:Option Addr}{sl_Walk_tally:Array (Option Value)}{oc_Walk_tally kV_Walk_tally dc_Walk_tally pm_Walk_tally cd_Walk_tally ct_Walk_tally:Value}{f_Walk_step:Addr}{od_Walk_step an_Walk_step:Option Addr}{sl_Walk_step:Array (Option Value)}{oc_Walk_step kV_Walk_step dc_Walk_step pm_Walk_step cd_Walk_step ct_Walk_step:Value}{f_Walk_move:Addr}{od_Walk_move an_Walk_move:Option Addr}{sl_Walk_move:Array (Option Value)}{oc_Walk_move kV_Walk_move dc_Walk_move pm_Walk_move cd_Walk_move ct_Walk_move:Value}{C:Addr}{f___init__:Addr}{od___init__ an___init__:Option Addr}{sl___init__:Array (Option Value)}{oc___init__ kV___init__ dc___init__ pm___init__ cd___init__ ct___init__:Value}{f_take:Addr}{od_take an_take:Option Addr}{sl_take:Array (Option Value)}{oc_take kV_take dc_take pm_take cd_take ct_take:Value}{f_enter:Addr}{od_enter an_enter:Option Addr}{sl_enter:Array (Option Value)}{oc_enter kV_enter dc_enter pm_enter cd_enter ct_enter:Value}{f_leave:Addr}{od_leave an_leave:Option Addr}{sl_leave:Array (Option Value)}{oc_leave kV_leave dc_leave pm_leave cd_leave ct_leave:Value}{f_bracketed:Addr}{od_bracketed an_bracketed:Option Addr}{sl_bracketed:Array (Option Value)}{oc_bracketed kV_bracketed dc_bracketed pm_bracketed cd_bracketed ct_bracketed:Value}{f_add_word:Addr}{od_add_word an_add_word:Option Addr}{sl_add_word:Array (Option Value)}{oc_add_word kV_add_word dc_add_word pm_add_word cd_add_word ct_add_word:Value}{f_whole:Addr}{od_whole an_whole:Option Addr}{sl_whole:Array (Option Value)}{oc_whole kV_whole dc_whole pm_whole cd_whole ct_whole:Value}{u_LAY:Value}{u_DROP:Value}{u_TURN:Value}{u_FORK_NO:Value}{u_FORK_YES:Value}{u_WHILE_PAST:Value}{u_WHILE_INTO:Value}{u_NO_WORD:Value}{u_SWAP:Value}{u_FRONT:Value}{u_PART:Value}{u_PLACES:Value}{u_SHUT:Value}{u_BODIES:Value}{a_LOOKS:Addr}{o_LOOKS:Obj}{a_NAMES:Addr}{o_NAMES:Obj}{u_NAMELESS:Value}{u_FORK:Value}{u_WHILE:Value}{u_COPIED:Value}{u_TWIN:Value}
  {od1 an1 od2 an2 od3 an3 od4 an4 od5 an5 od6 an6 od7 an7 od8 an8 od9 an9 od10 an10 od11 an11 od12 an12 od13 an13 od14 an14 od15 an15 od16 an16 od17 an17 od18 an18 od19 an19 od20 an20 od21 an21 od22 an22 od23 an23 od24 an24 od25 an25 od26 an26 od27 an27 od28 an28 od29 an29 od30 an30 od31 an31 od32 an32 od33 an33 od34 an34 od35 an35 od36 an36 od37 an37 od38 an38 od39 an39 od40 an40 od41 an41 od42 an42 od43 an43:Option Addr}{sl1 sl2 sl3 sl4 sl5 sl6 sl7 sl8 sl9 sl10 sl11 sl12 sl13 sl14 sl15 sl16 sl17 sl18 sl19 sl20 sl21 sl22 sl23 sl24 sl25 sl26 sl27 sl28 sl29 sl30 sl31 sl32 sl33 sl34 sl35 sl36 sl37 sl38 sl39 sl40 sl41 sl42 sl43:Array (Option Value)}{oc1 kV1 dc1 pm1 cd1 ct1 oc2 kV2 dc2 pm2 cd2 ct2 oc3 kV3 dc3 pm3 cd3 ct3 oc4 kV4 dc4 pm4 cd4 ct4 oc5 kV5 dc5 pm5 cd5 ct5 oc6 kV6 dc6 pm6 cd6 ct6 oc7 kV7 dc7 pm7 cd7 ct7 oc8 kV8 dc8 pm8 cd8 ct8 oc9 kV9 dc9 pm9 cd9 ct9 oc10 kV10 dc10 pm10 cd10 ct10 oc11 kV11 dc11 pm11 cd11 ct11 oc12 kV12 dc12 pm12 cd12 ct12 oc13 kV13 dc13 pm13 cd13 ct13 oc14 kV14 dc14 pm14 cd14 ct14 oc15 kV15 dc15 pm15 cd15 ct15 oc16 kV16 dc16 pm16 cd16 ct16 oc17 kV17 dc17 pm17 cd17 ct17 oc18 kV18 dc18 pm18 cd18 ct18 oc19 kV19 dc19 pm19 cd19 ct19 oc20 kV20 dc20 pm20 cd20 ct20 oc21 kV21 dc21 pm21 cd21 ct21 oc22 kV22 dc22 pm22 cd22 ct22 oc23 kV23 dc23 pm23 cd23 ct23 oc24 kV24 dc24 pm24 cd24 ct24 oc25 kV25 dc25 pm25 cd25 ct25 oc26 kV26 dc26 pm26 cd26 ct26 oc27 kV27 dc27 pm27 cd27 ct27 oc28 kV28 dc28 pm28 cd28 ct28 oc29 kV29 dc29 pm29 cd29 ct29 oc30 kV30 dc30 pm30 cd30 ct30 oc31 kV31 dc31 pm31 cd31 ct31 oc32 kV32 dc32 pm32 cd32 ct32 oc33 kV33 dc33 pm33 cd33 ct33 oc34 kV34 dc34 pm34 cd34 ct34 oc35 kV35 dc35 pm35 cd35 ct35 oc36 kV36 dc36 pm36 cd36 ct36 oc37 kV37 dc37 pm37 cd37 ct37 oc38 kV38 dc38 pm38 cd38 ct38 oc39 kV39 dc39 pm39 cd39 ct39 oc40 kV40 dc40 pm40 cd40 ct40 oc41 kV41 dc41 pm41 cd41 ct41 oc42 kV42 dc42 pm42 cd42 ct42 oc43 kV43 dc43 pm43 cd43 ct43:Value}
  (a1:PySem.W.nsIn K mainGlobals "first"=some (some (.ref f1))) (l1:K.lookup f1=some ⟨oc1,od1,.func (PySem.W.fnOf "first" "first" (defArgs s_first) (defBody s_first) (defScope s_first) .none kV1 dc1 pm1 an1 cd1 ct1),sl1⟩) (c1:PySem.W.codeIn K cd1 "first"=true) (k1:PySem.W.keepIn K (.ref f1)=true)
  (a2:PySem.W.nsIn K mainGlobals "rest"=some (some (.ref f2))) (l2:K.lookup f2=some ⟨oc2,od2,.func (PySem.W.fnOf "rest" "rest" (defArgs s_rest) (defBody s_rest) (defScope s_rest) .none kV2 dc2 pm2 an2 cd2 ct2),sl2⟩) (c2:PySem.W.codeIn K cd2 "rest"=true) (k2:PySem.W.keepIn K (.ref f2)=true)
  (a3:PySem.W.nsIn K mainGlobals "parts"=some (some (.ref f3))) (l3:K.lookup f3=some ⟨oc3,od3,.func (PySem.W.fnOf "parts" "parts" (defArgs s_parts) (defBody s_parts) (defScope s_parts) .none kV3 dc3 pm3 an3 cd3 ct3),sl3⟩) (c3:PySem.W.codeIn K cd3 "parts"=true) (k3:PySem.W.keepIn K (.ref f3)=true)
  (a4:PySem.W.nsIn K mainGlobals "sort_of"=some (some (.ref f4))) (l4:K.lookup f4=some ⟨oc4,od4,.func (PySem.W.fnOf "sort_of" "sort_of" (defArgs s_sort_of) (defBody s_sort_of) (defScope s_sort_of) .none kV4 dc4 pm4 an4 cd4 ct4),sl4⟩) (c4:PySem.W.codeIn K cd4 "sort_of"=true) (k4:PySem.W.keepIn K (.ref f4)=true)
  (a5:PySem.W.nsIn K mainGlobals "load_of"=some (some (.ref f5))) (l5:K.lookup f5=some ⟨oc5,od5,.func (PySem.W.fnOf "load_of" "load_of" (defArgs s_load_of) (defBody s_load_of) (defScope s_load_of) .none kV5 dc5 pm5 an5 cd5 ct5),sl5⟩) (c5:PySem.W.codeIn K cd5 "load_of"=true) (k5:PySem.W.keepIn K (.ref f5)=true)
  (a6:PySem.W.nsIn K mainGlobals "lay"=some (some (.ref f6))) (l6:K.lookup f6=some ⟨oc6,od6,.func (PySem.W.fnOf "lay" "lay" (defArgs s_lay) (defBody s_lay) (defScope s_lay) .none kV6 dc6 pm6 an6 cd6 ct6),sl6⟩) (c6:PySem.W.codeIn K cd6 "lay"=true) (k6:PySem.W.keepIn K (.ref f6)=true)
  (a7:PySem.W.nsIn K mainGlobals "plain"=some (some (.ref f7))) (l7:K.lookup f7=some ⟨oc7,od7,.func (PySem.W.fnOf "plain" "plain" (defArgs s_plain) (defBody s_plain) (defScope s_plain) .none kV7 dc7 pm7 an7 cd7 ct7),sl7⟩) (c7:PySem.W.codeIn K cd7 "plain"=true) (k7:PySem.W.keepIn K (.ref f7)=true)
  (a8:PySem.W.nsIn K mainGlobals "fork"=some (some (.ref f8))) (l8:K.lookup f8=some ⟨oc8,od8,.func (PySem.W.fnOf "fork" "fork" (defArgs s_fork) (defBody s_fork) (defScope s_fork) .none kV8 dc8 pm8 an8 cd8 ct8),sl8⟩) (c8:PySem.W.codeIn K cd8 "fork"=true) (k8:PySem.W.keepIn K (.ref f8)=true)
  (a9:PySem.W.nsIn K mainGlobals "loop"=some (some (.ref f9))) (l9:K.lookup f9=some ⟨oc9,od9,.func (PySem.W.fnOf "loop" "loop" (defArgs s_loop) (defBody s_loop) (defScope s_loop) .none kV9 dc9 pm9 an9 cd9 ct9),sl9⟩) (c9:PySem.W.codeIn K cd9 "loop"=true) (k9:PySem.W.keepIn K (.ref f9)=true)
  (a10:PySem.W.nsIn K mainGlobals "plains"=some (some (.ref f10))) (l10:K.lookup f10=some ⟨oc10,od10,.func (PySem.W.fnOf "plains" "plains" (defArgs s_plains) (defBody s_plains) (defScope s_plains) .none kV10 dc10 pm10 an10 cd10 ct10),sl10⟩) (c10:PySem.W.codeIn K cd10 "plains"=true) (k10:PySem.W.keepIn K (.ref f10)=true)
  (a11:PySem.W.nsIn K mainGlobals "begin"=some (some (.ref f11))) (l11:K.lookup f11=some ⟨oc11,od11,.func (PySem.W.fnOf "begin" "begin" (defArgs s_begin) (defBody s_begin) (defScope s_begin) .none kV11 dc11 pm11 an11 cd11 ct11),sl11⟩) (c11:PySem.W.codeIn K cd11 "begin"=true) (k11:PySem.W.keepIn K (.ref f11)=true)
  (a12:PySem.W.nsIn K mainGlobals "place_of"=some (some (.ref f12))) (l12:K.lookup f12=some ⟨oc12,od12,.func (PySem.W.fnOf "place_of" "place_of" (defArgs s_place_of) (defBody s_place_of) (defScope s_place_of) .none kV12 dc12 pm12 an12 cd12 ct12),sl12⟩) (c12:PySem.W.codeIn K cd12 "place_of"=true) (k12:PySem.W.keepIn K (.ref f12)=true)
  (a13:PySem.W.nsIn K mainGlobals "cost"=some (some (.ref f13))) (l13:K.lookup f13=some ⟨oc13,od13,.func (PySem.W.fnOf "cost" "cost" (defArgs s_cost) (defBody s_cost) (defScope s_cost) .none kV13 dc13 pm13 an13 cd13 ct13),sl13⟩) (c13:PySem.W.codeIn K cd13 "cost"=true) (k13:PySem.W.keepIn K (.ref f13)=true)
  (a14:PySem.W.nsIn K mainGlobals "selfmade"=some (some (.ref f14))) (l14:K.lookup f14=some ⟨oc14,od14,.func (PySem.W.fnOf "selfmade" "selfmade" (defArgs s_selfmade) (defBody s_selfmade) (defScope s_selfmade) .none kV14 dc14 pm14 an14 cd14 ct14),sl14⟩) (c14:PySem.W.codeIn K cd14 "selfmade"=true) (k14:PySem.W.keepIn K (.ref f14)=true)
  (a15:PySem.W.nsIn K mainGlobals "selfmaker"=some (some (.ref f15))) (l15:K.lookup f15=some ⟨oc15,od15,.func (PySem.W.fnOf "selfmaker" "selfmaker" (defArgs s_selfmaker) (defBody s_selfmaker) (defScope s_selfmaker) .none kV15 dc15 pm15 an15 cd15 ct15),sl15⟩) (c15:PySem.W.codeIn K cd15 "selfmaker"=true) (k15:PySem.W.keepIn K (.ref f15)=true)
  (a16:PySem.W.nsIn K mainGlobals "lay_made"=some (some (.ref f16))) (l16:K.lookup f16=some ⟨oc16,od16,.func (PySem.W.fnOf "lay_made" "lay_made" (defArgs s_lay_made) (defBody s_lay_made) (defScope s_lay_made) .none kV16 dc16 pm16 an16 cd16 ct16),sl16⟩) (c16:PySem.W.codeIn K cd16 "lay_made"=true) (k16:PySem.W.keepIn K (.ref f16)=true)
  (a17:PySem.W.nsIn K mainGlobals "selfteller"=some (some (.ref f17))) (l17:K.lookup f17=some ⟨oc17,od17,.func (PySem.W.fnOf "selfteller" "selfteller" (defArgs s_selfteller) (defBody s_selfteller) (defScope s_selfteller) .none kV17 dc17 pm17 an17 cd17 ct17),sl17⟩) (c17:PySem.W.codeIn K cd17 "selfteller"=true) (k17:PySem.W.keepIn K (.ref f17)=true)
  (a18:PySem.W.nsIn K mainGlobals "show_tree"=some (some (.ref f18))) (l18:K.lookup f18=some ⟨oc18,od18,.func (PySem.W.fnOf "show_tree" "show_tree" (defArgs s_show_tree) (defBody s_show_tree) (defScope s_show_tree) .none kV18 dc18 pm18 an18 cd18 ct18),sl18⟩) (c18:PySem.W.codeIn K cd18 "show_tree"=true) (k18:PySem.W.keepIn K (.ref f18)=true)
  (a19:PySem.W.nsIn K mainGlobals "read_tree"=some (some (.ref f19))) (l19:K.lookup f19=some ⟨oc19,od19,.func (PySem.W.fnOf "read_tree" "read_tree" (defArgs s_read_tree) (defBody s_read_tree) (defScope s_read_tree) .none kV19 dc19 pm19 an19 cd19 ct19),sl19⟩) (c19:PySem.W.codeIn K cd19 "read_tree"=true) (k19:PySem.W.keepIn K (.ref f19)=true)
  (a20:PySem.W.nsIn K mainGlobals "show"=some (some (.ref f20))) (l20:K.lookup f20=some ⟨oc20,od20,.func (PySem.W.fnOf "show" "show" (defArgs s_show) (defBody s_show) (defScope s_show) .none kV20 dc20 pm20 an20 cd20 ct20),sl20⟩) (c20:PySem.W.codeIn K cd20 "show"=true) (k20:PySem.W.keepIn K (.ref f20)=true)
  (a21:PySem.W.nsIn K mainGlobals "spelled"=some (some (.ref f21))) (l21:K.lookup f21=some ⟨oc21,od21,.func (PySem.W.fnOf "spelled" "spelled" (defArgs s_spelled) (defBody s_spelled) (defScope s_spelled) .none kV21 dc21 pm21 an21 cd21 ct21),sl21⟩) (c21:PySem.W.codeIn K cd21 "spelled"=true) (k21:PySem.W.keepIn K (.ref f21)=true)
  (a22:PySem.W.nsIn K mainGlobals "odd"=some (some (.ref f22))) (l22:K.lookup f22=some ⟨oc22,od22,.func (PySem.W.fnOf "odd" "odd" (defArgs s_odd) (defBody s_odd) (defScope s_odd) .none kV22 dc22 pm22 an22 cd22 ct22),sl22⟩) (c22:PySem.W.codeIn K cd22 "odd"=true) (k22:PySem.W.keepIn K (.ref f22)=true)
  (a23:PySem.W.nsIn K mainGlobals "read"=some (some (.ref f23))) (l23:K.lookup f23=some ⟨oc23,od23,.func (PySem.W.fnOf "read" "read" (defArgs s_read) (defBody s_read) (defScope s_read) .none kV23 dc23 pm23 an23 cd23 ct23),sl23⟩) (c23:PySem.W.codeIn K cd23 "read"=true) (k23:PySem.W.keepIn K (.ref f23)=true)
  (a24:PySem.W.nsIn K mainGlobals "pieces_of"=some (some (.ref f24))) (l24:K.lookup f24=some ⟨oc24,od24,.func (PySem.W.fnOf "pieces_of" "pieces_of" (defArgs s_pieces_of) (defBody s_pieces_of) (defScope s_pieces_of) .none kV24 dc24 pm24 an24 cd24 ct24),sl24⟩) (c24:PySem.W.codeIn K cd24 "pieces_of"=true) (k24:PySem.W.keepIn K (.ref f24)=true)
  (a25:PySem.W.nsIn K mainGlobals "word_of"=some (some (.ref f25))) (l25:K.lookup f25=some ⟨oc25,od25,.func (PySem.W.fnOf "word_of" "word_of" (defArgs s_word_of) (defBody s_word_of) (defScope s_word_of) .none kV25 dc25 pm25 an25 cd25 ct25),sl25⟩) (c25:PySem.W.codeIn K cd25 "word_of"=true) (k25:PySem.W.keepIn K (.ref f25)=true)
  (a26:PySem.W.nsIn K mainGlobals "tree_of"=some (some (.ref f26))) (l26:K.lookup f26=some ⟨oc26,od26,.func (PySem.W.fnOf "tree_of" "tree_of" (defArgs s_tree_of) (defBody s_tree_of) (defScope s_tree_of) .none kV26 dc26 pm26 an26 cd26 ct26),sl26⟩) (c26:PySem.W.codeIn K cd26 "tree_of"=true) (k26:PySem.W.keepIn K (.ref f26)=true)
  (a27:PySem.W.nsIn K mainGlobals "first_of"=some (some (.ref f27))) (l27:K.lookup f27=some ⟨oc27,od27,.func (PySem.W.fnOf "first_of" "first_of" (defArgs s_first_of) (defBody s_first_of) (defScope s_first_of) .none kV27 dc27 pm27 an27 cd27 ct27),sl27⟩) (c27:PySem.W.codeIn K cd27 "first_of"=true) (k27:PySem.W.keepIn K (.ref f27)=true)
  (a28:PySem.W.nsIn K mainGlobals "rest_of"=some (some (.ref f28))) (l28:K.lookup f28=some ⟨oc28,od28,.func (PySem.W.fnOf "rest_of" "rest_of" (defArgs s_rest_of) (defBody s_rest_of) (defScope s_rest_of) .none kV28 dc28 pm28 an28 cd28 ct28),sl28⟩) (c28:PySem.W.codeIn K cd28 "rest_of"=true) (k28:PySem.W.keepIn K (.ref f28)=true)
  (a29:PySem.W.nsIn K mainGlobals "later"=some (some (.ref f29))) (l29:K.lookup f29=some ⟨oc29,od29,.func (PySem.W.fnOf "later" "later" (defArgs s_later) (defBody s_later) (defScope s_later) .none kV29 dc29 pm29 an29 cd29 ct29),sl29⟩) (c29:PySem.W.codeIn K cd29 "later"=true) (k29:PySem.W.keepIn K (.ref f29)=true)
  (a30:PySem.W.nsIn K mainGlobals "unfronted"=some (some (.ref f30))) (l30:K.lookup f30=some ⟨oc30,od30,.func (PySem.W.fnOf "unfronted" "unfronted" (defArgs s_unfronted) (defBody s_unfronted) (defScope s_unfronted) .none kV30 dc30 pm30 an30 cd30 ct30),sl30⟩) (c30:PySem.W.codeIn K cd30 "unfronted"=true) (k30:PySem.W.keepIn K (.ref f30)=true)
  (a31:PySem.W.nsIn K mainGlobals "parts_within"=some (some (.ref f31))) (l31:K.lookup f31=some ⟨oc31,od31,.func (PySem.W.fnOf "parts_within" "parts_within" (defArgs s_parts_within) (defBody s_parts_within) (defScope s_parts_within) .none kV31 dc31 pm31 an31 cd31 ct31),sl31⟩) (c31:PySem.W.codeIn K cd31 "parts_within"=true) (k31:PySem.W.keepIn K (.ref f31)=true)
  (a32:PySem.W.nsIn K mainGlobals "as_tree"=some (some (.ref f32))) (l32:K.lookup f32=some ⟨oc32,od32,.func (PySem.W.fnOf "as_tree" "as_tree" (defArgs s_as_tree) (defBody s_as_tree) (defScope s_as_tree) .none kV32 dc32 pm32 an32 cd32 ct32),sl32⟩) (c32:PySem.W.codeIn K cd32 "as_tree"=true) (k32:PySem.W.keepIn K (.ref f32)=true)
  (a33:PySem.W.nsIn K mainGlobals "run"=some (some (.ref f33))) (l33:K.lookup f33=some ⟨oc33,od33,.func (PySem.W.fnOf "run" "run" (defArgs s_run) (defBody s_run) (defScope s_run) .none kV33 dc33 pm33 an33 cd33 ct33),sl33⟩) (c33:PySem.W.codeIn K cd33 "run"=true) (k33:PySem.W.keepIn K (.ref f33)=true)
  (a34:PySem.W.nsIn K mainGlobals "walked"=some (some (.ref f34))) (l34:K.lookup f34=some ⟨oc34,od34,.func (PySem.W.fnOf "walked" "walked" (defArgs s_walked) (defBody s_walked) (defScope s_walked) .none kV34 dc34 pm34 an34 cd34 ct34),sl34⟩) (c34:PySem.W.codeIn K cd34 "walked"=true) (k34:PySem.W.keepIn K (.ref f34)=true)
  (a35:PySem.W.nsIn K mainGlobals "work"=some (some (.ref f35))) (l35:K.lookup f35=some ⟨oc35,od35,.func (PySem.W.fnOf "work" "work" (defArgs s_work) (defBody s_work) (defScope s_work) .none kV35 dc35 pm35 an35 cd35 ct35),sl35⟩) (c35:PySem.W.codeIn K cd35 "work"=true) (k35:PySem.W.keepIn K (.ref f35)=true)
  (a36:PySem.W.nsIn K mainGlobals "_law_deck"=some (some (.ref f36))) (l36:K.lookup f36=some ⟨oc36,od36,.func (PySem.W.fnOf "_law_deck" "_law_deck" (defArgs s__law_deck) (defBody s__law_deck) (defScope s__law_deck) .none kV36 dc36 pm36 an36 cd36 ct36),sl36⟩) (c36:PySem.W.codeIn K cd36 "_law_deck"=true) (k36:PySem.W.keepIn K (.ref f36)=true)
  (a37:PySem.W.nsIn K mainGlobals "_law_next"=some (some (.ref f37))) (l37:K.lookup f37=some ⟨oc37,od37,.func (PySem.W.fnOf "_law_next" "_law_next" (defArgs s__law_next) (defBody s__law_next) (defScope s__law_next) .none kV37 dc37 pm37 an37 cd37 ct37),sl37⟩) (c37:PySem.W.codeIn K cd37 "_law_next"=true) (k37:PySem.W.keepIn K (.ref f37)=true)
  (a38:PySem.W.nsIn K mainGlobals "_law_tree"=some (some (.ref f38))) (l38:K.lookup f38=some ⟨oc38,od38,.func (PySem.W.fnOf "_law_tree" "_law_tree" (defArgs s__law_tree) (defBody s__law_tree) (defScope s__law_tree) .none kV38 dc38 pm38 an38 cd38 ct38),sl38⟩) (c38:PySem.W.codeIn K cd38 "_law_tree"=true) (k38:PySem.W.keepIn K (.ref f38)=true)
  (a39:PySem.W.nsIn K mainGlobals "_law_leaves"=some (some (.ref f39))) (l39:K.lookup f39=some ⟨oc39,od39,.func (PySem.W.fnOf "_law_leaves" "_law_leaves" (defArgs s__law_leaves) (defBody s__law_leaves) (defScope s__law_leaves) .none kV39 dc39 pm39 an39 cd39 ct39),sl39⟩) (c39:PySem.W.codeIn K cd39 "_law_leaves"=true) (k39:PySem.W.keepIn K (.ref f39)=true)
  (a40:PySem.W.nsIn K mainGlobals "_law_trees"=some (some (.ref f40))) (l40:K.lookup f40=some ⟨oc40,od40,.func (PySem.W.fnOf "_law_trees" "_law_trees" (defArgs s__law_trees) (defBody s__law_trees) (defScope s__law_trees) .none kV40 dc40 pm40 an40 cd40 ct40),sl40⟩) (c40:PySem.W.codeIn K cd40 "_law_trees"=true) (k40:PySem.W.keepIn K (.ref f40)=true)
  (a41:PySem.W.nsIn K mainGlobals "_law_whole"=some (some (.ref f41))) (l41:K.lookup f41=some ⟨oc41,od41,.func (PySem.W.fnOf "_law_whole" "_law_whole" (defArgs s__law_whole) (defBody s__law_whole) (defScope s__law_whole) .none kV41 dc41 pm41 an41 cd41 ct41),sl41⟩) (c41:PySem.W.codeIn K cd41 "_law_whole"=true) (k41:PySem.W.keepIn K (.ref f41)=true)
  (a42:PySem.W.nsIn K mainGlobals "_law_tells"=some (some (.ref f42))) (l42:K.lookup f42=some ⟨oc42,od42,.func (PySem.W.fnOf "_law_tells" "_law_tells" (defArgs s__law_tells) (defBody s__law_tells) (defScope s__law_tells) .none kV42 dc42 pm42 an42 cd42 ct42),sl42⟩) (c42:PySem.W.codeIn K cd42 "_law_tells"=true) (k42:PySem.W.keepIn K (.ref f42)=true)
  (a43:PySem.W.nsIn K mainGlobals "law"=some (some (.ref f43))) (l43:K.lookup f43=some ⟨oc43,od43,.func (PySem.W.fnOf "law" "law" (defArgs s_law) (defBody s_law) (defScope s_law) .none kV43 dc43 pm43 an43 cd43 ct43),sl43⟩) (c43:PySem.W.codeIn K cd43 "law"=true) (k43:PySem.W.keepIn K (.ref f43)=true)
  (aC_Fronted:PySem.W.nsIn K mainGlobals "Fronted"=some (some (.ref CFronted)))
  (pg_Fronted:PySem.W.plainGet K CFronted Str.empty=true)
  (hd_Fronted:PySem.W.hasDictIn K CFronted=true)
  (po_Fronted:PySem.W.plainOver K CFronted=true)
  (sa_Fronted:PySem.W.findIn K (.ref CFronted) "__setattr__"=some (some (.builtin "object.__setattr__")))
  (mk_Fronted:PySem.W.makesIn K CFronted=true)
  (kc_Fronted:PySem.W.keepIn K (.ref CFronted)=true)
  (n_Fronted_item:PySem.W.findIn K (.ref CFronted) "item"=some none)
  (n_Fronted_behind:PySem.W.findIn K (.ref CFronted) "behind"=some none)
  (aC_Later:PySem.W.nsIn K mainGlobals "Later"=some (some (.ref CLater)))
  (pg_Later:PySem.W.plainGet K CLater Str.empty=true)
  (hd_Later:PySem.W.hasDictIn K CLater=true)
  (po_Later:PySem.W.plainOver K CLater=true)
  (sa_Later:PySem.W.findIn K (.ref CLater) "__setattr__"=some (some (.builtin "object.__setattr__")))
  (mk_Later:PySem.W.makesIn K CLater=true)
  (kc_Later:PySem.W.keepIn K (.ref CLater)=true)
  (n_Later_tree:PySem.W.findIn K (.ref CLater) "tree"=some none)
  (n_Later_place:PySem.W.findIn K (.ref CLater) "place"=some none)
  (aC_Word:PySem.W.nsIn K mainGlobals "Word"=some (some (.ref CWord)))
  (pg_Word:PySem.W.plainGet K CWord Str.empty=true)
  (hd_Word:PySem.W.hasDictIn K CWord=true)
  (po_Word:PySem.W.plainOver K CWord=true)
  (sa_Word:PySem.W.findIn K (.ref CWord) "__setattr__"=some (some (.builtin "object.__setattr__")))
  (mk_Word:PySem.W.makesIn K CWord=true)
  (kc_Word:PySem.W.keepIn K (.ref CWord)=true)
  (n_Word_kind:PySem.W.findIn K (.ref CWord) "kind"=some none)
  (n_Word_load:PySem.W.findIn K (.ref CWord) "load"=some none)
  (n_Word_yes:PySem.W.findIn K (.ref CWord) "yes"=some none)
  (n_Word_no:PySem.W.findIn K (.ref CWord) "no"=some none)
  (n_Word_body:PySem.W.findIn K (.ref CWord) "body"=some none)
  (n_Word_size:PySem.W.findIn K (.ref CWord) "size"=some none)
  (aC_Text:PySem.W.nsIn K mainGlobals "Text"=some (some (.ref CText)))
  (pg_Text:PySem.W.plainGet K CText Str.empty=true)
  (hd_Text:PySem.W.hasDictIn K CText=true)
  (po_Text:PySem.W.plainOver K CText=true)
  (sa_Text:PySem.W.findIn K (.ref CText) "__setattr__"=some (some (.builtin "object.__setattr__")))
  (mk_Text:PySem.W.makesIn K CText=true)
  (kc_Text:PySem.W.keepIn K (.ref CText)=true)
  (n_Text_tree:PySem.W.findIn K (.ref CText) "tree"=some none)
  (n_Text_words:PySem.W.findIn K (.ref CText) "words"=some none)
  (aC_Going:PySem.W.nsIn K mainGlobals "Going"=some (some (.ref CGoing)))
  (pg_Going:PySem.W.plainGet K CGoing Str.empty=true)
  (hd_Going:PySem.W.hasDictIn K CGoing=true)
  (po_Going:PySem.W.plainOver K CGoing=true)
  (sa_Going:PySem.W.findIn K (.ref CGoing) "__setattr__"=some (some (.builtin "object.__setattr__")))
  (mk_Going:PySem.W.makesIn K CGoing=true)
  (kc_Going:PySem.W.keepIn K (.ref CGoing)=true)
  (n_Going_text:PySem.W.findIn K (.ref CGoing) "text"=some none)
  (n_Going_place:PySem.W.findIn K (.ref CGoing) "place"=some none)
  (aC_Walk:PySem.W.nsIn K mainGlobals "Walk"=some (some (.ref CWalk)))
  (pg_Walk:PySem.W.plainGet K CWalk Str.empty=true)
  (hd_Walk:PySem.W.hasDictIn K CWalk=true)
  (po_Walk:PySem.W.plainOver K CWalk=true)
  (sa_Walk:PySem.W.findIn K (.ref CWalk) "__setattr__"=some (some (.builtin "object.__setattr__")))
  (mk_Walk:PySem.W.makesIn K CWalk=true)
  (kc_Walk:PySem.W.keepIn K (.ref CWalk)=true)
  (n_Walk_goings:PySem.W.findIn K (.ref CWalk) "goings"=some none)
  (n_Walk_stack:PySem.W.findIn K (.ref CWalk) "stack"=some none)
  (n_Walk_numbers:PySem.W.findIn K (.ref CWalk) "numbers"=some none)
  (n_Walk_left:PySem.W.findIn K (.ref CWalk) "left"=some none)
  (eq_Fronted:PySem.W.findIn K (.ref CFronted) "__eq__"=some (some (.builtin "object.__eq__")))
  (ob_Fronted:PySem.W.mroIn K CFronted (.type "object")=some true)
  (tu_Fronted:PySem.W.mroIn K CFronted (.type "tuple")=some false)
  (sb_Fronted:PySem.W.subIn K (.type "tuple") (.ref CFronted)=some false)
  (ca_Fronted:PySem.W.findIn K (.ref CFronted) "__class__"=some (some (.builtin "object.__class__")))
  (eq_Later:PySem.W.findIn K (.ref CLater) "__eq__"=some (some (.builtin "object.__eq__")))
  (ob_Later:PySem.W.mroIn K CLater (.type "object")=some true)
  (tu_Later:PySem.W.mroIn K CLater (.type "tuple")=some false)
  (sb_Later:PySem.W.subIn K (.type "tuple") (.ref CLater)=some false)
  (ca_Later:PySem.W.findIn K (.ref CLater) "__class__"=some (some (.builtin "object.__class__")))
  (cn:PySem.W.specialIn K (.builtin "object.__class__") "__get__"=some (some (.builtin "getset_descriptor.__get__")))
  (ct:PySem.W.takesIn K (.builtin "object.__class__")=some true)
  (iTF:PySem.W.kitOne K (.type "tuple") (.ref CFronted)=some false)
  (iTL:PySem.W.kitOne K (.type "tuple") (.ref CLater)=some false)
  (iFF:PySem.W.kitOne K (.ref CFronted) (.ref CFronted)=some true)
  (iLF:PySem.W.kitOne K (.ref CLater) (.ref CFronted)=some false)
  (iLL:PySem.W.kitOne K (.ref CLater) (.ref CLater)=some true)
  (a_Fronted___init__:PySem.W.findIn K (.ref CFronted) "__init__"=some (some (.ref f_Fronted___init__)))
  (i_Fronted___init__:PySem.W.isFn K (.ref f_Fronted___init__)=true)
  (l_Fronted___init__:K.lookup f_Fronted___init__=some ⟨oc_Fronted___init__,od_Fronted___init__,.func (PySem.W.fnOf "__init__" "Fronted.__init__" (defArgs s_Fronted___init__) (defBody s_Fronted___init__) (defScope s_Fronted___init__) .none kV_Fronted___init__ dc_Fronted___init__ pm_Fronted___init__ an_Fronted___init__ cd_Fronted___init__ ct_Fronted___init__),sl_Fronted___init__⟩)
  (c_Fronted___init__:PySem.W.codeIn K cd_Fronted___init__ "Fronted.__init__"=true)
  (k_Fronted___init__:PySem.W.keepIn K (.ref f_Fronted___init__)=true)
  (a_Later___init__:PySem.W.findIn K (.ref CLater) "__init__"=some (some (.ref f_Later___init__)))
  (i_Later___init__:PySem.W.isFn K (.ref f_Later___init__)=true)
  (l_Later___init__:K.lookup f_Later___init__=some ⟨oc_Later___init__,od_Later___init__,.func (PySem.W.fnOf "__init__" "Later.__init__" (defArgs s_Later___init__) (defBody s_Later___init__) (defScope s_Later___init__) .none kV_Later___init__ dc_Later___init__ pm_Later___init__ an_Later___init__ cd_Later___init__ ct_Later___init__),sl_Later___init__⟩)
  (c_Later___init__:PySem.W.codeIn K cd_Later___init__ "Later.__init__"=true)
  (k_Later___init__:PySem.W.keepIn K (.ref f_Later___init__)=true)
  (a_Word___init__:PySem.W.findIn K (.ref CWord) "__init__"=some (some (.ref f_Word___init__)))
  (i_Word___init__:PySem.W.isFn K (.ref f_Word___init__)=true)
  (l_Word___init__:K.lookup f_Word___init__=some ⟨oc_Word___init__,od_Word___init__,.func (PySem.W.fnOf "__init__" "Word.__init__" (defArgs s_Word___init__) (defBody s_Word___init__) (defScope s_Word___init__) .none kV_Word___init__ dc_Word___init__ pm_Word___init__ an_Word___init__ cd_Word___init__ ct_Word___init__),sl_Word___init__⟩)
  (c_Word___init__:PySem.W.codeIn K cd_Word___init__ "Word.__init__"=true)
  (k_Word___init__:PySem.W.keepIn K (.ref f_Word___init__)=true)
  (a_Word_body_parts:PySem.W.findIn K (.ref CWord) "body_parts"=some (some (.ref f_Word_body_parts)))
  (i_Word_body_parts:PySem.W.isFn K (.ref f_Word_body_parts)=true)
  (l_Word_body_parts:K.lookup f_Word_body_parts=some ⟨oc_Word_body_parts,od_Word_body_parts,.func (PySem.W.fnOf "body_parts" "Word.body_parts" (defArgs s_Word_body_parts) (defBody s_Word_body_parts) (defScope s_Word_body_parts) .none kV_Word_body_parts dc_Word_body_parts pm_Word_body_parts an_Word_body_parts cd_Word_body_parts ct_Word_body_parts),sl_Word_body_parts⟩)
  (c_Word_body_parts:PySem.W.codeIn K cd_Word_body_parts "Word.body_parts"=true)
  (k_Word_body_parts:PySem.W.keepIn K (.ref f_Word_body_parts)=true)
  (a_Text___init__:PySem.W.findIn K (.ref CText) "__init__"=some (some (.ref f_Text___init__)))
  (i_Text___init__:PySem.W.isFn K (.ref f_Text___init__)=true)
  (l_Text___init__:K.lookup f_Text___init__=some ⟨oc_Text___init__,od_Text___init__,.func (PySem.W.fnOf "__init__" "Text.__init__" (defArgs s_Text___init__) (defBody s_Text___init__) (defScope s_Text___init__) .none kV_Text___init__ dc_Text___init__ pm_Text___init__ an_Text___init__ cd_Text___init__ ct_Text___init__),sl_Text___init__⟩)
  (c_Text___init__:PySem.W.codeIn K cd_Text___init__ "Text.__init__"=true)
  (k_Text___init__:PySem.W.keepIn K (.ref f_Text___init__)=true)
  (a_Text_word_at:PySem.W.findIn K (.ref CText) "word_at"=some (some (.ref f_Text_word_at)))
  (i_Text_word_at:PySem.W.isFn K (.ref f_Text_word_at)=true)
  (l_Text_word_at:K.lookup f_Text_word_at=some ⟨oc_Text_word_at,od_Text_word_at,.func (PySem.W.fnOf "word_at" "Text.word_at" (defArgs s_Text_word_at) (defBody s_Text_word_at) (defScope s_Text_word_at) .none kV_Text_word_at dc_Text_word_at pm_Text_word_at an_Text_word_at cd_Text_word_at ct_Text_word_at),sl_Text_word_at⟩)
  (c_Text_word_at:PySem.W.codeIn K cd_Text_word_at "Text.word_at"=true)
  (k_Text_word_at:PySem.W.keepIn K (.ref f_Text_word_at)=true)
  (a_Going___init__:PySem.W.findIn K (.ref CGoing) "__init__"=some (some (.ref f_Going___init__)))
  (i_Going___init__:PySem.W.isFn K (.ref f_Going___init__)=true)
  (l_Going___init__:K.lookup f_Going___init__=some ⟨oc_Going___init__,od_Going___init__,.func (PySem.W.fnOf "__init__" "Going.__init__" (defArgs s_Going___init__) (defBody s_Going___init__) (defScope s_Going___init__) .none kV_Going___init__ dc_Going___init__ pm_Going___init__ an_Going___init__ cd_Going___init__ ct_Going___init__),sl_Going___init__⟩)
  (c_Going___init__:PySem.W.codeIn K cd_Going___init__ "Going.__init__"=true)
  (k_Going___init__:PySem.W.keepIn K (.ref f_Going___init__)=true)
  (a_Walk___init__:PySem.W.findIn K (.ref CWalk) "__init__"=some (some (.ref f_Walk___init__)))
  (i_Walk___init__:PySem.W.isFn K (.ref f_Walk___init__)=true)
  (l_Walk___init__:K.lookup f_Walk___init__=some ⟨oc_Walk___init__,od_Walk___init__,.func (PySem.W.fnOf "__init__" "Walk.__init__" (defArgs s_Walk___init__) (defBody s_Walk___init__) (defScope s_Walk___init__) .none kV_Walk___init__ dc_Walk___init__ pm_Walk___init__ an_Walk___init__ cd_Walk___init__ ct_Walk___init__),sl_Walk___init__⟩)
  (c_Walk___init__:PySem.W.codeIn K cd_Walk___init__ "Walk.__init__"=true)
  (k_Walk___init__:PySem.W.keepIn K (.ref f_Walk___init__)=true)
  (a_Walk_at_end:PySem.W.findIn K (.ref CWalk) "at_end"=some (some (.ref f_Walk_at_end)))
  (i_Walk_at_end:PySem.W.isFn K (.ref f_Walk_at_end)=true)
  (l_Walk_at_end:K.lookup f_Walk_at_end=some ⟨oc_Walk_at_end,od_Walk_at_end,.func (PySem.W.fnOf "at_end" "Walk.at_end" (defArgs s_Walk_at_end) (defBody s_Walk_at_end) (defScope s_Walk_at_end) .none kV_Walk_at_end dc_Walk_at_end pm_Walk_at_end an_Walk_at_end cd_Walk_at_end ct_Walk_at_end),sl_Walk_at_end⟩)
  (c_Walk_at_end:PySem.W.codeIn K cd_Walk_at_end "Walk.at_end"=true)
  (k_Walk_at_end:PySem.W.keepIn K (.ref f_Walk_at_end)=true)
  (a_Walk_top:PySem.W.findIn K (.ref CWalk) "top"=some (some (.ref f_Walk_top)))
  (i_Walk_top:PySem.W.isFn K (.ref f_Walk_top)=true)
  (l_Walk_top:K.lookup f_Walk_top=some ⟨oc_Walk_top,od_Walk_top,.func (PySem.W.fnOf "top" "Walk.top" (defArgs s_Walk_top) (defBody s_Walk_top) (defScope s_Walk_top) .none kV_Walk_top dc_Walk_top pm_Walk_top an_Walk_top cd_Walk_top ct_Walk_top),sl_Walk_top⟩)
  (c_Walk_top:PySem.W.codeIn K cd_Walk_top "Walk.top"=true)
  (k_Walk_top:PySem.W.keepIn K (.ref f_Walk_top)=true)
  (a_Walk_tally:PySem.W.findIn K (.ref CWalk) "tally"=some (some (.ref f_Walk_tally)))
  (i_Walk_tally:PySem.W.isFn K (.ref f_Walk_tally)=true)
  (l_Walk_tally:K.lookup f_Walk_tally=some ⟨oc_Walk_tally,od_Walk_tally,.func (PySem.W.fnOf "tally" "Walk.tally" (defArgs s_Walk_tally) (defBody s_Walk_tally) (defScope s_Walk_tally) .none kV_Walk_tally dc_Walk_tally pm_Walk_tally an_Walk_tally cd_Walk_tally ct_Walk_tally),sl_Walk_tally⟩)
  (c_Walk_tally:PySem.W.codeIn K cd_Walk_tally "Walk.tally"=true)
  (k_Walk_tally:PySem.W.keepIn K (.ref f_Walk_tally)=true)
  (a_Walk_step:PySem.W.findIn K (.ref CWalk) "step"=some (some (.ref f_Walk_step)))
  (i_Walk_step:PySem.W.isFn K (.ref f_Walk_step)=true)
  (l_Walk_step:K.lookup f_Walk_step=some ⟨oc_Walk_step,od_Walk_step,.func (PySem.W.fnOf "step" "Walk.step" (defArgs s_Walk_step) (defBody s_Walk_step) (defScope s_Walk_step) .none kV_Walk_step dc_Walk_step pm_Walk_step an_Walk_step cd_Walk_step ct_Walk_step),sl_Walk_step⟩)
  (c_Walk_step:PySem.W.codeIn K cd_Walk_step "Walk.step"=true)
  (k_Walk_step:PySem.W.keepIn K (.ref f_Walk_step)=true)
  (a_Walk_move:PySem.W.findIn K (.ref CWalk) "move"=some (some (.ref f_Walk_move)))
  (i_Walk_move:PySem.W.isFn K (.ref f_Walk_move)=true)
  (l_Walk_move:K.lookup f_Walk_move=some ⟨oc_Walk_move,od_Walk_move,.func (PySem.W.fnOf "move" "Walk.move" (defArgs s_Walk_move) (defBody s_Walk_move) (defScope s_Walk_move) .none kV_Walk_move dc_Walk_move pm_Walk_move an_Walk_move cd_Walk_move ct_Walk_move),sl_Walk_move⟩)
  (c_Walk_move:PySem.W.codeIn K cd_Walk_move "Walk.move"=true)
  (k_Walk_move:PySem.W.keepIn K (.ref f_Walk_move)=true)
  (aC:PySem.W.nsIn K mainGlobals "Reading"=some (some (.ref C)))
  (a___init__:PySem.W.findIn K (.ref C) "__init__"=some (some (.ref f___init__)))
  (i___init__:PySem.W.isFn K (.ref f___init__)=true)
  (l___init__:K.lookup f___init__=some ⟨oc___init__,od___init__,.func (PySem.W.fnOf "__init__" "Reading.__init__" (defArgs s___init__) (defBody s___init__) (defScope s___init__) .none kV___init__ dc___init__ pm___init__ an___init__ cd___init__ ct___init__),sl___init__⟩)
  (c___init__:PySem.W.codeIn K cd___init__ "Reading.__init__"=true)
  (k___init__:PySem.W.keepIn K (.ref f___init__)=true)
  (a_take:PySem.W.findIn K (.ref C) "take"=some (some (.ref f_take)))
  (i_take:PySem.W.isFn K (.ref f_take)=true)
  (l_take:K.lookup f_take=some ⟨oc_take,od_take,.func (PySem.W.fnOf "take" "Reading.take" (defArgs s_take) (defBody s_take) (defScope s_take) .none kV_take dc_take pm_take an_take cd_take ct_take),sl_take⟩)
  (c_take:PySem.W.codeIn K cd_take "Reading.take"=true)
  (k_take:PySem.W.keepIn K (.ref f_take)=true)
  (a_enter:PySem.W.findIn K (.ref C) "enter"=some (some (.ref f_enter)))
  (i_enter:PySem.W.isFn K (.ref f_enter)=true)
  (l_enter:K.lookup f_enter=some ⟨oc_enter,od_enter,.func (PySem.W.fnOf "enter" "Reading.enter" (defArgs s_enter) (defBody s_enter) (defScope s_enter) .none kV_enter dc_enter pm_enter an_enter cd_enter ct_enter),sl_enter⟩)
  (c_enter:PySem.W.codeIn K cd_enter "Reading.enter"=true)
  (k_enter:PySem.W.keepIn K (.ref f_enter)=true)
  (a_leave:PySem.W.findIn K (.ref C) "leave"=some (some (.ref f_leave)))
  (i_leave:PySem.W.isFn K (.ref f_leave)=true)
  (l_leave:K.lookup f_leave=some ⟨oc_leave,od_leave,.func (PySem.W.fnOf "leave" "Reading.leave" (defArgs s_leave) (defBody s_leave) (defScope s_leave) .none kV_leave dc_leave pm_leave an_leave cd_leave ct_leave),sl_leave⟩)
  (c_leave:PySem.W.codeIn K cd_leave "Reading.leave"=true)
  (k_leave:PySem.W.keepIn K (.ref f_leave)=true)
  (a_bracketed:PySem.W.findIn K (.ref C) "bracketed"=some (some (.ref f_bracketed)))
  (i_bracketed:PySem.W.isFn K (.ref f_bracketed)=true)
  (l_bracketed:K.lookup f_bracketed=some ⟨oc_bracketed,od_bracketed,.func (PySem.W.fnOf "bracketed" "Reading.bracketed" (defArgs s_bracketed) (defBody s_bracketed) (defScope s_bracketed) .none kV_bracketed dc_bracketed pm_bracketed an_bracketed cd_bracketed ct_bracketed),sl_bracketed⟩)
  (c_bracketed:PySem.W.codeIn K cd_bracketed "Reading.bracketed"=true)
  (k_bracketed:PySem.W.keepIn K (.ref f_bracketed)=true)
  (a_add_word:PySem.W.findIn K (.ref C) "add_word"=some (some (.ref f_add_word)))
  (i_add_word:PySem.W.isFn K (.ref f_add_word)=true)
  (l_add_word:K.lookup f_add_word=some ⟨oc_add_word,od_add_word,.func (PySem.W.fnOf "add_word" "Reading.add_word" (defArgs s_add_word) (defBody s_add_word) (defScope s_add_word) .none kV_add_word dc_add_word pm_add_word an_add_word cd_add_word ct_add_word),sl_add_word⟩)
  (c_add_word:PySem.W.codeIn K cd_add_word "Reading.add_word"=true)
  (k_add_word:PySem.W.keepIn K (.ref f_add_word)=true)
  (a_whole:PySem.W.findIn K (.ref C) "whole"=some (some (.ref f_whole)))
  (i_whole:PySem.W.isFn K (.ref f_whole)=true)
  (l_whole:K.lookup f_whole=some ⟨oc_whole,od_whole,.func (PySem.W.fnOf "whole" "Reading.whole" (defArgs s_whole) (defBody s_whole) (defScope s_whole) .none kV_whole dc_whole pm_whole an_whole cd_whole ct_whole),sl_whole⟩)
  (c_whole:PySem.W.codeIn K cd_whole "Reading.whole"=true)
  (k_whole:PySem.W.keepIn K (.ref f_whole)=true)
  (pg:PySem.W.plainGet K C Str.empty=true)
  (hd:PySem.W.hasDictIn K C=true)
  (po:PySem.W.plainOver K C=true)
  (sa:PySem.W.findIn K (.ref C) "__setattr__"=some (some (.builtin "object.__setattr__")))
  (mk:PySem.W.makesIn K C=true)
  (kc:PySem.W.keepIn K (.ref C)=true)
  (nR:PySem.W.findIn K (.ref C) "rows"=some none)
  (nP:PySem.W.findIn K (.ref C) "places"=some none)
  (nN:PySem.W.findIn K (.ref C) "named"=some none)
  (e_LAY:PySem.W.nsIn K mainGlobals "LAY"=some (some u_LAY))
  (r_LAY:RelV (.int 0) u_LAY)
  (e_DROP:PySem.W.nsIn K mainGlobals "DROP"=some (some u_DROP))
  (r_DROP:RelV (.int 1) u_DROP)
  (e_TURN:PySem.W.nsIn K mainGlobals "TURN"=some (some u_TURN))
  (r_TURN:RelV (.int 6) u_TURN)
  (e_FORK_NO:PySem.W.nsIn K mainGlobals "FORK_NO"=some (some u_FORK_NO))
  (r_FORK_NO:RelV (.int 8) u_FORK_NO)
  (e_FORK_YES:PySem.W.nsIn K mainGlobals "FORK_YES"=some (some u_FORK_YES))
  (r_FORK_YES:RelV (.int 7) u_FORK_YES)
  (e_WHILE_PAST:PySem.W.nsIn K mainGlobals "WHILE_PAST"=some (some u_WHILE_PAST))
  (r_WHILE_PAST:RelV (.int 10) u_WHILE_PAST)
  (e_WHILE_INTO:PySem.W.nsIn K mainGlobals "WHILE_INTO"=some (some u_WHILE_INTO))
  (r_WHILE_INTO:RelV (.int 9) u_WHILE_INTO)
  (e_NO_WORD:PySem.W.nsIn K mainGlobals "NO_WORD"=some (some u_NO_WORD))
  (r_NO_WORD:RelV (.int 11) u_NO_WORD)
  (e_SWAP:PySem.W.nsIn K mainGlobals "SWAP"=some (some u_SWAP))
  (r_SWAP:RelV (.int 3) u_SWAP)
  (e_FRONT:PySem.W.nsIn K mainGlobals "FRONT"=some (some u_FRONT))
  (r_FRONT:RelV (.int 4) u_FRONT)
  (e_PART:PySem.W.nsIn K mainGlobals "PART"=some (some u_PART))
  (r_PART:RelV (.int 5) u_PART)
  (e_PLACES:PySem.W.nsIn K mainGlobals "PLACES"=some (some u_PLACES))
  (r_PLACES:RelV (.int 15) u_PLACES)
  (e_SHUT:PySem.W.nsIn K mainGlobals "SHUT"=some (some u_SHUT))
  (r_SHUT:RelV (.int 12) u_SHUT)
  (e_BODIES:PySem.W.nsIn K mainGlobals "BODIES"=some (some u_BODIES))
  (r_BODIES:RelV (.int 14) u_BODIES)
  (e_LOOKS:PySem.W.nsIn K mainGlobals "LOOKS"=some (some (.ref a_LOOKS)))
  (l_LOOKS:K.lookup a_LOOKS=some o_LOOKS)
  (t_LOOKS:TupO o_LOOKS [.int 0,.int 1,.int 1,.int 2,.int 2,.int 1,.int 3,.int 1,.int 1,.int 1,.int 1,.int 0,.int 0])
  (e_NAMES:PySem.W.nsIn K mainGlobals "NAMES"=some (some (.ref a_NAMES)))
  (l_NAMES:K.lookup a_NAMES=some o_NAMES)
  (y_NAMES:TupO o_NAMES [.str (PySem.Str.ofString "lay"),.str (PySem.Str.ofString "drop"),.str (PySem.Str.ofString "twin"),.str (PySem.Str.ofString "swap"),.str (PySem.Str.ofString "front"),.str (PySem.Str.ofString "part"),.str (PySem.Str.ofString "turn"),.str (PySem.Str.ofString "fork"),.str (PySem.Str.ofString "while")])
  (x_NAMES:o_NAMES.cls=.type "tuple"∧o_NAMES.dict=none)
  (e_NAMELESS:PySem.W.nsIn K mainGlobals "NAMELESS"=some (some u_NAMELESS))
  (r_NAMELESS:RelV (.int 9) u_NAMELESS)
  (e_FORK:PySem.W.nsIn K mainGlobals "FORK"=some (some u_FORK))
  (r_FORK:RelV (.int 7) u_FORK)
  (e_WHILE:PySem.W.nsIn K mainGlobals "WHILE"=some (some u_WHILE))
  (r_WHILE:RelV (.int 8) u_WHILE)
  (e_COPIED:PySem.W.nsIn K mainGlobals "COPIED"=some (some u_COPIED))
  (r_COPIED:RelV (.int 13) u_COPIED)
  (e_TWIN:PySem.W.nsIn K mainGlobals "TWIN"=some (some u_TWIN))
  (r_TWIN:RelV (.int 2) u_TWIN)
  (z_min:PySem.W.nsIn K mainGlobals "min"=some none) (z_len:PySem.W.nsIn K mainGlobals "len"=some none) (z_tuple:PySem.W.nsIn K mainGlobals "tuple"=some none) (z_sum:PySem.W.nsIn K mainGlobals "sum"=some none) (z_list:PySem.W.nsIn K mainGlobals "list"=some none) (z_reversed:PySem.W.nsIn K mainGlobals "reversed"=some none) (z_isinstance:PySem.W.nsIn K mainGlobals "isinstance"=some none) (z_str:PySem.W.nsIn K mainGlobals "str"=some none) (z_any:PySem.W.nsIn K mainGlobals "any"=some none) (z_range:PySem.W.nsIn K mainGlobals "range"=some none) (z_all:PySem.W.nsIn K mainGlobals "all"=some none) (z_bool:PySem.W.nsIn K mainGlobals "bool"=some none) (z_int:PySem.W.nsIn K mainGlobals "int"=some none) :
  ∃ fd:FuncData,(∀ (s:Shared) (v:Value),BindsTo s fd ⟨[v],[]⟩ [("_law_script",v)])∧∀ base:Heap,K.In base→base.Ns mainGlobals mg→FnOk l.prog w K mg base CX0 60 fa fd ["_law_script"] (spLaw K):=by
 have e:=hfa.symm.trans (PySem.W.mg_of X G a43)
 cases e
 have F1:=fun_mk (st:=s_first) l1 c1 k1
 have F2:=fun_mk (st:=s_rest) l2 c2 k2
 have F3:=fun_mk (st:=s_parts) l3 c3 k3
 have F4:=fun_mk (st:=s_sort_of) l4 c4 k4
 have F5:=fun_mk (st:=s_load_of) l5 c5 k5
 have F6:=fun_mk (st:=s_lay) l6 c6 k6
 have F7:=fun_mk (st:=s_plain) l7 c7 k7
 have F8:=fun_mk (st:=s_fork) l8 c8 k8
 have F9:=fun_mk (st:=s_loop) l9 c9 k9
 have F10:=fun_mk (st:=s_plains) l10 c10 k10
 have F11:=fun_mk (st:=s_begin) l11 c11 k11
 have F12:=fun_mk (st:=s_place_of) l12 c12 k12
 have F13:=fun_mk (st:=s_cost) l13 c13 k13
 have F14:=fun_mk (st:=s_selfmade) l14 c14 k14
 have F15:=fun_mk (st:=s_selfmaker) l15 c15 k15
 have F16:=fun_mk (st:=s_lay_made) l16 c16 k16
 have F17:=fun_mk (st:=s_selfteller) l17 c17 k17
 have F18:=fun_mk (st:=s_show_tree) l18 c18 k18
 have F19:=fun_mk (st:=s_read_tree) l19 c19 k19
 have F20:=fun_mk (st:=s_show) l20 c20 k20
 have F21:=fun_mk (st:=s_spelled) l21 c21 k21
 have F22:=fun_mk (st:=s_odd) l22 c22 k22
 have F23:=fun_mk (st:=s_read) l23 c23 k23
 have F24:=fun_mk (st:=s_pieces_of) l24 c24 k24
 have F25:=fun_mk (st:=s_word_of) l25 c25 k25
 have F26:=fun_mk (st:=s_tree_of) l26 c26 k26
 have F27:=fun_mk (st:=s_first_of) l27 c27 k27
 have F28:=fun_mk (st:=s_rest_of) l28 c28 k28
 have F29:=fun_mk (st:=s_later) l29 c29 k29
 have F30:=fun_mk (st:=s_unfronted) l30 c30 k30
 have F31:=fun_mk (st:=s_parts_within) l31 c31 k31
 have F32:=fun_mk (st:=s_as_tree) l32 c32 k32
 have F33:=fun_mk (st:=s_run) l33 c33 k33
 have F34:=fun_mk (st:=s_walked) l34 c34 k34
 have F35:=fun_mk (st:=s_work) l35 c35 k35
 have F36:=fun_mk (st:=s__law_deck) l36 c36 k36
 have F37:=fun_mk (st:=s__law_next) l37 c37 k37
 have F38:=fun_mk (st:=s__law_tree) l38 c38 k38
 have F39:=fun_mk (st:=s__law_leaves) l39 c39 k39
 have F40:=fun_mk (st:=s__law_trees) l40 c40 k40
 have F41:=fun_mk (st:=s__law_whole) l41 c41 k41
 have F42:=fun_mk (st:=s__law_tells) l42 c42 k42
 have F43:=fun_mk (st:=s_law) l43 c43 k43
 have b1:=F1.binds (ps:=["tree"]) fun _ _ _ _ _ _ us hl=>match us,hl with | [_],_=>rfl
 have m1:=PySem.W.mg_of X G a1
 have b2:=F2.binds (ps:=["tree"]) fun _ _ _ _ _ _ us hl=>match us,hl with | [_],_=>rfl
 have m2:=PySem.W.mg_of X G a2
 have b3:=F3.binds (ps:=["tree"]) fun _ _ _ _ _ _ us hl=>match us,hl with | [_],_=>rfl
 have m3:=PySem.W.mg_of X G a3
 have b4:=F4.binds (ps:=["word"]) fun _ _ _ _ _ _ us hl=>match us,hl with | [_],_=>rfl
 have m4:=PySem.W.mg_of X G a4
 have b5:=F5.binds (ps:=["word"]) fun _ _ _ _ _ _ us hl=>match us,hl with | [_],_=>rfl
 have m5:=PySem.W.mg_of X G a5
 have b6:=F6.binds (ps:=["tree"]) fun _ _ _ _ _ _ us hl=>match us,hl with | [_],_=>rfl
 have m6:=PySem.W.mg_of X G a6
 have b7:=F7.binds (ps:=["sort"]) fun _ _ _ _ _ _ us hl=>match us,hl with | [_],_=>rfl
 have m7:=PySem.W.mg_of X G a7
 have b8:=F8.binds (ps:=["yes","no"]) fun _ _ _ _ _ _ us hl=>match us,hl with | [_,_],_=>rfl
 have m8:=PySem.W.mg_of X G a8
 have b9:=F9.binds (ps:=["body"]) fun _ _ _ _ _ _ us hl=>match us,hl with | [_],_=>rfl
 have m9:=PySem.W.mg_of X G a9
 have b10:=F10.binds (ps:=["names"]) fun _ _ _ _ _ _ us hl=>match us,hl with | [_],_=>rfl
 have m10:=PySem.W.mg_of X G a10
 have b11:=F11.binds (ps:=["text","tree"]) fun _ _ _ _ _ _ us hl=>match us,hl with | [_,_],_=>rfl
 have m11:=PySem.W.mg_of X G a11
 have b12:=F12.binds (ps:=["sort","top"]) fun _ _ _ _ _ _ us hl=>match us,hl with | [_,_],_=>rfl
 have m12:=PySem.W.mg_of X G a12
 have b13:=F13.binds (ps:=["tally"]) fun _ _ _ _ _ _ us hl=>match us,hl with | [_],_=>rfl
 have m13:=PySem.W.mg_of X G a13
 have b14:=F14.binds (ps:=["body"]) fun _ _ _ _ _ _ us hl=>match us,hl with | [_],_=>rfl
 have m14:=PySem.W.mg_of X G a14
 have b15:=F15.binds (ps:=[]) fun _ _ _ _ _ _ us hl=>match us,hl with | [],_=>rfl
 have m15:=PySem.W.mg_of X G a15
 have b16:=F16.binds (ps:=[]) fun _ _ _ _ _ _ us hl=>match us,hl with | [],_=>rfl
 have m16:=PySem.W.mg_of X G a16
 have b17:=F17.binds (ps:=[]) fun _ _ _ _ _ _ us hl=>match us,hl with | [],_=>rfl
 have m17:=PySem.W.mg_of X G a17
 have b18:=F18.binds (ps:=["tree"]) fun _ _ _ _ _ _ us hl=>match us,hl with | [_],_=>rfl
 have m18:=PySem.W.mg_of X G a18
 have b19:=F19.binds (ps:=["text"]) fun _ _ _ _ _ _ us hl=>match us,hl with | [_],_=>rfl
 have m19:=PySem.W.mg_of X G a19
 have b20:=F20.binds (ps:=["text"]) fun _ _ _ _ _ _ us hl=>match us,hl with | [_],_=>rfl
 have m20:=PySem.W.mg_of X G a20
 have b21:=F21.binds (ps:=["word"]) fun _ _ _ _ _ _ us hl=>match us,hl with | [_],_=>rfl
 have m21:=PySem.W.mg_of X G a21
 have b22:=F22.binds (ps:=["word"]) fun _ _ _ _ _ _ us hl=>match us,hl with | [_],_=>rfl
 have m22:=PySem.W.mg_of X G a22
 have b23:=F23.binds (ps:=["signs"]) fun _ _ _ _ _ _ us hl=>match us,hl with | [_],_=>rfl
 have m23:=PySem.W.mg_of X G a23
 have b24:=F24.binds (ps:=["signs"]) fun _ _ _ _ _ _ us hl=>match us,hl with | [_],_=>rfl
 have m24:=PySem.W.mg_of X G a24
 have b25:=F25.binds (ps:=["piece"]) fun _ _ _ _ _ _ us hl=>match us,hl with | [_],_=>rfl
 have m25:=PySem.W.mg_of X G a25
 have b26:=F26.binds (ps:=["signs"]) fun _ _ _ _ _ _ us hl=>match us,hl with | [_],_=>rfl
 have m26:=PySem.W.mg_of X G a26
 have b27:=F27.binds (ps:=["row"]) fun _ _ _ _ _ _ us hl=>match us,hl with | [_],_=>rfl
 have m27:=PySem.W.mg_of X G a27
 have b28:=F28.binds (ps:=["row"]) fun _ _ _ _ _ _ us hl=>match us,hl with | [_],_=>rfl
 have m28:=PySem.W.mg_of X G a28
 have b29:=F29.binds (ps:=["tree","place"]) fun _ _ _ _ _ _ us hl=>match us,hl with | [_,_],_=>rfl
 have m29:=PySem.W.mg_of X G a29
 have b30:=F30.binds (ps:=["row"]) fun _ _ _ _ _ _ us hl=>match us,hl with | [_],_=>rfl
 have m30:=PySem.W.mg_of X G a30
 have b31:=F31.binds (ps:=["row","most"]) fun _ _ _ _ _ _ us hl=>match us,hl with | [_,_],_=>rfl
 have m31:=PySem.W.mg_of X G a31
 have b32:=F32.binds (ps:=["row"]) fun _ _ _ _ _ _ us hl=>match us,hl with | [_],_=>rfl
 have m32:=PySem.W.mg_of X G a32
 have b33:=F33.binds (ps:=["text","tree","budget"]) fun _ _ _ _ _ _ us hl=>match us,hl with | [_,_,_],_=>rfl
 have m33:=PySem.W.mg_of X G a33
 have b34:=F34.binds (ps:=["stand","budget"]) fun _ _ _ _ _ _ us hl=>match us,hl with | [_,_],_=>rfl
 have m34:=PySem.W.mg_of X G a34
 have b35:=F35.binds (ps:=["step","load","stack"]) fun _ _ _ _ _ _ us hl=>match us,hl with | [_,_,_],_=>rfl
 have m35:=PySem.W.mg_of X G a35
 have b36:=F36.binds (ps:=["_law_script"]) fun _ _ _ _ _ _ us hl=>match us,hl with | [_],_=>rfl
 have m36:=PySem.W.mg_of X G a36
 have b37:=F37.binds (ps:=["_law_deck_here","_law_many"]) fun _ _ _ _ _ _ us hl=>match us,hl with | [_,_],_=>rfl
 have m37:=PySem.W.mg_of X G a37
 have b38:=F38.binds (ps:=["_law_deck_here","_law_deep"]) fun _ _ _ _ _ _ us hl=>match us,hl with | [_,_],_=>rfl
 have m38:=PySem.W.mg_of X G a38
 have b39:=F39.binds (ps:=["_law_many"]) fun _ _ _ _ _ _ us hl=>match us,hl with | [_],_=>rfl
 have m39:=PySem.W.mg_of X G a39
 have b40:=F40.binds (ps:=["_law_found"]) fun _ _ _ _ _ _ us hl=>match us,hl with | [_],_=>rfl
 have m40:=PySem.W.mg_of X G a40
 have b41:=F41.binds (ps:=["_law_found"]) fun _ _ _ _ _ _ us hl=>match us,hl with | [_],_=>rfl
 have m41:=PySem.W.mg_of X G a41
 have b42:=F42.binds (ps:=["_law_tree_here"]) fun _ _ _ _ _ _ us hl=>match us,hl with | [_],_=>rfl
 have m42:=PySem.W.mg_of X G a42
 have m_min:=PySem.W.mg_none_of X G z_min
 have m_len:=PySem.W.mg_none_of X G z_len
 have m_tuple:=PySem.W.mg_none_of X G z_tuple
 have m_sum:=PySem.W.mg_none_of X G z_sum
 have m_list:=PySem.W.mg_none_of X G z_list
 have m_reversed:=PySem.W.mg_none_of X G z_reversed
 have m_isinstance:=PySem.W.mg_none_of X G z_isinstance
 have m_str:=PySem.W.mg_none_of X G z_str
 have m_any:=PySem.W.mg_none_of X G z_any
 have m_range:=PySem.W.mg_none_of X G z_range
 have m_all:=PySem.W.mg_none_of X G z_all
 have m_bool:=PySem.W.mg_none_of X G z_bool
 have m_int:=PySem.W.mg_none_of X G z_int
 have m_Fronted:=PySem.W.mg_of X G aC_Fronted
 have m_Later:=PySem.W.mg_of X G aC_Later
 have m_Word:=PySem.W.mg_of X G aC_Word
 have m_Text:=PySem.W.mg_of X G aC_Text
 have m_Going:=PySem.W.mg_of X G aC_Going
 have m_Walk:=PySem.W.mg_of X G aC_Walk
 have O:Own K CFronted CLater CWord CText CGoing CWalk:=⟨⟨⟨pg_Fronted,hd_Fronted,po_Fronted,sa_Fronted⟩,eq_Fronted,ob_Fronted,tu_Fronted,sb_Fronted,ca_Fronted,cn,ct⟩,⟨⟨pg_Later,hd_Later,po_Later,sa_Later⟩,eq_Later,ob_Later,tu_Later,sb_Later,ca_Later,cn,ct⟩,⟨pg_Word,hd_Word,po_Word,sa_Word⟩,⟨pg_Text,hd_Text,po_Text,sa_Text⟩,⟨pg_Going,hd_Going,po_Going,sa_Going⟩,⟨pg_Walk,hd_Walk,po_Walk,sa_Walk⟩,n_Fronted_item,n_Fronted_behind,n_Later_tree,n_Later_place,n_Word_kind,n_Word_load,n_Word_yes,n_Word_no,n_Word_body,n_Word_size,n_Text_tree,n_Text_words,n_Going_text,n_Going_place,n_Walk_goings,n_Walk_stack,n_Walk_numbers,n_Walk_left,iTF,iTL,iFF,iLF,iLL⟩
 have F_Fronted___init__:=fun_mk (st:=s_Fronted___init__) l_Fronted___init__ c_Fronted___init__ k_Fronted___init__
 have b_Fronted___init__:=F_Fronted___init__.binds (ps:=["self","item","behind"]) fun _ _ _ _ _ _ us hl=>match us,hl with | [_,_,_],_=>rfl
 have MK_Fronted:Mk K CFronted f_Fronted___init__:=⟨mk_Fronted,a_Fronted___init__,i_Fronted___init__,kc_Fronted⟩
 have F_Later___init__:=fun_mk (st:=s_Later___init__) l_Later___init__ c_Later___init__ k_Later___init__
 have b_Later___init__:=F_Later___init__.binds (ps:=["self","tree","place"]) fun _ _ _ _ _ _ us hl=>match us,hl with | [_,_,_],_=>rfl
 have MK_Later:Mk K CLater f_Later___init__:=⟨mk_Later,a_Later___init__,i_Later___init__,kc_Later⟩
 have F_Word___init__:=fun_mk (st:=s_Word___init__) l_Word___init__ c_Word___init__ k_Word___init__
 have b_Word___init__:=F_Word___init__.binds (ps:=["self","tree"]) fun _ _ _ _ _ _ us hl=>match us,hl with | [_,_],_=>rfl
 have MK_Word:Mk K CWord f_Word___init__:=⟨mk_Word,a_Word___init__,i_Word___init__,kc_Word⟩
 have F_Word_body_parts:=fun_mk (st:=s_Word_body_parts) l_Word_body_parts c_Word_body_parts k_Word_body_parts
 have b_Word_body_parts:=F_Word_body_parts.binds (ps:=["self"]) fun _ _ _ _ _ _ us hl=>match us,hl with | [_],_=>rfl
 have M_Word_body_parts:Meth K CWord "body_parts" f_Word_body_parts:=⟨a_Word_body_parts,i_Word_body_parts,k_Word_body_parts⟩
 have F_Text___init__:=fun_mk (st:=s_Text___init__) l_Text___init__ c_Text___init__ k_Text___init__
 have b_Text___init__:=F_Text___init__.binds (ps:=["self","tree"]) fun _ _ _ _ _ _ us hl=>match us,hl with | [_,_],_=>rfl
 have MK_Text:Mk K CText f_Text___init__:=⟨mk_Text,a_Text___init__,i_Text___init__,kc_Text⟩
 have F_Text_word_at:=fun_mk (st:=s_Text_word_at) l_Text_word_at c_Text_word_at k_Text_word_at
 have b_Text_word_at:=F_Text_word_at.binds (ps:=["self","place"]) fun _ _ _ _ _ _ us hl=>match us,hl with | [_,_],_=>rfl
 have M_Text_word_at:Meth K CText "word_at" f_Text_word_at:=⟨a_Text_word_at,i_Text_word_at,k_Text_word_at⟩
 have F_Going___init__:=fun_mk (st:=s_Going___init__) l_Going___init__ c_Going___init__ k_Going___init__
 have b_Going___init__:=F_Going___init__.binds (ps:=["self","text"]) fun _ _ _ _ _ _ us hl=>match us,hl with | [_,_],_=>rfl
 have MK_Going:Mk K CGoing f_Going___init__:=⟨mk_Going,a_Going___init__,i_Going___init__,kc_Going⟩
 have F_Walk___init__:=fun_mk (st:=s_Walk___init__) l_Walk___init__ c_Walk___init__ k_Walk___init__
 have b_Walk___init__:=F_Walk___init__.binds (ps:=["self","stand","budget"]) fun _ _ _ _ _ _ us hl=>match us,hl with | [_,_,_],_=>rfl
 have MK_Walk:Mk K CWalk f_Walk___init__:=⟨mk_Walk,a_Walk___init__,i_Walk___init__,kc_Walk⟩
 have F_Walk_at_end:=fun_mk (st:=s_Walk_at_end) l_Walk_at_end c_Walk_at_end k_Walk_at_end
 have b_Walk_at_end:=F_Walk_at_end.binds (ps:=["self"]) fun _ _ _ _ _ _ us hl=>match us,hl with | [_],_=>rfl
 have M_Walk_at_end:Meth K CWalk "at_end" f_Walk_at_end:=⟨a_Walk_at_end,i_Walk_at_end,k_Walk_at_end⟩
 have F_Walk_top:=fun_mk (st:=s_Walk_top) l_Walk_top c_Walk_top k_Walk_top
 have b_Walk_top:=F_Walk_top.binds (ps:=["self"]) fun _ _ _ _ _ _ us hl=>match us,hl with | [_],_=>rfl
 have M_Walk_top:Meth K CWalk "top" f_Walk_top:=⟨a_Walk_top,i_Walk_top,k_Walk_top⟩
 have F_Walk_tally:=fun_mk (st:=s_Walk_tally) l_Walk_tally c_Walk_tally k_Walk_tally
 have b_Walk_tally:=F_Walk_tally.binds (ps:=["self"]) fun _ _ _ _ _ _ us hl=>match us,hl with | [_],_=>rfl
 have M_Walk_tally:Meth K CWalk "tally" f_Walk_tally:=⟨a_Walk_tally,i_Walk_tally,k_Walk_tally⟩
 have F_Walk_step:=fun_mk (st:=s_Walk_step) l_Walk_step c_Walk_step k_Walk_step
 have b_Walk_step:=F_Walk_step.binds (ps:=["self"]) fun _ _ _ _ _ _ us hl=>match us,hl with | [_],_=>rfl
 have M_Walk_step:Meth K CWalk "step" f_Walk_step:=⟨a_Walk_step,i_Walk_step,k_Walk_step⟩
 have F_Walk_move:=fun_mk (st:=s_Walk_move) l_Walk_move c_Walk_move k_Walk_move
 have b_Walk_move:=F_Walk_move.binds (ps:=["self","step","going","word"]) fun _ _ _ _ _ _ us hl=>match us,hl with | [_,_,_,_],_=>rfl
 have M_Walk_move:Meth K CWalk "move" f_Walk_move:=⟨a_Walk_move,i_Walk_move,k_Walk_move⟩
 have F___init__:=fun_mk (st:=s___init__) l___init__ c___init__ k___init__
 have b___init__:=F___init__.binds (ps:=["self"]) fun _ _ _ _ _ _ us hl=>match us,hl with | [_],_=>rfl
 have F_take:=fun_mk (st:=s_take) l_take c_take k_take
 have b_take:=F_take.binds (ps:=["self","piece"]) fun _ _ _ _ _ _ us hl=>match us,hl with | [_,_],_=>rfl
 have M_take:Meth K C "take" f_take:=⟨a_take,i_take,k_take⟩
 have F_enter:=fun_mk (st:=s_enter) l_enter c_enter k_enter
 have b_enter:=F_enter.binds (ps:=["self","place"]) fun _ _ _ _ _ _ us hl=>match us,hl with | [_,_],_=>rfl
 have M_enter:Meth K C "enter" f_enter:=⟨a_enter,i_enter,k_enter⟩
 have F_leave:=fun_mk (st:=s_leave) l_leave c_leave k_leave
 have b_leave:=F_leave.binds (ps:=["self"]) fun _ _ _ _ _ _ us hl=>match us,hl with | [_],_=>rfl
 have M_leave:Meth K C "leave" f_leave:=⟨a_leave,i_leave,k_leave⟩
 have F_bracketed:=fun_mk (st:=s_bracketed) l_bracketed c_bracketed k_bracketed
 have b_bracketed:=F_bracketed.binds (ps:=["self"]) fun _ _ _ _ _ _ us hl=>match us,hl with | [_],_=>rfl
 have M_bracketed:Meth K C "bracketed" f_bracketed:=⟨a_bracketed,i_bracketed,k_bracketed⟩
 have F_add_word:=fun_mk (st:=s_add_word) l_add_word c_add_word k_add_word
 have b_add_word:=F_add_word.binds (ps:=["self","word"]) fun _ _ _ _ _ _ us hl=>match us,hl with | [_,_],_=>rfl
 have M_add_word:Meth K C "add_word" f_add_word:=⟨a_add_word,i_add_word,k_add_word⟩
 have F_whole:=fun_mk (st:=s_whole) l_whole c_whole k_whole
 have b_whole:=F_whole.binds (ps:=["self"]) fun _ _ _ _ _ _ us hl=>match us,hl with | [_],_=>rfl
 have M_whole:Meth K C "whole" f_whole:=⟨a_whole,i_whole,k_whole⟩
 have cC:Cls K C:=⟨pg,hd,po,sa⟩
 have MK:Mk K C f___init__:=⟨mk,a___init__,i___init__,kc⟩
 have m_Reading:=PySem.W.mg_of X G aC
 have m_LAY:=PySem.W.mg_of X G e_LAY
 have m_DROP:=PySem.W.mg_of X G e_DROP
 have m_TURN:=PySem.W.mg_of X G e_TURN
 have m_FORK_NO:=PySem.W.mg_of X G e_FORK_NO
 have m_FORK_YES:=PySem.W.mg_of X G e_FORK_YES
 have m_WHILE_PAST:=PySem.W.mg_of X G e_WHILE_PAST
 have m_WHILE_INTO:=PySem.W.mg_of X G e_WHILE_INTO
 have m_NO_WORD:=PySem.W.mg_of X G e_NO_WORD
 have m_SWAP:=PySem.W.mg_of X G e_SWAP
 have m_FRONT:=PySem.W.mg_of X G e_FRONT
 have m_PART:=PySem.W.mg_of X G e_PART
 have m_PLACES:=PySem.W.mg_of X G e_PLACES
 have m_SHUT:=PySem.W.mg_of X G e_SHUT
 have m_BODIES:=PySem.W.mg_of X G e_BODIES
 have m_LOOKS:=PySem.W.mg_of X G e_LOOKS
 have q_LOOKS:=fun H=>t_LOOKS.sq (H:=H) l_LOOKS
 have m_NAMES:=PySem.W.mg_of X G e_NAMES
 have q_NAMES:=fun H=>y_NAMES.sq (H:=H) l_NAMES
 have t_NAMES:∃ ob,K.lookup a_NAMES=some ob∧ob.cls=.type "tuple"∧ob.dict=none:=⟨_,l_NAMES,x_NAMES⟩
 have m_NAMELESS:=PySem.W.mg_of X G e_NAMELESS
 have m_FORK:=PySem.W.mg_of X G e_FORK
 have m_WHILE:=PySem.W.mg_of X G e_WHILE
 have m_COPIED:=PySem.W.mg_of X G e_COPIED
 have m_TWIN:=PySem.W.mg_of X G e_TWIN
 refine⟨PySem.W.fnOf "law" "law" (defArgs s_law) (defBody s_law) (defScope s_law) .none kV43 dc43 pm43 an43 cd43 ct43,fun s v=>.of_eq rfl,fun base _ _=>?_⟩
 have O1:=ok_first (P:=l.prog) (w:=w) (mg:=mg) (base:=base) F1
 have O2:=ok_rest (P:=l.prog) (w:=w) (mg:=mg) (base:=base) F2
 have O3:=ok_parts (P:=l.prog) (w:=w) (mg:=mg) (base:=base) F3
 have O6:=ok_lay (P:=l.prog) (w:=w) (mg:=mg) (base:=base) F6
 have O7:=ok_plain (P:=l.prog) (w:=w) (mg:=mg) (base:=base) F7
 have O8:=ok_fork (P:=l.prog) (w:=w) (mg:=mg) (base:=base) m_FORK r_FORK F8
 have O9:=ok_loop (P:=l.prog) (w:=w) (mg:=mg) (base:=base) m_WHILE r_WHILE F9
 have O11:=ok_begin (P:=l.prog) (w:=w) (mg:=mg) (base:=base) F11
 have O12:=ok_place_of (P:=l.prog) (w:=w) (mg:=mg) (base:=base) O m_FORK r_FORK m_FORK_NO r_FORK_NO m_FORK_YES r_FORK_YES m_WHILE r_WHILE m_WHILE_PAST r_WHILE_PAST m_WHILE_INTO r_WHILE_INTO m_NAMELESS r_NAMELESS m_NO_WORD r_NO_WORD F12
 have O13:=ok_cost (P:=l.prog) (w:=w) (mg:=mg) (base:=base) m_sum m_COPIED r_COPIED m_TWIN r_TWIN F13
 have O18:=ok_show_tree (P:=l.prog) (w:=w) (mg:=mg) (base:=base) m_list m_reversed F18
 have O19:=(ok_read_treeL (P:=l.prog) (w:=w) (mg:=mg) (base:=base) m_isinstance m_str m_len m_tuple F19).imp weakRead
 have O24:=ok_pieces_of (P:=l.prog) (w:=w) (mg:=mg) (base:=base) F24
 have O30:=ok_unfronted (P:=l.prog) (w:=w) (mg:=mg) (base:=base) O m_isinstance m_Later F30
 have O37:=ok__law_next (P:=l.prog) (w:=w) (mg:=mg) (base:=base) m_len F37
 have O39:=ok__law_leaves (P:=l.prog) (w:=w) (mg:=mg) (base:=base) F39
 have O41:=ok__law_whole (P:=l.prog) (w:=w) (mg:=mg) (base:=base) m_isinstance m_bool m_int F41
 have O_Fronted___init__:=ok_Fronted___init__ (P:=l.prog) (w:=w) (mg:=mg) (base:=base) O F_Fronted___init__
 have O_Later___init__:=ok_Later___init__ (P:=l.prog) (w:=w) (mg:=mg) (base:=base) O F_Later___init__
 have O_Text___init__:=ok_Text___init__ (P:=l.prog) (w:=w) (mg:=mg) (base:=base) O F_Text___init__
 have O_Going___init__:=ok_Going___init__ (P:=l.prog) (w:=w) (mg:=mg) (base:=base) O F_Going___init__
 have O_Walk_at_end:=ok_Walk_at_end (P:=l.prog) (w:=w) (mg:=mg) (base:=base) O F_Walk_at_end
 have O_Walk_top:=ok_Walk_top (P:=l.prog) (w:=w) (mg:=mg) (base:=base) O F_Walk_top
 have O_Walk_tally:=ok_Walk_tally (P:=l.prog) (w:=w) (mg:=mg) (base:=base) O m_tuple F_Walk_tally
 have O___init__:=ok___init__ (P:=l.prog) (w:=w) (mg:=mg) (base:=base) cC nR nP nN F___init__
 have O_enter:=ok_enter (P:=l.prog) (w:=w) (mg:=mg) (base:=base) cC nR nP nN F_enter
 have O_leave:=ok_leave (P:=l.prog) (w:=w) (mg:=mg) (base:=base) cC nR nP nN m_tuple F_leave
 have O_add_word:=ok_add_word (P:=l.prog) (w:=w) (mg:=mg) (base:=base) cC nR nP nN F_add_word
 have O_whole:=ok_whole (P:=l.prog) (w:=w) (mg:=mg) (base:=base) cC nR nP nN m_len m_tuple F_whole
 have O4:=ok_sort_of (P:=l.prog) (w:=w) (mg:=mg) (base:=base) m_min m_len m_NAMELESS r_NAMELESS F1 (O1.mono (by decide)) b1 m1 F4
 have O5:=ok_load_of (P:=l.prog) (w:=w) (mg:=mg) (base:=base) F2 (O2.mono (by decide)) b2 m2 F5
 have O10:=ok_plains (P:=l.prog) (w:=w) (mg:=mg) (base:=base) m_tuple m_NAMES q_NAMES F7 (O7.mono (by decide)) b7 m7 t_NAMES F10
 have O14:=ok_selfmade (P:=l.prog) (w:=w) (mg:=mg) (base:=base) F6 (O6.mono (by decide)) b6 m6 F14
 have O26:=ok_tree_of (P:=l.prog) (w:=w) (mg:=mg) (base:=base) F19 (O19.mono (by decide)) b19 m19 F26
 have O27:=ok_first_of (P:=l.prog) (w:=w) (mg:=mg) (base:=base) O m_isinstance F1 (O1.mono (by decide)) b1 m1 m_Fronted m_Later F27
 have O31:=ok_parts_within (P:=l.prog) (w:=w) (mg:=mg) (base:=base) O m_isinstance F30 (O30.mono (by decide)) b30 m30 m_Fronted F31
 have O32:=ok_as_tree (P:=l.prog) (w:=w) (mg:=mg) (base:=base) O m_isinstance m_tuple F30 (O30.mono (by decide)) b30 m30 m_Fronted F32
 have O36:=ok__law_deck (P:=l.prog) (w:=w) (mg:=mg) (base:=base) m_range m_len F36
 have O16:=ok_lay_made (P:=l.prog) (w:=w) (mg:=mg) (base:=base) F6 (O6.mono (by decide)) b6 m6 F10 (O10.mono (by decide)) b10 m10 F16
 have O22:=ok_odd (P:=l.prog) (w:=w) (mg:=mg) (base:=base) m_any m_WHILE r_WHILE m_LAY r_LAY m_FORK r_FORK m_NAMELESS r_NAMELESS F1 (O1.mono (by decide)) b1 m1 F4 (O4.mono (by decide)) b4 m4 F5 (O5.mono (by decide)) b5 m5 F22
 have O29:=ok_later (P:=l.prog) (w:=w) (mg:=mg) (base:=base) O m_len m_Later MK_Later (O_Later___init__.mono (by decide)) b_Later___init__ F29
 have O_Word_body_parts:=ok_Word_body_parts (P:=l.prog) (w:=w) (mg:=mg) (base:=base) O F3 (O3.mono (by decide)) b3 m3 F_Word_body_parts
 have O_Walk___init__:=ok_Walk___init__ (P:=l.prog) (w:=w) (mg:=mg) (base:=base) O m_reversed m_list m_PLACES r_PLACES m_Going m_Text MK_Going (O_Going___init__.mono (by decide)) b_Going___init__ MK_Text (O_Text___init__.mono (by decide)) b_Text___init__ F_Walk___init__
 have O_bracketed:=ok_bracketed (P:=l.prog) (w:=w) (mg:=mg) (base:=base) cC nR nP nN F9 (O9.mono (by decide)) b9 m9 F8 (O8.mono (by decide)) b8 m8 M_leave (O_leave.mono (by decide)) b_leave F_bracketed
 have O15:=ok_selfmaker (P:=l.prog) (w:=w) (mg:=mg) (base:=base) F10 (O10.mono (by decide)) b10 m10 F16 (O16.mono (by decide)) b16 m16 F15
 have O21:=ok_spelled (P:=l.prog) (w:=w) (mg:=mg) (base:=base) m_LAY r_LAY m_FORK r_FORK m_NAMES q_NAMES m_WHILE r_WHILE F22 (O22.mono (by decide)) b22 m22 F18 (O18.mono (by decide)) b18 m18 F4 (O4.mono (by decide)) b4 m4 F5 (O5.mono (by decide)) b5 m5 F1 (O1.mono (by decide)) b1 m1 F2 (O2.mono (by decide)) b2 m2 F21
 have O25:=ok_word_of (P:=l.prog) (w:=w) (mg:=mg) (base:=base) m_NAMES q_NAMES m_DROP r_DROP m_TURN r_TURN F7 (O7.mono (by decide)) b7 m7 F6 (O6.mono (by decide)) b6 m6 F26 (O26.mono (by decide)) b26 m26 F22 (O22.mono (by decide)) b22 m22 t_NAMES F25
 have O28:=ok_rest_of (P:=l.prog) (w:=w) (mg:=mg) (base:=base) O m_isinstance F29 (O29.mono (by decide)) b29 m29 m_Fronted m_Later F28
 have O_Word___init__:=ok_Word___init__ (P:=l.prog) (w:=w) (mg:=mg) (base:=base) O m_FORK r_FORK m_WHILE r_WHILE F4 (O4.mono (by decide)) b4 m4 F5 (O5.mono (by decide)) b5 m5 F1 (O1.mono (by decide)) b1 m1 F2 (O2.mono (by decide)) b2 m2 m_Text MK_Text (O_Text___init__.mono (by decide)) b_Text___init__ F_Word___init__
 have O38:=okN_tree (P:=l.prog) (w:=w) (mg:=mg) (base:=base) m_tuple m_range F37 (O37.mono (by decide)) b37 m37 F38 b38 m38 3
 have O17:=ok_selfteller (P:=l.prog) (w:=w) (mg:=mg) (base:=base) F14 (O14.mono (by decide)) b14 m14 F15 (O15.mono (by decide)) b15 m15 F17
 have O20:=ok_show (P:=l.prog) (w:=w) (mg:=mg) (base:=base) m_list m_reversed m_isinstance m_str F21 (O21.mono (by decide)) b21 m21 F20
 have O35:=ok_work (P:=l.prog) (w:=w) (mg:=mg) (base:=base) O m_LAY r_LAY m_DROP r_DROP m_TWIN r_TWIN m_SWAP r_SWAP m_FRONT r_FRONT m_PART r_PART m_TURN r_TURN F28 (O28.mono (by decide)) b28 m28 F27 (O27.mono (by decide)) b27 m27 m_Fronted MK_Fronted (O_Fronted___init__.mono (by decide)) b_Fronted___init__ F35
 have O_Text_word_at:=ok_Text_word_at (P:=l.prog) (w:=w) (mg:=mg) (base:=base) O m_len m_Word MK_Word (O_Word___init__.mono (by decide)) b_Word___init__ F_Text_word_at
 have O_Walk_move:=ok_Walk_move (P:=l.prog) (w:=w) (mg:=mg) (base:=base) O m_SHUT r_SHUT m_WHILE_INTO r_WHILE_INTO m_BODIES r_BODIES m_FORK_YES r_FORK_YES m_FORK_NO r_FORK_NO F35 (O35.mono (by decide)) b35 m35 m_Going M_Word_body_parts (O_Word_body_parts.mono (by decide)) b_Word_body_parts MK_Going (O_Going___init__.mono (by decide)) b_Going___init__ F_Walk_move
 have O40:=okN_trees (P:=l.prog) (w:=w) (mg:=mg) (base:=base) m_isinstance m_tuple m_all F40 b40 m40 20
 have O_Walk_step:=ok_Walk_step (P:=l.prog) (w:=w) (mg:=mg) (base:=base) O m_len m_SHUT r_SHUT m_TWIN r_TWIN m_COPIED r_COPIED m_LOOKS q_LOOKS F12 (O12.mono (by decide)) b12 m12 F31 (O31.mono (by decide)) b31 m31 M_Text_word_at (O_Text_word_at.mono (by decide)) b_Text_word_at M_Walk_top (O_Walk_top.mono (by decide)) b_Walk_top M_Walk_move (O_Walk_move.mono (by decide)) b_Walk_move F_Walk_step
 have O34:=ok_walked (P:=l.prog) (w:=w) (mg:=mg) (base:=base) O m_Walk MK_Walk (O_Walk___init__.mono (by decide)) b_Walk___init__ M_Walk_step (O_Walk_step.mono (by decide)) b_Walk_step M_Walk_at_end (O_Walk_at_end.mono (by decide)) b_Walk_at_end F34
 have O33:=ok_run (P:=l.prog) (w:=w) (mg:=mg) (base:=base) O F34 (O34.mono (by decide)) b34 m34 F11 (O11.mono (by decide)) b11 m11 F13 (O13.mono (by decide)) b13 m13 F32 (O32.mono (by decide)) b32 m32 M_Walk_tally (O_Walk_tally.mono (by decide)) b_Walk_tally M_Walk_at_end (O_Walk_at_end.mono (by decide)) b_Walk_at_end M_Walk_top (O_Walk_top.mono (by decide)) b_Walk_top F33
 have O_take:=ok_take (P:=l.prog) (w:=w) (mg:=mg) (base:=base) cC nR nP nN m_NAMES q_NAMES m_FORK r_FORK m_WHILE r_WHILE F25 (O25.mono (by decide)) b25 m25 M_enter (O_enter.mono (by decide)) b_enter M_add_word (O_add_word.mono (by decide)) b_add_word M_bracketed (O_bracketed.mono (by decide)) b_bracketed F_take
 have O23:=ok_read (P:=l.prog) (w:=w) (mg:=mg) (base:=base) cC nR nP nN m_isinstance m_str F24 (O24.mono (by decide)) b24 m24 MK (O___init__.mono (by decide)) b___init__ m_Reading M_take (O_take.mono (by decide)) b_take M_whole (O_whole.mono (by decide)) b_whole F23
 have O42:=ok__law_tells (P:=l.prog) (w:=w) (mg:=mg) (base:=base) F33 (O33.mono (by decide)) b33 m33 F17 (O17.mono (by decide)) b17 m17 F40 (O40.mono (by decide)) b40 m40 F41 (O41.mono (by decide)) b41 m41 F42
 exact ok_law (P:=l.prog) (w:=w) (mg:=mg) (base:=base) m_tuple F36 (O36.mono (by decide)) b36 m36 F38 (O38.mono (by decide)) b38 m38 F37 (O37.mono (by decide)) b37 m37 F39 (O39.mono (by decide)) b39 m39 F42 (O42.mono (by decide)) b42 m42 F17 (O17.mono (by decide)) b17 m17 F19 (O19.mono (by decide)) b19 m19 F18 (O18.mono (by decide)) b18 m18 F23 (O23.mono (by decide)) b23 m23 F20 (O20.mono (by decide)) b20 m20 F43
theorem walk {l:PySem.W.OpenLaw}{q:Program}{loose:List Str}{XP:(Str→Option Value)→Heap→Prop}{YP:World→Heap→Prop}{d:DefRec}{K:Params→PySem.W.Frag} (hn:l.most=some 63) (hdf:d.params.defaults=[])
  (hY:∀ (w:World) (h:Heap),YP w h→(K w.params).In h)
  (F:∀ (w:World) (mg:Str→Option Value) (fa:Addr) (h:Heap),(K w.params).In h→h.Ns mainGlobals mg→mg d.name=some (.ref fa) →
   ∃ fd:FuncData,(∀ (s:Shared) (u:Value),BindsTo s fd ⟨[u],[]⟩ [("_law_script",u)])∧∀ base:Heap,(K w.params).In base→base.Ns mainGlobals mg→FnOk l.prog w (K w.params) mg base CX0 60 fa fd ["_law_script"] (spLaw (K w.params))) :
  PySem.W.WalkO q loose XP YP l.row.toRowW d [] (fun f vs=>PySem.call f vs) :=
 L2.walk_of (n:=63) (k:=60) (x:="_law_script") (CX:=fun _=>CX0) (sp:=fun w=>spLaw (K w.params)) hn (by decide) hdf ⟨rfl,by decide,by decide⟩ hY F (fun _ _ a ns hl _ hS=>⟨a,ns,rfl,hS,hl,fun _=>rfl⟩) fun _ _ _ _ _ z=>z
theorem walkX_of {q:Program}{loose:List Str}{XP:(Str→Option Value)→Heap→Prop}{K:Params→PySem.W.Frag}{n t:Nat}{ad:List Addr}{r:PySem.W.RowW}{d:DefRec}{kwd:List (Str×Expr)}{run:Value→List Value→Sem Value}
  (h:PySem.W.WalkO q loose XP (fun w hp=>(K w.params).In hp) r d kwd run)
  (hI:∀ (w:World) (s₀ s₁:Shared) (args:List PySem.W.WData) (vals:List Value) (as:List Addr),PySem.W.X.obsZ ad s₀=PySem.W.X.valZ K n t w→PySem.W.Laid r.records w s₀ s₁ args vals as→(K w.params).In s₁.heap) :
  PySem.W.WalkX q loose XP (PySem.W.X.obsZ ad) (PySem.W.X.valZ K n t) r d kwd run :=
 fun w s₀ s₁ mg mb G y a o pm cd doc dV kV ho hd hcd hD hmg hg args vals as L hpre hlay hrd hwl hlo=>h w s₀ s₁ mg mb G (hI w s₀ s₁ args vals as y L) a o pm cd doc dV kV ho hd hcd hD hmg hg args vals as hpre hlay hrd hwl hlo
end Sw75
def PySem.W.Fast.tw4071422941954054649:Nat:=0
def PySem.W.Fast.tw17329029352563147977:Nat:=0
def PySem.W.Fast.tw9063318058327622439:Nat:=0
def PySem.W.Fast.tw15818334976314352287:Nat:=0
def PySem.W.Fast.tw17256098502068533950:Nat:=0
def PySem.W.Fast.tw7346820066579423677:Nat:=0
def PySem.W.Fast.tw5653555465255227978:Nat:=0
def PySem.W.Fast.tw12515101395904350902:Nat:=0
def PySem.W.Fast.tw8301721508184357257:Nat:=0
def PySem.W.Fast.tw16150231691711838390:Nat:=0
def PySem.W.Fast.tw4294841413030717107:Nat:=0
def PySem.W.Fast.tw8973560323949856067:Nat:=0
def PySem.W.Fast.tw1005639641340931277:Nat:=0
def PySem.W.Fast.tw17785615503567232547:Nat:=0
def PySem.W.Fast.tw13197708508320866252:Nat:=0
def PySem.W.Fast.tw2727307853545237360:Nat:=0
def PySem.W.Fast.tw13224848854245273451:Nat:=0
def PySem.W.Fast.tw5612293995797384210:Nat:=0
def PySem.W.Fast.tw11038348103982838558:Nat:=0
def PySem.W.Fast.tw11739364994300370072:Nat:=0
def PySem.W.Fast.tw12025265466244003376:Nat:=0
def PySem.W.Fast.tw14920337112676690669:Nat:=0
def PySem.W.Fast.tw6224734220195411051:Nat:=0
def PySem.W.Fast.tw3961023560364124442:Nat:=0
def PySem.W.Fast.tw3394307436683705750:Nat:=0
def PySem.W.Fast.tw16001089356834456026:Nat:=0
def PySem.W.Fast.tw13933111604245901942:Nat:=0
def PySem.W.Fast.tw2637994891440767490:Nat:=0
def PySem.W.Fast.tw15418438828806421664:Nat:=0
def PySem.W.Fast.tw14872758391135482765:Nat:=0
def PySem.W.Fast.tw6660077337598758026:Nat:=0
def PySem.W.Fast.tw13734100786340652855:Nat:=0
def PySem.W.Fast.tw6226493344035789544:Nat:=0
def PySem.W.Fast.tw11101734377914662913:Nat:=0
def PySem.W.Fast.tw2297166891243556987:Nat:=0
def PySem.W.Fast.tw15173996905780372931:Nat:=0
def PySem.W.Fast.tw3228926623145506581:Nat:=0
def PySem.W.Fast.tw6351456005220559679:Nat:=0
def PySem.W.Fast.tw8927271154168594378:Nat:=0
def PySem.W.Fast.tw10653131222962945736:Nat:=0
def PySem.W.Fast.tw9616395202342751411:Nat:=0
def PySem.W.Fast.tw10680937613509551069:Nat:=0
def PySem.W.Fast.tw12668470330739795061:Nat:=0
open PySem PySem.W PyProof.Rows
set_option maxRecDepth 100000 in
set_option maxHeartbeats 0 in
theorem PySem.Challenge.cw_selfword_k75_the_selfteller_holds : PySem.Challenge.rw_selfword_k75_the_selfteller.Holds := by
 w_on; o_law; z_head; (case hw=>w_witness2)
 k_fill
 refine Sw75.walkX_of (Sw75.walk (l:=PySem.Challenge.rw_selfword_k75_the_selfteller) rfl rfl (fun w h Y=>Y) ?F) ?I
 case I =>
  intro w s₀ s₁ args vals as y L
  z_open y L KX ZH ZN ZT
  exact KX
 case F =>
  intro w mg fa h KX G hmg
  refine' Sw75.all_mk KX G hmg ?a1 ?l1 ?c1 ?k1 ?a2 ?l2 ?c2 ?k2 ?a3 ?l3 ?c3 ?k3 ?a4 ?l4 ?c4 ?k4 ?a5 ?l5 ?c5 ?k5 ?a6 ?l6 ?c6 ?k6 ?a7 ?l7 ?c7 ?k7 ?a8 ?l8 ?c8 ?k8 ?a9 ?l9 ?c9 ?k9 ?a10 ?l10 ?c10 ?k10 ?a11 ?l11 ?c11 ?k11 ?a12 ?l12 ?c12 ?k12 ?a13 ?l13 ?c13 ?k13 ?a14 ?l14 ?c14 ?k14 ?a15 ?l15 ?c15 ?k15 ?a16 ?l16 ?c16 ?k16 ?a17 ?l17 ?c17 ?k17 ?a18 ?l18 ?c18 ?k18 ?a19 ?l19 ?c19 ?k19 ?a20 ?l20 ?c20 ?k20 ?a21 ?l21 ?c21 ?k21 ?a22 ?l22 ?c22 ?k22 ?a23 ?l23 ?c23 ?k23 ?a24 ?l24 ?c24 ?k24 ?a25 ?l25 ?c25 ?k25 ?a26 ?l26 ?c26 ?k26 ?a27 ?l27 ?c27 ?k27 ?a28 ?l28 ?c28 ?k28 ?a29 ?l29 ?c29 ?k29 ?a30 ?l30 ?c30 ?k30 ?a31 ?l31 ?c31 ?k31 ?a32 ?l32 ?c32 ?k32 ?a33 ?l33 ?c33 ?k33 ?a34 ?l34 ?c34 ?k34 ?a35 ?l35 ?c35 ?k35 ?a36 ?l36 ?c36 ?k36 ?a37 ?l37 ?c37 ?k37 ?a38 ?l38 ?c38 ?k38 ?a39 ?l39 ?c39 ?k39 ?a40 ?l40 ?c40 ?k40 ?a41 ?l41 ?c41 ?k41 ?a42 ?l42 ?c42 ?k42 ?a43 ?l43 ?c43 ?k43 ?aC_Fronted ?pg_Fronted ?hd_Fronted ?po_Fronted ?sa_Fronted ?mk_Fronted ?kc_Fronted ?n_Fronted_item ?n_Fronted_behind ?aC_Later ?pg_Later ?hd_Later ?po_Later ?sa_Later ?mk_Later ?kc_Later ?n_Later_tree ?n_Later_place ?aC_Word ?pg_Word ?hd_Word ?po_Word ?sa_Word ?mk_Word ?kc_Word ?n_Word_kind ?n_Word_load ?n_Word_yes ?n_Word_no ?n_Word_body ?n_Word_size ?aC_Text ?pg_Text ?hd_Text ?po_Text ?sa_Text ?mk_Text ?kc_Text ?n_Text_tree ?n_Text_words ?aC_Going ?pg_Going ?hd_Going ?po_Going ?sa_Going ?mk_Going ?kc_Going ?n_Going_text ?n_Going_place ?aC_Walk ?pg_Walk ?hd_Walk ?po_Walk ?sa_Walk ?mk_Walk ?kc_Walk ?n_Walk_goings ?n_Walk_stack ?n_Walk_numbers ?n_Walk_left ?eq_Fronted ?ob_Fronted ?tu_Fronted ?sb_Fronted ?ca_Fronted ?eq_Later ?ob_Later ?tu_Later ?sb_Later ?ca_Later ?cn ?ct ?iTF ?iTL ?iFF ?iLF ?iLL ?a_Fronted___init__ ?i_Fronted___init__ ?l_Fronted___init__ ?c_Fronted___init__ ?k_Fronted___init__ ?a_Later___init__ ?i_Later___init__ ?l_Later___init__ ?c_Later___init__ ?k_Later___init__ ?a_Word___init__ ?i_Word___init__ ?l_Word___init__ ?c_Word___init__ ?k_Word___init__ ?a_Word_body_parts ?i_Word_body_parts ?l_Word_body_parts ?c_Word_body_parts ?k_Word_body_parts ?a_Text___init__ ?i_Text___init__ ?l_Text___init__ ?c_Text___init__ ?k_Text___init__ ?a_Text_word_at ?i_Text_word_at ?l_Text_word_at ?c_Text_word_at ?k_Text_word_at ?a_Going___init__ ?i_Going___init__ ?l_Going___init__ ?c_Going___init__ ?k_Going___init__ ?a_Walk___init__ ?i_Walk___init__ ?l_Walk___init__ ?c_Walk___init__ ?k_Walk___init__ ?a_Walk_at_end ?i_Walk_at_end ?l_Walk_at_end ?c_Walk_at_end ?k_Walk_at_end ?a_Walk_top ?i_Walk_top ?l_Walk_top ?c_Walk_top ?k_Walk_top ?a_Walk_tally ?i_Walk_tally ?l_Walk_tally ?c_Walk_tally ?k_Walk_tally ?a_Walk_step ?i_Walk_step ?l_Walk_step ?c_Walk_step ?k_Walk_step ?a_Walk_move ?i_Walk_move ?l_Walk_move ?c_Walk_move ?k_Walk_move ?aC ?a___init__ ?i___init__ ?l___init__ ?c___init__ ?k___init__ ?a_take ?i_take ?l_take ?c_take ?k_take ?a_enter ?i_enter ?l_enter ?c_enter ?k_enter ?a_leave ?i_leave ?l_leave ?c_leave ?k_leave ?a_bracketed ?i_bracketed ?l_bracketed ?c_bracketed ?k_bracketed ?a_add_word ?i_add_word ?l_add_word ?c_add_word ?k_add_word ?a_whole ?i_whole ?l_whole ?c_whole ?k_whole ?pg ?hd ?po ?sa ?mk ?kc ?nR ?nP ?nN ?e_LAY ?r_LAY ?e_DROP ?r_DROP ?e_TURN ?r_TURN ?e_FORK_NO ?r_FORK_NO ?e_FORK_YES ?r_FORK_YES ?e_WHILE_PAST ?r_WHILE_PAST ?e_WHILE_INTO ?r_WHILE_INTO ?e_NO_WORD ?r_NO_WORD ?e_SWAP ?r_SWAP ?e_FRONT ?r_FRONT ?e_PART ?r_PART ?e_PLACES ?r_PLACES ?e_SHUT ?r_SHUT ?e_BODIES ?r_BODIES ?e_LOOKS ?l_LOOKS ?t_LOOKS ?e_NAMES ?l_NAMES ?y_NAMES ?x_NAMES ?e_NAMELESS ?r_NAMELESS ?e_FORK ?r_FORK ?e_WHILE ?r_WHILE ?e_COPIED ?r_COPIED ?e_TWIN ?r_TWIN ?z_min ?z_len ?z_tuple ?z_sum ?z_list ?z_reversed ?z_isinstance ?z_str ?z_any ?z_range ?z_all ?z_bool ?z_int
  (case a1=>k_is); (case l1=>k_is); (case c1=>k_is); (case k1=>k_is)
  (case a2=>k_is); (case l2=>k_is); (case c2=>k_is); (case k2=>k_is)
  (case a3=>k_is); (case l3=>k_is); (case c3=>k_is); (case k3=>k_is)
  (case a4=>k_is); (case l4=>k_is); (case c4=>k_is); (case k4=>k_is)
  (case a5=>k_is); (case l5=>k_is); (case c5=>k_is); (case k5=>k_is)
  (case a6=>k_is); (case l6=>k_is); (case c6=>k_is); (case k6=>k_is)
  (case a7=>k_is); (case l7=>k_is); (case c7=>k_is); (case k7=>k_is)
  (case a8=>k_is); (case l8=>k_is); (case c8=>k_is); (case k8=>k_is)
  (case a9=>k_is); (case l9=>k_is); (case c9=>k_is); (case k9=>k_is)
  (case a10=>k_is); (case l10=>k_is); (case c10=>k_is); (case k10=>k_is)
  (case a11=>k_is); (case l11=>k_is); (case c11=>k_is); (case k11=>k_is)
  (case a12=>k_is); (case l12=>k_is); (case c12=>k_is); (case k12=>k_is)
  (case a13=>k_is); (case l13=>k_is); (case c13=>k_is); (case k13=>k_is)
  (case a14=>k_is); (case l14=>k_is); (case c14=>k_is); (case k14=>k_is)
  (case a15=>k_is); (case l15=>k_is); (case c15=>k_is); (case k15=>k_is)
  (case a16=>k_is); (case l16=>k_is); (case c16=>k_is); (case k16=>k_is)
  (case a17=>k_is); (case l17=>k_is); (case c17=>k_is); (case k17=>k_is)
  (case a18=>k_is); (case l18=>k_is); (case c18=>k_is); (case k18=>k_is)
  (case a19=>k_is); (case l19=>k_is); (case c19=>k_is); (case k19=>k_is)
  (case a20=>k_is); (case l20=>k_is); (case c20=>k_is); (case k20=>k_is)
  (case a21=>k_is); (case l21=>k_is); (case c21=>k_is); (case k21=>k_is)
  (case a22=>k_is); (case l22=>k_is); (case c22=>k_is); (case k22=>k_is)
  (case a23=>k_is); (case l23=>k_is); (case c23=>k_is); (case k23=>k_is)
  (case a24=>k_is); (case l24=>k_is); (case c24=>k_is); (case k24=>k_is)
  (case a25=>k_is); (case l25=>k_is); (case c25=>k_is); (case k25=>k_is)
  (case a26=>k_is); (case l26=>k_is); (case c26=>k_is); (case k26=>k_is)
  (case a27=>k_is); (case l27=>k_is); (case c27=>k_is); (case k27=>k_is)
  (case a28=>k_is); (case l28=>k_is); (case c28=>k_is); (case k28=>k_is)
  (case a29=>k_is); (case l29=>k_is); (case c29=>k_is); (case k29=>k_is)
  (case a30=>k_is); (case l30=>k_is); (case c30=>k_is); (case k30=>k_is)
  (case a31=>k_is); (case l31=>k_is); (case c31=>k_is); (case k31=>k_is)
  (case a32=>k_is); (case l32=>k_is); (case c32=>k_is); (case k32=>k_is)
  (case a33=>k_is); (case l33=>k_is); (case c33=>k_is); (case k33=>k_is)
  (case a34=>k_is); (case l34=>k_is); (case c34=>k_is); (case k34=>k_is)
  (case a35=>k_is); (case l35=>k_is); (case c35=>k_is); (case k35=>k_is)
  (case a36=>k_is); (case l36=>k_is); (case c36=>k_is); (case k36=>k_is)
  (case a37=>k_is); (case l37=>k_is); (case c37=>k_is); (case k37=>k_is)
  (case a38=>k_is); (case l38=>k_is); (case c38=>k_is); (case k38=>k_is)
  (case a39=>k_is); (case l39=>k_is); (case c39=>k_is); (case k39=>k_is)
  (case a40=>k_is); (case l40=>k_is); (case c40=>k_is); (case k40=>k_is)
  (case a41=>k_is); (case l41=>k_is); (case c41=>k_is); (case k41=>k_is)
  (case a42=>k_is); (case l42=>k_is); (case c42=>k_is); (case k42=>k_is)
  (case a43=>k_is); (case l43=>k_is); (case c43=>k_is); (case k43=>k_is)
  (case aC_Fronted=>k_is)
  (case pg_Fronted=>k_is)
  (case hd_Fronted=>k_is)
  (case po_Fronted=>k_is)
  (case sa_Fronted=>k_is)
  (case mk_Fronted=>k_is)
  (case kc_Fronted=>k_is)
  (case n_Fronted_item=>k_is)
  (case n_Fronted_behind=>k_is)
  (case aC_Later=>k_is)
  (case pg_Later=>k_is)
  (case hd_Later=>k_is)
  (case po_Later=>k_is)
  (case sa_Later=>k_is)
  (case mk_Later=>k_is)
  (case kc_Later=>k_is)
  (case n_Later_tree=>k_is)
  (case n_Later_place=>k_is)
  (case aC_Word=>k_is)
  (case pg_Word=>k_is)
  (case hd_Word=>k_is)
  (case po_Word=>k_is)
  (case sa_Word=>k_is)
  (case mk_Word=>k_is)
  (case kc_Word=>k_is)
  (case n_Word_kind=>k_is)
  (case n_Word_load=>k_is)
  (case n_Word_yes=>k_is)
  (case n_Word_no=>k_is)
  (case n_Word_body=>k_is)
  (case n_Word_size=>k_is)
  (case aC_Text=>k_is)
  (case pg_Text=>k_is)
  (case hd_Text=>k_is)
  (case po_Text=>k_is)
  (case sa_Text=>k_is)
  (case mk_Text=>k_is)
  (case kc_Text=>k_is)
  (case n_Text_tree=>k_is)
  (case n_Text_words=>k_is)
  (case aC_Going=>k_is)
  (case pg_Going=>k_is)
  (case hd_Going=>k_is)
  (case po_Going=>k_is)
  (case sa_Going=>k_is)
  (case mk_Going=>k_is)
  (case kc_Going=>k_is)
  (case n_Going_text=>k_is)
  (case n_Going_place=>k_is)
  (case aC_Walk=>k_is)
  (case pg_Walk=>k_is)
  (case hd_Walk=>k_is)
  (case po_Walk=>k_is)
  (case sa_Walk=>k_is)
  (case mk_Walk=>k_is)
  (case kc_Walk=>k_is)
  (case n_Walk_goings=>k_is)
  (case n_Walk_stack=>k_is)
  (case n_Walk_numbers=>k_is)
  (case n_Walk_left=>k_is)
  (case eq_Fronted=>k_is)
  (case ob_Fronted=>k_is)
  (case tu_Fronted=>k_is)
  (case sb_Fronted=>k_is)
  (case ca_Fronted=>k_is)
  (case eq_Later=>k_is)
  (case ob_Later=>k_is)
  (case tu_Later=>k_is)
  (case sb_Later=>k_is)
  (case ca_Later=>k_is)
  (case cn=>k_is)
  (case ct=>k_is)
  (case iTF=>kit_is)
  (case iTL=>kit_is)
  (case iFF=>kit_is)
  (case iLF=>kit_is)
  (case iLL=>kit_is)
  (case a_Fronted___init__=>k_is)
  (case i_Fronted___init__=>k_is)
  (case l_Fronted___init__=>k_is)
  (case c_Fronted___init__=>k_is)
  (case k_Fronted___init__=>k_is)
  (case a_Later___init__=>k_is)
  (case i_Later___init__=>k_is)
  (case l_Later___init__=>k_is)
  (case c_Later___init__=>k_is)
  (case k_Later___init__=>k_is)
  (case a_Word___init__=>k_is)
  (case i_Word___init__=>k_is)
  (case l_Word___init__=>k_is)
  (case c_Word___init__=>k_is)
  (case k_Word___init__=>k_is)
  (case a_Word_body_parts=>k_is)
  (case i_Word_body_parts=>k_is)
  (case l_Word_body_parts=>k_is)
  (case c_Word_body_parts=>k_is)
  (case k_Word_body_parts=>k_is)
  (case a_Text___init__=>k_is)
  (case i_Text___init__=>k_is)
  (case l_Text___init__=>k_is)
  (case c_Text___init__=>k_is)
  (case k_Text___init__=>k_is)
  (case a_Text_word_at=>k_is)
  (case i_Text_word_at=>k_is)
  (case l_Text_word_at=>k_is)
  (case c_Text_word_at=>k_is)
  (case k_Text_word_at=>k_is)
  (case a_Going___init__=>k_is)
  (case i_Going___init__=>k_is)
  (case l_Going___init__=>k_is)
  (case c_Going___init__=>k_is)
  (case k_Going___init__=>k_is)
  (case a_Walk___init__=>k_is)
  (case i_Walk___init__=>k_is)
  (case l_Walk___init__=>k_is)
  (case c_Walk___init__=>k_is)
  (case k_Walk___init__=>k_is)
  (case a_Walk_at_end=>k_is)
  (case i_Walk_at_end=>k_is)
  (case l_Walk_at_end=>k_is)
  (case c_Walk_at_end=>k_is)
  (case k_Walk_at_end=>k_is)
  (case a_Walk_top=>k_is)
  (case i_Walk_top=>k_is)
  (case l_Walk_top=>k_is)
  (case c_Walk_top=>k_is)
  (case k_Walk_top=>k_is)
  (case a_Walk_tally=>k_is)
  (case i_Walk_tally=>k_is)
  (case l_Walk_tally=>k_is)
  (case c_Walk_tally=>k_is)
  (case k_Walk_tally=>k_is)
  (case a_Walk_step=>k_is)
  (case i_Walk_step=>k_is)
  (case l_Walk_step=>k_is)
  (case c_Walk_step=>k_is)
  (case k_Walk_step=>k_is)
  (case a_Walk_move=>k_is)
  (case i_Walk_move=>k_is)
  (case l_Walk_move=>k_is)
  (case c_Walk_move=>k_is)
  (case k_Walk_move=>k_is)
  (case aC=>k_is)
  (case a___init__=>k_is)
  (case i___init__=>k_is)
  (case l___init__=>k_is)
  (case c___init__=>k_is)
  (case k___init__=>k_is)
  (case a_take=>k_is)
  (case i_take=>k_is)
  (case l_take=>k_is)
  (case c_take=>k_is)
  (case k_take=>k_is)
  (case a_enter=>k_is)
  (case i_enter=>k_is)
  (case l_enter=>k_is)
  (case c_enter=>k_is)
  (case k_enter=>k_is)
  (case a_leave=>k_is)
  (case i_leave=>k_is)
  (case l_leave=>k_is)
  (case c_leave=>k_is)
  (case k_leave=>k_is)
  (case a_bracketed=>k_is)
  (case i_bracketed=>k_is)
  (case l_bracketed=>k_is)
  (case c_bracketed=>k_is)
  (case k_bracketed=>k_is)
  (case a_add_word=>k_is)
  (case i_add_word=>k_is)
  (case l_add_word=>k_is)
  (case c_add_word=>k_is)
  (case k_add_word=>k_is)
  (case a_whole=>k_is)
  (case i_whole=>k_is)
  (case l_whole=>k_is)
  (case c_whole=>k_is)
  (case k_whole=>k_is)
  (case pg=>k_is)
  (case hd=>k_is)
  (case po=>k_is)
  (case sa=>k_is)
  (case mk=>k_is)
  (case kc=>k_is)
  (case nR=>k_is)
  (case nP=>k_is)
  (case nN=>k_is)
  (case e_LAY=>k_is)
  (case r_LAY=>exact⟨_,rfl⟩)
  (case e_DROP=>k_is)
  (case r_DROP=>exact⟨_,rfl⟩)
  (case e_TURN=>k_is)
  (case r_TURN=>exact⟨_,rfl⟩)
  (case e_FORK_NO=>k_is)
  (case r_FORK_NO=>exact⟨_,rfl⟩)
  (case e_FORK_YES=>k_is)
  (case r_FORK_YES=>exact⟨_,rfl⟩)
  (case e_WHILE_PAST=>k_is)
  (case r_WHILE_PAST=>exact⟨_,rfl⟩)
  (case e_WHILE_INTO=>k_is)
  (case r_WHILE_INTO=>exact⟨_,rfl⟩)
  (case e_NO_WORD=>k_is)
  (case r_NO_WORD=>exact⟨_,rfl⟩)
  (case e_SWAP=>k_is)
  (case r_SWAP=>exact⟨_,rfl⟩)
  (case e_FRONT=>k_is)
  (case r_FRONT=>exact⟨_,rfl⟩)
  (case e_PART=>k_is)
  (case r_PART=>exact⟨_,rfl⟩)
  (case e_PLACES=>k_is)
  (case r_PLACES=>exact⟨_,rfl⟩)
  (case e_SHUT=>k_is)
  (case r_SHUT=>exact⟨_,rfl⟩)
  (case e_BODIES=>k_is)
  (case r_BODIES=>exact⟨_,rfl⟩)
  (case e_LOOKS=>k_is)
  (case l_LOOKS=>k_is)
  (case t_LOOKS=>exact⟨_,_,rfl,rfl,by decide,by repeat (first | exact .nil | refine .cons ⟨_,rfl⟩ ?_)⟩)
  (case e_NAMES=>k_is)
  (case l_NAMES=>k_is)
  (case y_NAMES=>exact⟨_,_,rfl,rfl,by decide,by repeat (first | exact .nil | refine .cons ⟨_,rfl⟩ ?_)⟩)
  (case x_NAMES=>exact⟨rfl,rfl⟩)
  (case e_NAMELESS=>k_is)
  (case r_NAMELESS=>exact⟨_,rfl⟩)
  (case e_FORK=>k_is)
  (case r_FORK=>exact⟨_,rfl⟩)
  (case e_WHILE=>k_is)
  (case r_WHILE=>exact⟨_,rfl⟩)
  (case e_COPIED=>k_is)
  (case r_COPIED=>exact⟨_,rfl⟩)
  (case e_TWIN=>k_is)
  (case r_TWIN=>exact⟨_,rfl⟩)
  (case z_min=>k_is)
  (case z_len=>k_is)
  (case z_tuple=>k_is)
  (case z_sum=>k_is)
  (case z_list=>k_is)
  (case z_reversed=>k_is)
  (case z_isinstance=>k_is)
  (case z_str=>k_is)
  (case z_any=>k_is)
  (case z_range=>k_is)
  (case z_all=>k_is)
  (case z_bool=>k_is)
  (case z_int=>k_is)
#print axioms PySem.Challenge.cw_selfword_k75_the_selfteller_holds
